import PyProof.Rows.All
import PyProof.StrLoop
import PyProof.TupleIter
import PyProof.RangeIter
import Wide.All
import OpenK.AllK
import Wide.FinOn
import Lean
import PyProof.EqAt
import PyProof.EqKinds
import PyProof.TupleCall
import KE.KRevIter
import PyProof.CollectIter
import PyProof.ListRange
import PyProof.StationsW
import KE.KTryMore
import PyProof.RulesAs
import PyProof.Rows.TupDisplay
import KE.KEqDict
import PyProof.SeqI3
import KE.KDictOf
import PyProof.AttrMissHeap
import PyProof.AttrMissSeq
import PyProof.CollectWalk
import PyProof.ListStr
import KE.KDictList
import PyProof.Rows.SortShell
import PyProof.Rows.SortWalk
import PyProof.NeKinds
import KE.KSortTup
import PyProof.ZipIter
import PyProof.Rows.ZipGen
import PyProof.ExcClass2
import PyProof.ExcInit
import PyProof.Draws
import PyProof.EnumMake
import PyProof.DictValues
import PyProof.DictWalks
import PyProof.Rows.CallKwBuiltin
import PySem.Challenge.RW_floorways_k14_who_and_open
def PySem.W.Fast.tw2500285686910194079 : Unit := ()
def PySem.W.Fast.tw5390378044913020169 : Unit := ()
def PySem.W.Fast.tw9538754266489724948 : Unit := ()
def PySem.W.Fast.tw9062984467318650924 : Unit := ()
def PySem.W.Fast.tw8452268319297633090 : Unit := ()
def PySem.W.Fast.tw13345867159293602158 : Unit := ()
def PySem.W.Fast.tw9205508935890405009 : Unit := ()
def PySem.W.Fast.tw965553711839070067 : Unit := ()
def PySem.W.Fast.tw14973894161878604564 : Unit := ()
def PySem.W.Fast.tw16180018278439417109 : Unit := ()
def PySem.W.Fast.tw12611715355856711245 : Unit := ()
def PySem.W.Fast.tw17226324647903687763 : Unit := ()
def PySem.W.Fast.tw17567877584819020416 : Unit := ()
def PySem.W.Fast.tw13098261744437961769 : Unit := ()
def PySem.W.Fast.tw10186100395929483622 : Unit := ()
def PySem.W.Fast.tw3081213531442480473 : Unit := ()
def PySem.W.Fast.tw17451243063106591176 : Unit := ()
def PySem.W.Fast.tw5958953668562593824 : Unit := ()
def PySem.W.Fast.tw1081204925636867982 : Unit := ()
def PySem.W.Fast.tw9861433020986155975 : Unit := ()
def PySem.W.Fast.tw14067824611045098555 : Unit := ()
def PySem.W.Fast.tw10990444422220921861 : Unit := ()
def PySem.W.Fast.tw17074677347646423136 : Unit := ()
def PySem.W.Fast.tw10675156281875912381 : Unit := ()
def PySem.W.Fast.tw17490519117026627202 : Unit := ()
def PySem.W.Fast.tw13673614276276605133 : Unit := ()
def PySem.W.Fast.tw5995505428970962032 : Unit := ()
def PySem.W.Fast.tw8682090178234873549 : Unit := ()
def PySem.W.Fast.tw17877862192996228120 : Unit := ()
def PySem.W.Fast.tw7458135591527060067 : Unit := ()
def PySem.W.Fast.tw10035219689880177211 : Unit := ()
def PySem.W.Fast.tw463617407469257146 : Unit := ()
def PySem.W.Fast.tw12643908770394383220 : Unit := ()
def PySem.W.Fast.tw17492464920424256379 : Unit := ()
def PySem.W.Fast.tw12379269967423516159 : Unit := ()
def PySem.W.Fast.tw12771808495977261233 : Unit := ()
def PySem.W.Fast.tw18162353661282210356 : Unit := ()
def PySem.W.Fast.tw9011688238156932404 : Unit := ()
def PySem.W.Fast.tw2702940982888759731 : Unit := ()
def PySem.W.Fast.tw9783553961549612089 : Unit := ()
def PySem.W.Fast.tw10101514302459257566 : Unit := ()
def PySem.W.Fast.tw15176603940824797439 : Unit := ()
def PySem.W.Fast.tw10775668086185888431 : Unit := ()
def PySem.W.Fast.tw12828605263640659855 : Unit := ()
def PySem.W.Fast.tw15078936117563265044 : Unit := ()
def PySem.W.Fast.tw8683883804155760866 : Unit := ()
def PySem.W.Fast.tw9569803556355764666 : Unit := ()
def PySem.W.Fast.tw80832138892311130 : Unit := ()
def PySem.W.Fast.tw15443885370129437655 : Unit := ()
def PySem.W.Fast.tw11473904904594570082 : Unit := ()
def PySem.W.Fast.tw14965939660990104481 : Unit := ()
def PySem.W.Fast.tw10862178754636219287 : Unit := ()
def PySem.W.Fast.tw13622492622287649931 : Unit := ()
def PySem.W.Fast.tw10994433007790452317 : Unit := ()
def PySem.W.Fast.tw3915029246395455918 : Unit := ()
def PySem.W.Fast.tw10312042230756272384 : Unit := ()
def PySem.W.Fast.tw7798504963607482341 : Unit := ()
def PySem.W.Fast.tw3939912160123847502 : Unit := ()
def PySem.W.Fast.tw5276627779688806249 : Unit := ()
def PySem.W.Fast.tw9080230869473929475 : Unit := ()
def PySem.W.Fast.tw10629441709778446122 : Unit := ()
def PySem.W.Fast.tw12350685979433409943 : Unit := ()
def PySem.W.Fast.tw16286440077018401920 : Unit := ()
def PySem.W.Fast.tw7193783596249556538 : Unit := ()
def PySem.W.Fast.tw859306317805238406 : Unit := ()
def PySem.W.Fast.tw1002886678440789555 : Unit := ()
def PySem.W.Fast.tw12642829178664905945 : Unit := ()
def PySem.W.Fast.tw11786914549508620234 : Unit := ()
def PySem.W.Fast.tw17304085732468883109 : Unit := ()
def PySem.W.Fast.tw167495851224247890 : Unit := ()
def PySem.W.Fast.tw6390525149839577620 : Unit := ()
def PySem.W.Fast.tw8849770758205465964 : Unit := ()
def PySem.W.Fast.tw8142490636417919234 : Unit := ()
def PySem.W.Fast.tw1614452813756408142 : Unit := ()
def PySem.W.Fast.tw14617262358355332066 : Unit := ()
def PySem.W.Fast.tw17983959934127814521 : Unit := ()
def PySem.W.Fast.tw14354351099578595922 : Unit := ()
def PySem.W.Fast.tw5518422798661531248 : Unit := ()
def PySem.W.Fast.tw17309300015650886820 : Unit := ()
def PySem.W.Fast.tw14110392913680421833 : Unit := ()
def PySem.W.Fast.tw10705057364242652915 : Unit := ()
def PySem.W.Fast.tw6565408662910828310 : Unit := ()
def PySem.W.Fast.tw15106007984689452431 : Unit := ()
def PySem.W.Fast.tw7091074363485717762 : Unit := ()
def PySem.W.Fast.tw13102722457254231094 : Unit := ()
def PySem.W.Fast.tw3426060769128122093 : Unit := ()
def PySem.W.Fast.tw6550455368052552467 : Unit := ()
def PySem.W.Fast.tw1414712097035216429 : Unit := ()
def PySem.W.Fast.tw12212189163036204742 : Unit := ()
def PySem.W.Fast.tw17777769293874461564 : Unit := ()
def PySem.W.Fast.tw12356417531077593922 : Unit := ()
def PySem.W.Fast.tw14283063614369474878 : Unit := ()
def PySem.W.Fast.tw6829658725153527311 : Unit := ()
def PySem.W.Fast.tw4316806304384793754 : Unit := ()
def PySem.W.Fast.tw4318282177040958456 : Unit := ()
def PySem.W.Fast.tw6917680827728653617 : Unit := ()
def PySem.W.Fast.tw15311965692307542904 : Unit := ()
def PySem.W.Fast.tw5851564676313611152 : Unit := ()
def PySem.W.Fast.tw14364555535889429138 : Unit := ()
def PySem.W.Fast.tw8778494730361266637 : Unit := ()
def PySem.W.Fast.tw9374599218138463559 : Unit := ()
def PySem.W.Fast.tw11878818682715406631 : Unit := ()
def PySem.W.Fast.tw14202582169827145916 : Unit := ()
def PySem.W.Fast.tw1250768917420599132 : Unit := ()
def PySem.W.Fast.tw6427221889085510955 : Unit := ()
def PySem.W.Fast.tw9045742575070289527 : Unit := ()
def PySem.W.Fast.tw5976666153353852048 : Unit := ()
def PySem.W.Fast.tw13710554664366009923 : Unit := ()
def PySem.W.Fast.tw12900481428190912327 : Unit := ()
def PySem.W.Fast.tw17477295641390535601 : Unit := ()
def PySem.W.Fast.tw4719220075018821619 : Unit := ()
def PySem.W.Fast.tw8897309817857177307 : Unit := ()
def PySem.W.Fast.tw12117601304752134533 : Unit := ()
def PySem.W.Fast.tw10038813930535465453 : Unit := ()
def PySem.W.Fast.tw3454589326486577480 : Unit := ()
def PySem.W.Fast.tw601766347733743836 : Unit := ()
def PySem.W.Fast.tw16715784568650965792 : Unit := ()
def PySem.W.Fast.tw13821048359252052771 : Unit := ()
def PySem.W.Fast.tw278106594673719408 : Unit := ()
def PySem.W.Fast.tw565224301444423892 : Unit := ()
def PySem.W.Fast.tw17886206313108428748 : Unit := ()
def PySem.W.Fast.tw4310483839283340569 : Unit := ()
def PySem.W.Fast.tw12956326891425652825 : Unit := ()
def PySem.W.Fast.tw3421994584766841693 : Unit := ()
def PySem.W.Fast.tw4735605708220814263 : Unit := ()
def PySem.W.Fast.tw7498842199730889542 : Unit := ()
set_option Elab.async false
set_option linter.all false
set_option maxRecDepth 100000
namespace L2
open PySem PyProof.Rows PySem.Calls
def Hd (A : Around) (h : Heap) : Prop :=
  A.handled = none ∨ ∃ (ea C : Addr) (dx : Option Addr) (vs : Array Value) (sl : Array (Option Value)), A.handled = some (.ref ea) ∧ h.get? ea = some ⟨.ref C, dx, .fields vs, sl⟩ ∧ vs[2]? = some Value.none
theorem Hd.keeps {A : Around} {h h' : Heap} (d : Hd A h) (k : ∀ b o, h.get? b = some o → h'.get? b = some o) : Hd A h' := by
  rcases d with d | ⟨ea, C, dx, vs, sl, d1, d2, d3⟩
  · exact .inl d
  · exact .inr ⟨ea, C, dx, vs, sl, d1, k _ _ d2, d3⟩
theorem Hd.update {A : Around} {h : Heap} (d : Hd A h) {it : Addr} {o : Obj} {n : String} (ho : h.get? it = some o) (hc : o.cls = .type n) (f : Obj → Obj) : Hd A (h.update it f) := by
  rcases d with d | ⟨ea, C, dx, vs, sl, d1, d2, d3⟩
  · exact .inl d
  · refine .inr ⟨ea, C, dx, vs, sl, d1, ?_, d3⟩
    rw [Heap.get?_update_other h f (fun z => ?_)]
    · exact d2
    · subst z
      rw [ho] at d2
      cases d2
      cases hc
section
variable {prog : Program} {w : World} {A : Around} {E : Value → Shared → Prop} {s : Shared}
theorem entry_unchain : entryFor table "proto.unchain" = some Builtin.«proto.unchain» := entryFor_of_tree (by kernel_rfl)
theorem raise_new {α : Type} {Q : α → Shared → Prop} {e : Addr} {c : Value} {d : Option Addr} {ws : Array Value} {sl : Array (Option Value)} (hd : Hd A s.heap) (hn : ∀ ea, A.handled = some (.ref ea) → ea ≠ e) (he : s.heap.get? e = some ⟨c, d, .fields ws, sl⟩) (hz : 2 < ws.size)
    (k : ∀ h', (∀ b o, b ≠ e → s.heap.get? b = some o → h'.get? b = some o) → (∃ o, h'.get? e = some o ∧ o.cls = c) → E (.ref e) { s with heap := h' }) : wpAny (model prog w) A (raiseNew (.ref e) : Sem α) Q E s := by
  rcases hd with hd | ⟨ea, C, dx, vs, sl2, d1, d2, d3⟩
  · unfold raiseNew
    refine wpAny_bind (wpAny_handled ?_)
    rw [hd]
    exact wpAny_bind (wpAny_pure (wpAny_throw (k _ (fun _ _ _ z => z) ⟨_, he, rfl⟩)))
  · have ne := hn ea d1
    unfold raiseNew
    refine wpAny_bind (wpAny_handled ?_)
    rw [d1]
    have hb : (Value.ref ea != Value.ref e) = true := by simp [ne]
    dsimp only
    rw [if_pos hb]
    refine wpAny_bind (wpAny_holding (wpAny_runValue (codeAny_builtin entry_unchain ?_)))
    show wpAny _ _ (field (.ref ea) 2 >>= _) _ _ s
    refine wpAny_bind (wpAny_field d2 rfl d3 ?_)
    rw [if_pos (by decide)]
    refine wpAny_bind (wpAny_pure (wpAny_pure ?_))
    unfold updateField
    refine wpAny_bind (wpAny_bind (wpAny_load he ?_))
    show wpAny _ _ (if 2 < ws.size then _ else _) _ _ s
    rw [if_pos hz]
    refine wpAny_update he (wpAny_throw (k _ (fun b o hb z => ?_) ⟨_, Heap.get?_update_self _ he rfl, rfl⟩))
    rw [Heap.get?_update_other _ _ (Ne.symm hb)]
    exact z
theorem stop_told {α : Type} {Q : α → Shared → Prop} (hd : Hd A s.heap) (k : ∀ h' e, (∀ b o, s.heap.get? b = some o → h'.get? b = some o) → (∃ o, h'.get? e = some o ∧ o.cls = .type "StopIteration") → E (.ref e) { s with heap := h' }) :
    wpAny (model prog w) A (newExc (.type "StopIteration") [] >>= fun e => (raiseNew e : Sem α)) Q E s := by
  refine wpAny_bind ?_
  simp only [newExc, newTuple]
  refine wpAny_bind (wpAny_newObj_type ?_ (by size_fits))
  refine wpAny_bind (m := firstArgMember _ _) (wpAny_of_eq (a := Value.none) (by first | rfl | (simp only [firstArgMember]; rfl)) ?_)
  refine wpAny_newObj_type ?_ (by size_fits)
  have up : ∀ b o, s.heap.get? b = some o → ((s.heap.push { cls := .type "tuple", data := .seq #[] }).push { cls := .type "StopIteration", data := .fields (#[Value.ref s.heap.objs.size, .none, .none, .none, .bool false, .none] ++ ownMembersOf (.type "StopIteration") []) }).get? b = some o :=
    fun b o z => Heap.get?_push_of_some _ (Heap.get?_push_of_some _ z)
  have lt : ∀ b o, s.heap.get? b = some o → b ≠ (s.heap.push { cls := .type "tuple", data := .seq #[] }).objs.size := fun b o z => Nat.ne_of_lt (Heap.lt_size (Heap.get?_push_of_some _ z))
  refine raise_new (hd.keeps up) (fun ea z => ?_) (Heap.get?_push_size _ rfl) (by rw [Array.size_append]; exact Nat.lt_of_lt_of_le (show 2 < 6 by decide) (Nat.le_add_right 6 _)) fun h' k1 k2 => k h' _ (fun b o z => k1 b o (lt b o z) (up b o z)) k2
  rcases hd with hd | ⟨eb, C, dx, vs, sl, d1, d2, d3⟩
  · rw [hd] at z
    cases z
  · rw [d1] at z
    cases z
    exact lt _ _ d2
theorem stop_seen {Q : Option Value → Shared → Prop} {e : Addr} (he : ∃ o, s.heap.get? e = some o ∧ o.cls = .type "StopIteration") (h : Q none s) :
    wpAny (model prog w) A (do if ← isInstance (.ref e) (.type "StopIteration") then pure none else throw (.ref e)) Q E s :=
  wpAny_bind (wpAny_isInstance (T := "StopIteration") (b := true) he isSubtype_stop (wpAny_pure h))
theorem list_end {it l : Addr} {i : Nat} {items : Array Value} {Q : Option Value → Shared → Prop} (hh : Hd A s.heap) (hit : s.heap.IsListIter it l i) (hl : s.heap.IsList l items) (hx : items[i]? = none)
    (hQ : ∀ h', Heap.ExtBut it s.heap h' → Q none { s with heap := h' }) : wpAny (model prog w) A (pyNext (.ref it)) Q E s := by
  obtain ⟨o, ho, hc, hd⟩ := id hit
  obtain ⟨_, hol, _, _, hdl⟩ := hl
  unfold pyNext
  refine wpAny_bind (wpAny_attempt (wpAny_callSpecial?_slot (name := Str.ofString "__next__") hit.typeIs slot_listiter_next (wpAny_call_entry slot_listiter_next hit.typeIs entry_listiter_next ?_ (args_listiter_next _))))
  show wpAny _ _ (field (.ref it) 0 >>= _) _ _ s
  refine wpAny_bind (wpAny_field ho hd (x := .ref l) rfl ?_)
  rw [if_neg (fun z : (Value.ref l == Value.none) = true => nomatch z)]
  show wpAny _ _ (field (.ref it) 1 >>= _) _ _ s
  refine wpAny_bind (wpAny_field ho hd (x := .int i 0) rfl ?_)
  show wpAny _ _ (seqItems? (.ref l) >>= _) _ _ s
  refine wpAny_bind (wpAny_seqItems hol hdl ?_)
  simp only [Int.toNat_natCast, hx]
  refine wpAny_bind (wpAny_rule (wpAny_bind (wpAny_setField ho hd (by simp) ?_)))
  refine stop_told (hh.update (A := A) ho hc _) fun h' e k1 k2 => stop_seen k2 (hQ h' fun b o hb z => k1 b o ?_)
  rw [Heap.get?_update_other _ _ (Ne.symm hb)]
  exact z
theorem tuple_end {it t : Addr} {i : Nat} {items : Array Value} {Q : Option Value → Shared → Prop} (hh : Hd A s.heap) (hit : s.heap.IsTupleIter it t i) (ht : s.heap.IsTuple t items) (hx : items[i]? = none)
    (hQ : ∀ h', Heap.ExtBut it s.heap h' → Q none { s with heap := h' }) : wpAny (model prog w) A (pyNext (.ref it)) Q E s := by
  obtain ⟨o, ho, hc, hd⟩ := id hit
  obtain ⟨_, hol, _, _, hdl⟩ := ht
  unfold pyNext
  refine wpAny_bind (wpAny_attempt (wpAny_callSpecial?_slot (name := Str.ofString "__next__") hit.typeIs F.slot_tuple_iterator_next (wpAny_call_entry F.slot_tuple_iterator_next hit.typeIs F.entry_tuple_iterator_next ?_ (F.args_tuple_iterator_next_1 _))))
  show wpAny _ _ (field (.ref it) 0 >>= _) _ _ s
  refine wpAny_bind (wpAny_field ho hd (x := .ref t) rfl ?_)
  rw [if_neg (fun z : (Value.ref t == Value.none) = true => nomatch z)]
  show wpAny _ _ (field (.ref it) 1 >>= _) _ _ s
  refine wpAny_bind (wpAny_field ho hd (x := .int i 0) rfl ?_)
  show wpAny _ _ (seqItems? (.ref t) >>= _) _ _ s
  refine wpAny_bind (wpAny_seqItems hol hdl ?_)
  simp only [Int.toNat_natCast, hx]
  refine wpAny_bind (wpAny_rule (wpAny_bind (wpAny_setField ho hd (by simp) ?_)))
  refine stop_told (hh.update (A := A) ho hc _) fun h' e k1 k2 => stop_seen k2 (hQ h' fun b o hb z => k1 b o ?_)
  rw [Heap.get?_update_other _ _ (Ne.symm hb)]
  exact z
theorem range_end {it : Addr} {x left step : Int} {Q : Option Value → Shared → Prop} (hh : Hd A s.heap) (hit : IsRangeIter s.heap it x left step) (hleft : left ≤ 0)
    (hQ : ∀ h', Heap.ExtBut it s.heap h' → Q none { s with heap := h' }) : wpAny (model prog w) A (pyNext (.ref it)) Q E s := by
  have hT : s.TypeIs (.ref it) "range_iterator" := ⟨_, hit, rfl⟩
  unfold pyNext
  refine wpAny_bind (wpAny_attempt (wpAny_callSpecial?_slot (name := Str.ofString "__next__") hT F.slot_range_iterator_next (wpAny_call_entry F.slot_range_iterator_next hT F.entry_range_iterator_next ?_ (F.args_range_iterator_next_1 _))))
  show wpAny _ _ (field (.ref it) 0 >>= _) _ _ s
  refine wpAny_bind (wpAny_field hit rfl (x := rawInt x) rfl ?_)
  show wpAny _ _ (field (.ref it) 1 >>= _) _ _ s
  refine wpAny_bind (wpAny_field hit rfl (x := rawInt left) rfl ?_)
  show wpAny _ _ (field (.ref it) 2 >>= _) _ _ s
  refine wpAny_bind (wpAny_field hit rfl (x := rawInt step) rfl ?_)
  show wpAny _ _ (if left ≤ 0 then _ else _) _ _ s
  rw [if_pos hleft]
  refine wpAny_bind (wpAny_rule (wpAny_bind ?_))
  exact stop_told (A := A.in1) hh fun h' e k1 k2 => stop_seen k2 (hQ h' fun b o hb z => k1 b o z)
theorem tup_unpacked {env : Env} {elts : List Expr} {x1} {pos : Pos} {t : Addr} {items : Array Value} {Q : Unit → Shared → Prop} (hh : Hd A s.heap) (ht : IsTup s.heap t items) (hn : (assignEach elts env).length = items.size) (hstar : (assignEach elts env).findIdx? (·.1) = none)
    (h : ∀ h', Heap.ExtBut s.heap.objs.size s.heap h' → wpAny (model prog w) A (assignInOrder ((assignEach elts env).map (·.2)) items.toList) Q E { s with heap := h' }) : wpAny (model prog w) A (assign (.Tuple elts x1 pos) env (.ref t)) Q E s := by
  have ne : t ≠ s.heap.objs.size := by obtain ⟨o, ho, _⟩ := ht; exact Nat.ne_of_lt (Heap.lt_size ho)
  rw [assign_Tuple]
  refine wpAny_bind (wpAny_standAt ?_)
  unfold unpack
  rw [hn, hstar]
  refine wpAny_bind (wpAny_holding ?_)
  unfold unpackItems
  refine wpAny_bind ?_
  unfold notIterableAtAll
  refine wpAny_bind (wpAny_specialOf ht.typeIs slot_tuple_iter.lookup (wpAny_pure ?_))
  simp only [Bool.false_eq_true, if_false]
  refine wpAny_bind (wpAny_holding (iter_tuple ht ?_))
  refine wpAny_bind (wpAny_holding (draw_tuple ne items.size 0 _ _ ⟨_, Heap.get?_push_size _ rfl, rfl, rfl⟩ (ht.push _) (by omega) fun h₁ hit₁ hs₁ => ?_))
  rw [List.drop_zero, List.take_of_length_le (by simp)]
  rw [if_neg (by simp)]
  have k1 : ∀ b o, s.heap.get? b = some o → h₁.get? b = some o := fun b o z => (hs₁.2 b (Nat.ne_of_lt (Heap.lt_size z))).trans (Heap.get?_push_of_some _ z)
  have ht₁ : IsTup h₁ t items := (ht.push _).extBut hs₁.extBut ne
  refine wpAny_bind (wpAny_holding (tuple_end (s := { s with heap := h₁ }) (hh.keeps k1) hit₁ ht₁ (by simp) fun h₂ he₂ => ?_))
  simp only [Option.isSome_none, Bool.false_eq_true, if_false]
  exact wpAny_pure (h h₂ fun b o hb z => he₂ b o hb (k1 b o z))
end
end L2
set_option Elab.async false
set_option linter.all false
set_option maxRecDepth 100000
namespace L2
open PySem PySem.Spec PyProof.Rows
abbrev Key := Sum Int Str
def keyIs : Key → Value → Bool
  | .inl k, v => Value.isInt k v
  | .inr x, v => Value.isStrOf x v
def keyH (w : World) : Key → Int
  | .inl k => hashInt k
  | .inr x => hashStr w x
theorem keyIs_shape : ∀ {k : Key} {v : Value}, keyIs k v = true → (∃ i t, k = Sum.inl i ∧ v = Value.int i t) ∨ (∃ x t, k = Sum.inr x ∧ v = Value.str x t)
  | .inl i, v, h => by
    obtain ⟨t, e⟩ := Value.isInt_shape (k := i) (v := v) h
    exact .inl ⟨i, t, rfl, e⟩
  | .inr x, v, h => by
    obtain ⟨t, e⟩ := Value.isStrOf_shape (x := x) (v := v) h
    exact .inr ⟨x, t, rfl, e⟩
theorem keyIs_int (i : Int) (t : Tok) : keyIs (.inl i) (.int i t) = true := by simp [keyIs, Value.isInt]
theorem keyIs_str (x : Str) (t : Tok) : keyIs (.inr x) (.str x t) = true := by simp [keyIs, Value.isStrOf]
theorem key_ll (a b : Int) : decide ((Sum.inl a : Key) = Sum.inl b) = (a == b) := by
  by_cases e : a = b
  · subst e; simp
  · have h : ¬ (Sum.inl a : Key) = Sum.inl b := fun q => e (Sum.inl.inj q)
    rw [decide_eq_false h]
    exact (beq_eq_false_iff_ne.mpr e).symm
theorem key_rr (a b : Str) : decide ((Sum.inr a : Key) = Sum.inr b) = decide (a = b) := by
  by_cases e : a = b
  · subst e; simp
  · have h : ¬ (Sum.inr a : Key) = Sum.inr b := fun q => e (Sum.inr.inj q)
    rw [decide_eq_false h, decide_eq_false e]
theorem key_lr (a : Int) (b : Str) : decide ((Sum.inl a : Key) = Sum.inr b) = false := decide_eq_false (fun q => nomatch q)
theorem key_rl (a : Str) (b : Int) : decide ((Sum.inr a : Key) = Sum.inl b) = false := decide_eq_false (fun q => nomatch q)
def mixKind (prog : Program) (w : World) : PySem.KeyKind prog w Key where
  is := keyIs
  hash := keyH w
  inj := fun v a b ha hb => by
    rcases keyIs_shape ha with ⟨i, t, rfl, rfl⟩ | ⟨x, t, rfl, rfl⟩
    · rcases keyIs_shape hb with ⟨j, u, rfl, e⟩ | ⟨y, u, rfl, e⟩
      · injection e with e1 _; rw [e1]
      · exact nomatch e
    · rcases keyIs_shape hb with ⟨j, u, rfl, e⟩ | ⟨y, u, rfl, e⟩
      · exact nomatch e
      · injection e with e1 _; rw [e1]
  byValue := fun k v h => by
    rcases keyIs_shape h with ⟨i, t, rfl, rfl⟩ | ⟨x, t, rfl, rfl⟩ <;> rfl
  pyHash := fun hv h => by
    rcases keyIs_shape hv with ⟨i, t, rfl, rfl⟩ | ⟨x, t, rfl, rfl⟩
    · exact wpAny_pyHash_int h
    · exact wpAny_pyHash_str h
  eqBool := fun hu hv h => by
    rcases keyIs_shape hu with ⟨i, t, rfl, rfl⟩ | ⟨x, t, rfl, rfl⟩
    · rcases keyIs_shape hv with ⟨j, u, rfl, rfl⟩ | ⟨y, u, rfl, rfl⟩
      · rw [key_ll] at h; exact wpAny_eqBool_int h
      · rw [key_lr] at h; exact SeqAt.EqAt.int_str i t y u _ _ _ _ h
    · rcases keyIs_shape hv with ⟨j, u, rfl, rfl⟩ | ⟨y, u, rfl, rfl⟩
      · rw [key_rl] at h; exact SeqAt.EqAt.str_int x t j u _ _ _ _ h
      · rw [key_rr] at h; exact wpAny_eqBool_str h
  «strs» := fun k x t v h => by
    rcases keyIs_shape h with ⟨i, u, rfl, e⟩ | ⟨y, u, rfl, e⟩
    · exact nomatch e
    · injection e with e1 _
      subst e1
      cases v <;> rfl
theorem mixKind_int (prog : Program) (w : World) (i : Int) (t : Tok) : (mixKind prog w).is (.inl i) (.int i t) = true := keyIs_int i t
theorem mixKind_str (prog : Program) (w : World) (x : Str) (t : Tok) : (mixKind prog w).is (.inr x) (.str x t) = true := keyIs_str x t
end L2
namespace L2
open PySem PySem.Spec PyProof.Rows
inductive V where
  | non | bl (b : Bool) | int (i : Int) | str (x : Str) | byt (b : Array UInt8) | flt (b : UInt64) | ref (a : Addr) | ty (n : String)
  deriving DecidableEq
def RelV : V → Value → Prop
  | .non, u => u = Value.none
  | .bl b, u => u = Value.bool b
  | .int i, u => ∃ t, u = Value.int i t
  | .str x, u => ∃ t, u = Value.str x t
  | .byt b, u => ∃ t, u = Value.bytes b t
  | .flt b, u => ∃ t, u = Value.float b t
  | .ref a, u => u = Value.ref a
  | .ty n, u => u = Value.type n
abbrev Vals : List V → List Value → Prop := Paired RelV
theorem Vals.length {xs : List V} {us : List Value} (r : Vals xs us) : xs.length = us.length := Paired.length r
theorem Vals.get : ∀ {xs : List V} {us : List Value} {i : Nat} {x : V}, Vals xs us → xs[i]? = some x → ∃ u, us[i]? = some u ∧ RelV x u
  | _, _, _, _, .nil, e => by simp at e
  | _, _, 0, _, .cons r _, e => by simp at e; subst e; exact ⟨_, rfl, r⟩
  | _, _, i + 1, x, .cons _ t, e => by
    obtain ⟨u, h1, h2⟩ := Vals.get (i := i) (x := x) t (by simpa using e)
    exact ⟨u, by simpa using h1, h2⟩
theorem Vals.set {x : V} {u : Value} (r : RelV x u) : ∀ {xs : List V} {us : List Value} (i : Nat), Vals xs us → Vals (xs.set i x) (us.set i u)
  | _, _, _, .nil => .nil
  | _, _, 0, .cons _ t => .cons r t
  | _, _, i + 1, .cons q t => .cons q (Vals.set r i t)
theorem Vals.append : ∀ {xs ys : List V} {us ws : List Value}, Vals xs us → Vals ys ws → Vals (xs ++ ys) (us ++ ws)
  | _, _, _, _, .nil, s => s
  | _, _, _, _, .cons r t, s => .cons r (Vals.append t s)
theorem Vals.take : ∀ {xs : List V} {us : List Value} (n : Nat), Vals xs us → Vals (xs.take n) (us.take n)
  | _, _, 0, _ => .nil
  | _, _, _ + 1, .nil => .nil
  | _, _, n + 1, .cons r t => .cons r (Vals.take n t)
theorem Vals.drop : ∀ {xs : List V} {us : List Value} (n : Nat), Vals xs us → Vals (xs.drop n) (us.drop n)
  | _, _, 0, r => r
  | _, _, _ + 1, .nil => .nil
  | _, _, n + 1, .cons _ t => Vals.drop n t
theorem Vals.none_of : ∀ {xs : List V} {us : List Value} {i : Nat}, Vals xs us → xs[i]? = none → us[i]? = none := fun {xs us i} r e => by
  have h1 := r.length
  have h2 : xs.length ≤ i := List.getElem?_eq_none_iff.mp e
  exact List.getElem?_eq_none_iff.mpr (by omega)
def RelO : Option V → Option Value → Prop
  | some v, some u => RelV v u
  | none, none => True
  | _, _ => False
def KV {κ : Type} : List (κ × V) → List (κ × Value) → Prop := Paired fun (p : κ × V) (q : κ × Value) => p.1 = q.1 ∧ RelV p.2 q.2
def kV : Key → V
  | .inl i => .int i
  | .inr x => .str x
inductive HO where
  | lst (xs : List V)
  | tup (xs : List V)
  | dK (kvs : List (Key × V)) | dT (kvs : List (List Key × V))
  | set (S : Int → Bool) (n : Nat)
  | ins (C dx : Addr) (fs : List (Str × V))
  | own (x : Addr)
  | xd (fs : List (Str × V))
  | met (f x : Addr)
  | rng (lo hi : Int)
  | frz (o : Obj) (u : HO)
  | tbl (ps : Array Value)
  | ext (φ : Heap → Prop)
abbrev Hp := Addr → Option HO
def upd (H : Hp) (a : Addr) (o : HO) : Hp := fun b => if b = a then some o else H b
theorem upd_same {H : Hp} {a : Addr} {o : HO} : upd H a o a = some o := by unfold upd; rw [if_pos rfl]
theorem upd_ne {H : Hp} {a b : Addr} {o : HO} (h : b ≠ a) : upd H a o b = H b := by unfold upd; rw [if_neg h]
theorem ne_of {H : Hp} {a b : Addr} {o u : HO} (h : H a = some o) (h' : H b = some u) (d : o ≠ u) : a ≠ b := by
  intro e; subst e; rw [h] at h'; exact d (Option.some.inj h')
theorem ne_of_none {H : Hp} {a b : Addr} {o : HO} (h : H a = some o) (h' : H b = none) : a ≠ b := by
  intro e; subst e; rw [h] at h'; cases h'
section
variable (P : Program) (w : World)
def ObjOk (H : Hp) (h : Heap) (a : Addr) : HO → Prop
  | .lst xs => xs.length ≤ sizeLine ∧ ∃ (its : List Value) (n : Nat), Vals xs its ∧ h.get? a = some { cls := .type "list", data := .seq its.toArray n }
  | .tup xs => xs.length ≤ sizeLine ∧ ∃ its : List Value, Vals xs its ∧ IsTup h a its.toArray
  | .dK kvs => kvs.length ≤ sizeLine ∧ (a == sysModules) = false ∧ ∃ vs, KV kvs vs ∧ h.DictOf (mixKind P w) a vs
  | .dT kvs => kvs.length ≤ sizeLine ∧ (a == sysModules) = false ∧ ∃ xs : List (List Key × Addr × Value),
      Paired (fun (p : List Key × V) (q : List Key × Addr × Value) => p.1 = q.1 ∧ H q.2.1 = some (.tup (p.1.map kV)) ∧ RelV p.2 q.2.2) kvs xs ∧
      ∃ o es ep, h.get? a = some o ∧ o.ExactDict ∧ o.data = .dict es ep ∧ es.toList = xs.map (entryOfKey (tupleKind (mixKind P w))) ∧ (xs.map (·.1)).Nodup
  | .set S n => h.SetOf (intKind P w) a S n
  | .ins C dx fs => H dx = some (.own a) ∧ fs.length ≤ 1000 ∧ dx ≠ a ∧ h.get? a = some (PySem.W.instObj C dx) ∧
      ∃ mA, h.Ns1 dx mA ∧ (∀ f, RelO (fs.lookup f) (mA f)) ∧ PySem.Within mA (fs.map (·.1))
  | .own _ => ∃ o, h.get? a = some o
  | .xd fs => ∃ mA, h.Ns1 a mA ∧ ∀ f, RelO (fs.lookup f) (mA f)
  | .rng lo hi => ∃ t u v, h.get? a = some { cls := .type "range", data := .fields #[.int lo t, .int hi u, .int 1 v] }
  | .frz o u => h.get? a = some o ∧ ObjOk H h a u
  | .tbl ps => h.get? a = some { cls := .none, data := .fields ps }
  | .met f x => h.get? a = some (PySem.W.methodObj (.ref f) (.ref x))
  | .ext φ => φ h ∧ (∃ o, h.get? a = some o) ∧ ∀ h1 h2 : Heap, φ h1 → (∀ o, h1.get? a = some o → h2.get? a = some o) → φ h2
def HOk (H : Hp) (h : Heap) : Prop := ∀ a o, H a = some o → ObjOk P w H h a o
end
section
variable {P : Program} {w : World} {H H' : Hp} {h h' : Heap} {a : Addr} {o : HO}
theorem ObjOk.lt (x : ObjOk P w H h a o) : a < h.objs.size := by
  cases o with
  | lst xs => obtain ⟨_, _, _, _, e⟩ := x; exact Heap.lt_size e
  | tup xs => obtain ⟨_, _, _, p⟩ := x; exact p.lt
  | dK kvs => obtain ⟨_, _, _, _, o, _, _, e, _⟩ := x; exact Heap.lt_size e
  | dT kvs => obtain ⟨_, _, _, _, o, _, _, e, _⟩ := x; exact Heap.lt_size e
  | set S n => obtain ⟨o, _, _, _, e, _⟩ := x; exact Heap.lt_size e
  | ins C dx fs => obtain ⟨_, _, _, e, _⟩ := x; exact Heap.lt_size e
  | own y => obtain ⟨_, e⟩ := x; exact Heap.lt_size e
  | xd fs => obtain ⟨_, ⟨_, _, _, e, _⟩, _⟩ := x; exact Heap.lt_size e
  | rng lo hi => obtain ⟨_, _, _, e⟩ := x; exact Heap.lt_size e
  | frz ob u => obtain ⟨e, _⟩ := x; exact Heap.lt_size e
  | tbl ps => exact Heap.lt_size (show h.get? a = some _ from x)
  | met f y => exact Heap.lt_size (show h.get? a = some _ from x)
  | ext φ => obtain ⟨_, ⟨_, e⟩, _⟩ := x; exact Heap.lt_size e
theorem Paired.mapP {α β : Type} {F G : α → β → Prop} : ∀ {l₁ : List α} {l₂ : List β}, Paired F l₁ l₂ → (∀ a b, F a b → G a b) → Paired G l₁ l₂
  | _, _, .nil, _ => .nil
  | _, _, .cons r t, f => .cons (f _ _ r) (Paired.mapP t f)
theorem ObjOk.stay (x : ObjOk P w H h a o) (k : ∀ b u, (b = a ∨ H b = some (.own a)) → h.get? b = some u → h'.get? b = some u)
    (ho : ∀ b, H b = some (.own a) → H' b = some (.own a)) (ht : ∀ b xs, H b = some (.tup xs) → H' b = some (.tup xs)) : ObjOk P w H' h' a o := by
  induction o with
  | lst xs => obtain ⟨z, its, n, r, e⟩ := x; exact ⟨z, its, n, r, k _ _ (.inl rfl) e⟩
  | tup xs => obtain ⟨z, its, r, ob, e, c⟩ := x; exact ⟨z, its, r, ob, k _ _ (.inl rfl) e, c⟩
  | dK kvs => obtain ⟨z, y, vs, r, ob, es, ep, e, c⟩ := x; exact ⟨z, y, vs, r, ob, es, ep, k _ _ (.inl rfl) e, c⟩
  | dT kvs =>
    obtain ⟨z, y, xs, r, ob, es, ep, e, c⟩ := x
    exact ⟨z, y, xs, Paired.mapP r fun p q z => ⟨z.1, ht _ _ z.2.1, z.2.2⟩, ob, es, ep, k _ _ (.inl rfl) e, c⟩
  | set S n => obtain ⟨ob, es, ep, t, e, c⟩ := x; exact ⟨ob, es, ep, t, k _ _ (.inl rfl) e, c⟩
  | ins C dx fs =>
    obtain ⟨d, z, ne, e, mA, ⟨od, es, ep, e2, c⟩, r⟩ := x
    exact ⟨ho _ d, z, ne, k _ _ (.inl rfl) e, mA, ⟨od, es, ep, k _ _ (.inr d) e2, c⟩, r⟩
  | own y => obtain ⟨ob, e⟩ := x; exact ⟨ob, k _ _ (.inl rfl) e⟩
  | xd fs => obtain ⟨mA, ⟨od, es, ep, e, c⟩, r⟩ := x; exact ⟨mA, ⟨od, es, ep, k _ _ (.inl rfl) e, c⟩, r⟩
  | rng lo hi => obtain ⟨t, u, v, e⟩ := x; exact ⟨t, u, v, k _ _ (.inl rfl) e⟩
  | frz ob u ih => obtain ⟨e, q⟩ := x; exact ⟨k _ _ (.inl rfl) e, ih q⟩
  | tbl ps =>
    have e : h.get? a = some { cls := .none, data := .fields ps } := x
    show h'.get? a = some { cls := .none, data := .fields ps }
    exact k a _ (.inl rfl) e
  | met f y =>
    have e : h.get? a = some (PySem.W.methodObj (.ref f) (.ref y)) := x
    show h'.get? a = some (PySem.W.methodObj (.ref f) (.ref y))
    exact k a _ (.inl rfl) e
  | ext φ => obtain ⟨p, ⟨o, e⟩, st⟩ := x; exact ⟨st _ _ p fun o q => k _ _ (.inl rfl) q, ⟨o, k _ _ (.inl rfl) e⟩, st⟩
theorem HOk.lt (x : HOk P w H h) (e : H a = some o) : a < h.objs.size := (x a o e).lt
theorem HOk.fresh (x : HOk P w H h) (e : h.objs.size ≤ a) : H a = none := by
  cases q : H a with
  | none => rfl
  | some u => exact absurd (Nat.lt_of_lt_of_le (x.lt q) e) (Nat.lt_irrefl _)
theorem HOk.kept (x : HOk P w H h) (k : ∀ b u, h.get? b = some u → h'.get? b = some u) : HOk P w H h' := fun a o e =>
  (x a o e).stay (fun b u _ q => k b u q) (fun _ q => q) fun _ _ q => q
theorem HOk.laid (x : HOk P w H h) (k : ∀ b u, h.get? b = some u → h'.get? b = some u) (hp : h.objs.size ≤ a) (new : ObjOk P w (upd H a o) h' a o) : HOk P w (upd H a o) h' := fun b u e => by
  have hn := x.fresh hp
  by_cases hb : b = a
  · subst hb; rw [upd_same] at e; cases e; exact new
  · rw [upd_ne hb] at e
    exact (x b u e).stay (fun c v _ q => k c v q) (fun c q => by rw [upd_ne (ne_of_none q hn)]; exact q) fun c xs q => by rw [upd_ne (ne_of_none q hn)]; exact q
end
def Rd (H : Hp) (a : Addr) (u : HO) : Prop := H a = some u ∨ ∃ o, H a = some (.frz o u)
theorem Rd.of {H : Hp} {a : Addr} {u : HO} (h : H a = some u) : Rd H a u := .inl h
theorem Rd.ok {P : Program} {w : World} {H : Hp} {h : Heap} {a : Addr} {u : HO} (r : Rd H a u) (x : HOk P w H h) : ObjOk P w H h a u := by
  rcases r with r | ⟨o, r⟩
  · exact x a u r
  · obtain ⟨_, q⟩ := x a _ r
    exact q
def Mut : Option HO → Prop
  | some (.lst _) => True
  | some (.dK _) => True
  | some (.dT _) => True
  | some (.set _ _) => True
  | some (.ins _ _ _) => True
  | some (.ext _) => True
  | _ => False
section
variable {P : Program} {w : World} {H : Hp} {h h' : Heap} {x e : Addr} {o' : HO}
theorem HOk.write (ok : HOk P w H h) (mu : Mut (H x)) (he : e = x ∨ H e = some (.own x)) (k : ∀ b u, b ≠ e → h.get? b = some u → h'.get? b = some u) (heo : ∃ u, h'.get? e = some u)
    (new : ObjOk P w (upd H x o') h' x o') : HOk P w (upd H x o') h' := fun b u q => by
  have nown : ∀ c y, H c = some (.own y) → c ≠ x := fun c y r z => by subst z; rw [r] at mu; exact mu
  have ntup : ∀ c xs, H c = some (.tup xs) → c ≠ x := fun c xs r z => by subst z; rw [r] at mu; exact mu
  by_cases hb : b = x
  · subst hb; rw [upd_same] at q; cases q; exact new
  · rw [upd_ne hb] at q
    by_cases hbe : b = e
    · have q' : H b = some (.own x) := by
        rcases he with z | z
        · exact absurd (hbe.trans z) hb
        · rw [hbe]; exact z
      rw [q] at q'; cases q'
      obtain ⟨v, hv⟩ := heo
      exact ⟨v, by rw [hbe]; exact hv⟩
    · refine (ok b u q).stay (fun c v hc r => k c v ?_ r) (fun c r => by rw [upd_ne (nown c b r)]; exact r) fun c xs r => by rw [upd_ne (ntup c xs r)]; exact r
      rcases hc with rfl | hc
      · exact hbe
      · rintro rfl
        rcases he with z | z
        · exact nown c b hc z
        · rw [hc] at z; cases z; exact hb rfl
end
structure Un (fs ex : List Addr) (H H' : Hp) (h h' : Heap) : Prop where
  keep : ∀ b o, h.get? b = some o → H b = none → b ∉ fs → b ∉ ex → h'.get? b = some o
  slot : ∀ b o, h.get? b = some o → H b = none → b ∈ fs → b ∉ ex → ∃ sl, h'.get? b = some { o with slots := sl }
  free : ∀ b o, h.get? b = some o → H b = none → b ∉ ex → H' b = none
  there : ∀ b o, h.get? b = some o → b ∉ ex → ∃ o', h'.get? b = some o'
  tups : ∀ b xs, H b = some (.tup xs) → H' b = some (.tup xs)
  frzs : ∀ b o u, H b = some (.frz o u) → H' b = some (.frz o u)
  tbls : ∀ b ps, H b = some (.tbl ps) → ∃ more, H' b = some (.tbl (ps ++ more))
section
variable {fs fs' ex ex' : List Addr} {H H1 H2 : Hp} {h h1 h2 h' : Heap} {a x e : Addr} {o : HO}
theorem Un.any (u : Un fs ex H H1 h h1) {b : Addr} {ob : Obj} (q : h.get? b = some ob) (n : H b = none) (hx : b ∉ ex) : ∃ sl, h1.get? b = some { ob with slots := sl } := by
  by_cases hb : b ∈ fs
  · exact u.slot b ob q n hb hx
  · exact ⟨ob.slots, u.keep b ob q n hb hx⟩
theorem Un.trans (a : Un fs ex H H1 h h1) (b : Un fs ex H1 H2 h1 h2) : Un fs ex H H2 h h2 where
  keep := fun c ob q n hc hx => b.keep c ob (a.keep c ob q n hc hx) (a.free c ob q n hx) hc hx
  slot := fun c ob q n hc hx => by
    obtain ⟨sl, e1⟩ := a.slot c ob q n hc hx
    obtain ⟨sl', e2⟩ := b.slot c _ e1 (a.free c ob q n hx) hc hx
    exact ⟨sl', e2⟩
  free := fun c ob q n hx => by
    obtain ⟨o', e1⟩ := a.there c ob q hx
    exact b.free c o' e1 (a.free c ob q n hx) hx
  there := fun c ob q hx => by
    obtain ⟨o', e1⟩ := a.there c ob q hx
    exact b.there c o' e1 hx
  tups := fun c xs q => b.tups c xs (a.tups c xs q)
  frzs := fun c ob xs q => b.frzs c ob xs (a.frzs c ob xs q)
  tbls := fun c ps q => by
    obtain ⟨m1, e1⟩ := a.tbls c ps q
    obtain ⟨m2, e2⟩ := b.tbls c _ e1
    exact ⟨m1 ++ m2, by rw [e2, Array.append_assoc]⟩
theorem Un.kept (k : ∀ b u, h.get? b = some u → h'.get? b = some u) : Un fs ex H H h h' :=
  ⟨fun b ob q _ _ _ => k b ob q, fun b ob q _ _ _ => ⟨ob.slots, k b ob q⟩, fun _ _ _ n _ => n, fun b ob q _ => ⟨ob, k b ob q⟩, fun _ _ q => q, fun _ _ _ q => q, fun _ ps q => ⟨#[], by rw [q]; simp⟩⟩
theorem Un.refl : Un fs ex H H h h := Un.kept fun _ _ q => q
theorem Un.laid (k : ∀ b u, h.get? b = some u → h'.get? b = some u) (hp : h.objs.size ≤ a) (hn : H a = none) : Un fs ex H (upd H a o) h h' where
  keep := fun b u q _ _ _ => k b u q
  slot := fun b u q _ _ _ => ⟨u.slots, k b u q⟩
  free := fun b u q n _ => by rw [upd_ne (Nat.ne_of_lt (Nat.lt_of_lt_of_le (Heap.lt_size q) hp))]; exact n
  there := fun b u q _ => ⟨u, k b u q⟩
  tups := fun b xs q => by rw [upd_ne (ne_of_none q hn)]; exact q
  frzs := fun b u xs q => by rw [upd_ne (ne_of_none q hn)]; exact q
  tbls := fun b ps q => ⟨#[], by rw [upd_ne (ne_of_none q hn), q]; simp⟩
theorem Un.write (mu : Mut (H x)) (he : e = x ∨ H e = some (.own x)) (k : ∀ b u, b ≠ e → h.get? b = some u → h'.get? b = some u) (heo : ∃ u, h'.get? e = some u) : Un fs ex H (upd H x o) h h' := by
  have hx : ∀ b, H b = none → b ≠ x := fun b n z => by subst z; rw [n] at mu; exact mu
  have hb : ∀ b, H b = none → b ≠ e := fun b n z => by
    subst z
    rcases he with r | r
    · exact hx b n r
    · rw [n] at r; cases r
  have hm : ∀ b u, H b = some u → ¬ Mut (some u) → b ≠ x := fun b u q nm z => by subst z; rw [q] at mu; exact nm mu
  refine ⟨fun b u q n _ _ => k b u (hb b n) q, fun b u q n _ _ => ⟨u.slots, k b u (hb b n) q⟩, fun b u q n _ => by rw [upd_ne (hx b n)]; exact n, fun b u q _ => ?_,
    fun b xs q => by rw [upd_ne (hm b _ q fun z => z)]; exact q, fun b u xs q => by rw [upd_ne (hm b _ q fun z => z)]; exact q, fun b ps q => ⟨#[], by rw [upd_ne (hm b _ q fun z => z), q]; simp⟩⟩
  by_cases hbe : b = e
  · subst hbe; exact heo
  · exact ⟨u, k b u hbe q⟩
theorem Un.mono (u : Un fs ex H H1 h h1) (hs : ∀ b ∈ fs, b ∈ fs') (hx : ∀ b ∈ ex, b ∈ ex') : Un fs' ex' H H1 h h1 :=
  ⟨fun b ob q n hb he => u.keep b ob q n (fun z => hb (hs b z)) fun z => he (hx b z), fun _ _ q n _ he => u.any q n fun z => he (hx _ z), fun b ob q n he => u.free b ob q n fun z => he (hx b z), fun b ob q he => u.there b ob q fun z => he (hx b z), u.tups, u.frzs, u.tbls⟩
end
def trk (h : Heap) (H : Hp) : List Addr := (List.range h.objs.size).filter fun a => (H a).isSome
def hidT (h : Heap) (H : Hp) : Heap := PySem.W.hideAll h (trk h H)
theorem hidT_size (h : Heap) (H : Hp) : (hidT h H).objs.size = h.objs.size := PySem.W.hideAll_size _ _
theorem hidT_get {h : Heap} {H : Hp} {b : Addr} {o : Obj} (e : h.get? b = some o) (n : H b = none) : (hidT h H).get? b = some o :=
  PySem.W.hideAll_get _ e fun hm => by
    have q : (H b).isSome = true := (List.mem_filter.mp hm).2
    rw [n] at q; simp at q
theorem of_hidT {h : Heap} {H : Hp} {b : Addr} {o : Obj} (e : (hidT h H).get? b = some o) : h.get? b = some o ∧ H b = none := by
  have e' : h.get? b = some o := PySem.W.of_hideAll (trk h H) e
  refine ⟨e', ?_⟩
  cases q : H b with
  | none => rfl
  | some x =>
    have hm : b ∈ trk h H := List.mem_filter.mpr ⟨List.mem_range.mpr (Heap.lt_size e'), by simp [q]⟩
    have z : (hidT h H).get? b = none := PySem.W.hideAll_none (trk h H) hm
    rw [z] at e; cases e
def allNews (g h : Heap) (L : Addr) : List (Addr × Obj) := (List.range h.objs.size).filterMap fun a => if a = L ∨ (g.get? a).isSome = true then none else (h.get? a).map fun o => (a, o)
def rest (g h : Heap) (L d : Addr) : List (Addr × Obj) := (allNews g h L).filter fun p => decide (p.1 ≠ d)
end L2
namespace L2
open PySem PySem.Spec PyProof.Rows
structure Mod (K : PySem.W.Frag) (mg : Str → Option Value) (base : Heap) : Prop where
  kin : K.In base
  glob : base.Ns mainGlobals mg
  blt : ∃ mb, base.Ns builtinsNs mb ∧ ∀ x : Str, x ≠ "__name__" → mb x = bootBuiltins x
  nolimit : base.NoLimit
structure Cx where
  prog : Program
  w : World
  K : PySem.W.Frag
  mg : Str → Option Value
  base : Heap
  A : Around
  N : List Str
  s₀ : Shared
  H₀ : Hp
  env : Env
  outer : List Env
  stack : List Env
  ex : List Addr
  fn : Str → Bool
  calm : Bool
  pn : List (Addr × Obj)
  xe : Value → Shared → Prop
def frs (l : List Env) : List Addr := l.filterMap (·.frame)
abbrev Cx.fs (X : Cx) : List Addr := frs X.outer
def Vis (sc : Scope) (x : Str) : Prop := sc.names.lookup x = some .local ∨ sc.names.lookup x = some .cell ∨ sc.names.lookup x = some .free
def Loc (sc : Scope) (x : Str) : Prop := sc.names.lookup x = some .local ∨ sc.names.lookup x = some .cell
def Look (env : Env) (h : Heap) (m : Str → Option Value) (x : Str) (u : Value) : Prop :=
  (env.kindOf x = some .local ∧ m x = some u) ∨ ((env.kindOf x = some .cell ∨ env.kindOf x = some .free) ∧ ∃ c, env.cells.lookup x = some c ∧ h.IsCell c (some u))
structure Cx.Ok (X : Cx) : Prop where
  mod : Mod X.K X.mg X.base
  kind : X.env.scope.kind = .function
  glob : X.env.globals = mainGlobals
  blt : X.env.builtins = builtinsNs
  above : X.s₀.heap.objs.size ≤ X.env.locals
  inj : ∀ x y c, X.env.cells.lookup x = some c → X.env.cells.lookup y = some c → x = y
  has : ∀ x, (X.env.kindOf x = some .cell ∨ X.env.kindOf x = some .free) → ∃ c, X.env.cells.lookup x = some c
  cab : ∀ x c, X.fn x = true → X.env.cells.lookup x = some c → X.s₀.heap.objs.size ≤ c
  hd : X.calm = true → X.A.handled = none
  frames : X.A.frames = some X.stack
  stk : X.stack = X.outer ∨ (X.stack = X.env :: X.outer ∧ X.env.frame = some X.env.locals)
  exf : ∀ b ∈ X.ex, b ≠ X.env.locals ∧ ∀ x c, X.env.cells.lookup x = some c → c ≠ b
  bs : ∀ b o, X.base.get? b = some o → X.s₀.heap.get? b = some o ∧ X.H₀ b = none
  bsz : X.base.objs.size ≤ X.s₀.heap.objs.size
  noex : ∀ b o, X.base.get? b = some o → b ∉ X.ex
  exfs : ∀ b ∈ X.ex, b ∉ X.fs
  funs : X.s₀.heap.FunFrames X.base X.outer
  frf : ∀ b ∈ X.fs, X.H₀ b = none
structure Inv (X : Cx) (pins : List (Addr × Obj)) (σ : List (Option V)) (H : Hp) (s : Shared) : Prop where
  ok : X.Ok
  os : s.os = X.s₀.os
  bare : AllBare s.gens
  base : Un X.fs X.ex X.H₀ H X.s₀.heap s.heap
  loc : ∃ m, s.heap.Ns X.env.locals m ∧ ∀ (i : Nat) (x : Str) (v : V), X.N[i]? = some x → σ[i]? = some (some v) → Vis X.env.scope x → ∃ u, RelV v u ∧ Look X.env s.heap m x u
  cell : ∀ x c, X.env.cells.lookup x = some c → ∃ v, s.heap.IsCell c v
  free : H X.env.locals = none
  freeC : ∀ x c, X.env.cells.lookup x = some c → H c = none
  pin : ∀ p ∈ X.pn ++ pins, s.heap.get? p.1 = some p.2 ∧ H p.1 = none ∧ p.1 ≠ X.env.locals ∧ p.1 ∉ X.fs ∧ ∀ v, p.2.data ≠ .cell v
  hok : HOk X.prog X.w H s.heap
  len : σ.length = X.N.length
section
variable {X : Cx} {pins : List (Addr × Obj)} {σ : List (Option V)} {H H' : Hp} {s : Shared} {h' : Heap}
theorem Cx.Ok.nofr (ok : X.Ok) {b : Addr} {o : Obj} (e : X.base.get? b = some o) : b ∉ X.fs := fun hb => by
  have := (ok.funs.mem hb).1
  rw [e] at this; cases this
theorem Inv.bs (I : Inv X pins σ H s) : ∀ b o, X.base.get? b = some o → s.heap.get? b = some o ∧ H b = none := fun b o e =>
  ⟨I.base.keep b o (I.ok.bs b o e).1 (I.ok.bs b o e).2 (I.ok.nofr e) (I.ok.noex b o e), I.base.free b o (I.ok.bs b o e).1 (I.ok.bs b o e).2 (I.ok.noex b o e)⟩
theorem Inv.bk (I : Inv X pins σ H s) : ∀ b o, X.base.get? b = some o → s.heap.get? b = some o := fun b o e => (I.bs b o e).1
theorem Inv.mod (I : Inv X pins σ H s) : Mod X.K X.mg X.base := I.ok.mod
theorem Inv.kIn (I : Inv X pins σ H s) : X.K.In s.heap := I.ok.mod.kin.keeps I.bk
theorem Inv.nolimit (I : Inv X pins σ H s) : s.heap.NoLimit := I.ok.mod.nolimit.keeps I.bk
theorem Inv.fr (I : Inv X pins σ H s) : ∃ m, Fr X.base X.env.locals s.heap m :=
  let ⟨m, hn, _⟩ := I.loc
  ⟨m, hn, I.bk, Nat.le_trans I.ok.bsz I.ok.above⟩
theorem Inv.lt (I : Inv X pins σ H s) : X.env.locals < s.heap.objs.size := let ⟨_, hn, _⟩ := I.loc; hn.lt
theorem Inv.sz (I : Inv X pins σ H s) : X.s₀.heap.objs.size ≤ s.heap.objs.size := Nat.le_trans I.ok.above (Nat.le_of_lt I.lt)
theorem Inv.nofs (I : Inv X pins σ H s) {a : Addr} (h : s.heap.objs.size ≤ a) : a ∉ X.fs := fun hb => by
  obtain ⟨_, o, ho, _⟩ := I.ok.funs.mem hb
  exact absurd (Nat.lt_of_lt_of_le (Heap.lt_size ho) (Nat.le_trans I.sz h)) (Nat.lt_irrefl _)
theorem Inv.cne (I : Inv X pins σ H s) : ∀ x c, X.env.cells.lookup x = some c → c ≠ X.env.locals := fun x c e z => by
  obtain ⟨v, o, ho, hd⟩ := I.cell x c e
  obtain ⟨m, ⟨o', es, ep, ho', hd', _⟩, _⟩ := I.loc
  rw [z, ho'] at ho; cases ho; rw [hd'] at hd; cases hd
theorem Inv.funs (I : Inv X pins σ H s) : s.heap.FunFrames X.base X.outer := by
  have all : ∀ (l : List Env), (∀ b ∈ frs l, b ∈ X.fs) → X.s₀.heap.FunFrames X.base l → s.heap.FunFrames X.base l := by
    intro l
    induction l with
    | nil => intro _ _; trivial
    | cons env r ih =>
      intro hs hl
      obtain ⟨hk, ⟨L, o, hf, hn, ho, hd⟩, hr⟩ := hl
      have hL : L ∈ X.fs := hs L (by unfold frs; rw [List.filterMap_cons, hf]; exact List.mem_cons_self)
      obtain ⟨sl, e⟩ := I.base.slot L o ho (I.ok.frf L hL) hL fun z => I.ok.exfs L z hL
      exact ⟨hk, ⟨L, _, hf, hn, e, hd⟩, ih (fun b hb => hs b (by unfold frs; rw [List.filterMap_cons, hf]; exact List.mem_cons_of_mem _ hb)) hr⟩
  exact all X.outer (fun _ hb => hb) I.ok.funs
theorem Inv.stack (I : Inv X pins σ H s) : s.heap.FunFrames X.base X.stack := by
  rcases I.ok.stk with e | ⟨e, hf⟩
  · rw [e]; exact I.funs
  · rw [e]
    obtain ⟨m, hn, _⟩ := I.loc
    refine .cons (by rw [I.ok.kind]; decide) hf hn ?_ I.funs
    exact Heap.get?_none_of_le (Nat.le_trans I.ok.bsz I.ok.above)
theorem Inv.stkSub (I : Inv X pins σ H s) : ∀ b ∈ frs X.stack, b ∈ X.env.locals :: X.fs := fun b hb => by
  rcases I.ok.stk with e | ⟨e, hf⟩
  · rw [e] at hb; exact List.mem_cons_of_mem _ hb
  · rw [e] at hb
    unfold frs at hb
    rw [List.filterMap_cons, hf] at hb
    exact hb
theorem Inv.stkFree (I : Inv X pins σ H s) : ∀ b ∈ frs X.stack, H b = none := fun b hb => by
  rcases List.mem_cons.mp (I.stkSub b hb) with e | hb
  · rw [e]; exact I.free
  · obtain ⟨_, o, ho, _⟩ := I.ok.funs.mem hb
    exact I.base.free b o ho (I.ok.frf b hb) fun z => I.ok.exfs b z hb
theorem Inv.step {g' : Array GenState} {t' : Nat} {d' : Drawn} {ch : List Addr} (I : Inv X pins σ H s)
    (hch : ∀ b ∈ ch, (b ∈ X.ex ∨ X.s₀.heap.objs.size ≤ b) ∧ b ≠ X.env.locals ∧ (∀ x c, X.env.cells.lookup x = some c → c ≠ b) ∧ ∀ p ∈ X.pn ++ pins, p.1 ≠ b)
    (keep : ∀ b o, b ≠ X.env.locals → b ∉ X.fs → b ∉ ch → s.heap.get? b = some o → H b = none → h'.get? b = some o)
    (slot : ∀ b o, b ≠ X.env.locals → b ∈ X.fs → b ∉ ch → s.heap.get? b = some o → H b = none → ∃ sl, h'.get? b = some { o with slots := sl }) (free : ∀ b o, b ∉ ch → s.heap.get? b = some o → H b = none → H' b = none)
    (there : ∀ b o, b ∉ ch → s.heap.get? b = some o → ∃ o', h'.get? b = some o')
    (tups : ∀ b xs, H b = some (.tup xs) → H' b = some (.tup xs)) (frzs : ∀ b o u, H b = some (.frz o u) → H' b = some (.frz o u)) (tbls : ∀ b ps, H b = some (.tbl ps) → ∃ more, H' b = some (.tbl (ps ++ more)))
    (ns : ∀ m, s.heap.Ns X.env.locals m → h'.Ns X.env.locals m) (hok : HOk X.prog X.w H' h') (hg : AllBare g') :
    Inv X pins σ H' { s with heap := h', gens := g', drawn := d', toks := t' } := by
  have neL : ∀ b o, X.s₀.heap.get? b = some o → b ≠ X.env.locals := fun b o e => Nat.ne_of_lt (Nat.lt_of_lt_of_le (Heap.lt_size e) I.ok.above)
  have neC : ∀ b o, X.s₀.heap.get? b = some o → b ∉ X.ex → b ∉ ch := fun b o e hx hb => by
    rcases (hch b hb).1 with z | z
    · exact hx z
    · exact absurd (Nat.lt_of_lt_of_le (Heap.lt_size e) z) (Nat.lt_irrefl _)
  have cellK : ∀ x c, X.env.cells.lookup x = some c → ∀ v, s.heap.IsCell c v → h'.IsCell c v := fun x c e v ⟨o, ho, hd⟩ => by
    have nch : c ∉ ch := fun z => (hch c z).2.2.1 x c e rfl
    by_cases hc : c ∈ X.fs
    · obtain ⟨sl, q⟩ := slot c o (I.cne x c e) hc nch ho (I.freeC x c e)
      exact ⟨_, q, hd⟩
    · exact ⟨o, keep c o (I.cne x c e) hc nch ho (I.freeC x c e), hd⟩
  refine ⟨I.ok, I.os, hg, ⟨fun b o e n hb hx => ?_, fun b o e n hb hx => ?_, fun b o e n hx => ?_, fun b o e hx => ?_, fun b xs e => tups b xs (I.base.tups b xs e), fun b o xs e => frzs b o xs (I.base.frzs b o xs e), fun b ps e => ?_⟩, ?_, fun x c e => ?_, ?_, fun x c e => ?_, fun p hp => ?_, hok, I.len⟩
  · exact keep b o (neL b o e) hb (neC b o e hx) (I.base.keep b o e n hb hx) (I.base.free b o e n hx)
  · obtain ⟨sl, e1⟩ := I.base.slot b o e n hb hx
    obtain ⟨sl', e2⟩ := slot b _ (neL b o e) hb (neC b o e hx) e1 (I.base.free b o e n hx)
    exact ⟨sl', e2⟩
  · obtain ⟨o', e1⟩ := I.base.there b o e hx
    exact free b o' (neC b o e hx) e1 (I.base.free b o e n hx)
  · obtain ⟨o', e1⟩ := I.base.there b o e hx
    exact there b o' (neC b o e hx) e1
  · obtain ⟨m1, e1⟩ := I.base.tbls b ps e
    obtain ⟨m2, e2⟩ := tbls b _ e1
    exact ⟨m1 ++ m2, by rw [e2, Array.append_assoc]⟩
  · obtain ⟨m, hn, hl⟩ := I.loc
    refine ⟨m, ns m hn, fun i x v e1 e2 e3 => ?_⟩
    obtain ⟨u, r, l⟩ := hl i x v e1 e2 e3
    refine ⟨u, r, ?_⟩
    rcases l with l | ⟨k, c, e, z⟩
    · exact .inl l
    · exact .inr ⟨k, c, e, cellK x c e _ z⟩
  · obtain ⟨v, z⟩ := I.cell x c e
    exact ⟨v, cellK x c e v z⟩
  · obtain ⟨m, ⟨o, _, _, ho, _⟩, _⟩ := I.loc
    exact free _ o (fun z => (hch _ z).2.1 rfl) ho I.free
  · obtain ⟨v, o, ho, hd⟩ := I.cell x c e
    exact free c o (fun z => (hch c z).2.2.1 x c e rfl) ho (I.freeC x c e)
  · obtain ⟨e, n, ne, nf, d⟩ := I.pin p hp
    have nch : p.1 ∉ ch := fun z => (hch p.1 z).2.2.2 p hp rfl
    exact ⟨keep p.1 p.2 ne nf nch e n, free p.1 p.2 nch e n, ne, nf, d⟩
theorem Inv.un {t' : Nat} (I : Inv X pins σ H s) (u : Un X.fs [] H H' s.heap h') (hok : HOk X.prog X.w H' h') : Inv X pins σ H' { s with heap := h', toks := t' } := by
  obtain ⟨m, ⟨o, es, ep, ho, r⟩, _⟩ := id I.loc
  obtain ⟨sl, hL⟩ := u.any ho I.free (by simp)
  exact I.step (g' := s.gens) (d' := s.drawn) (ch := []) (fun _ z => nomatch z) (fun b o _ hb _ e n => u.keep b o e n hb (by simp)) (fun b o _ hb _ e n => u.slot b o e n hb (by simp)) (fun b o _ e n => u.free b o e n (by simp)) (fun b o _ e => u.there b o e (by simp)) u.tups u.frzs u.tbls (fun m' hm => by
    obtain ⟨o', es', ep', ho', r'⟩ := hm
    rw [ho] at ho'; cases ho'
    exact ⟨_, es', ep', hL, r'⟩) hok I.bare
theorem Inv.call {g' : Array GenState} {t' : Nat} {d' : Drawn} {ch : List Addr} (I : Inv X pins σ H s) (u : Un (frs X.stack) ch H H' s.heap h') (hok : HOk X.prog X.w H' h') (hg : AllBare g')
    (hch : ∀ b ∈ ch, (b ∈ X.ex ∨ X.s₀.heap.objs.size ≤ b) ∧ b ≠ X.env.locals ∧ (∀ x c, X.env.cells.lookup x = some c → c ≠ b) ∧ ∀ p ∈ X.pn ++ pins, p.1 ≠ b) :
    Inv X pins σ H' { s with heap := h', gens := g', drawn := d', toks := t' } := by
  obtain ⟨m, ⟨o, es, ep, ho, r⟩, _⟩ := id I.loc
  obtain ⟨sl, hL⟩ := u.any ho I.free fun z => (hch _ z).2.1 rfl
  exact I.step (ch := ch) hch (fun b o hL hb hc e n => u.keep b o e n (fun z => (List.mem_cons.mp (I.stkSub b z)).elim hL hb) hc) (fun b o _ _ hc e n => u.any e n hc) (fun b o hc e n => u.free b o e n hc) (fun b o hc e => u.there b o e hc) u.tups u.frzs u.tbls (fun m' hm => by
    obtain ⟨o', es', ep', ho', r'⟩ := hm
    rw [ho] at ho'; cases ho'
    exact ⟨_, es', ep', hL, r'⟩) hok hg
theorem Inv.turned {t' : Nat} {it : Addr} (I : Inv X pins σ H s) (k : ∀ b o, b ≠ it → s.heap.get? b = some o → h'.get? b = some o) (hn : H it = none) (hL : it ≠ X.env.locals)
    (h1 : it ∈ X.ex ∨ X.s₀.heap.objs.size ≤ it) (h2 : ∀ x c, X.env.cells.lookup x = some c → c ≠ it) (h3 : ∀ p ∈ X.pn ++ pins, p.1 ≠ it) : Inv X pins σ H { s with heap := h', toks := t' } := by
  have nit : ∀ b u, H b = some u → b ≠ it := fun b u e z => by rw [z, hn] at e; cases e
  refine I.step (g' := s.gens) (d' := s.drawn) (ch := [it]) (fun b hb => ?_) (fun b o _ _ hc e _ => k b o (fun z => hc (by simp [z])) e) (fun b o _ _ hc e _ => ⟨o.slots, k b o (fun z => hc (by simp [z])) e⟩) (fun _ _ _ _ n => n)
    (fun b o hc e => ⟨o, k b o (fun z => hc (by simp [z])) e⟩) (fun _ _ e => e) (fun _ _ _ e => e) (fun b ps e => ⟨#[], by rw [e]; simp⟩) (fun m hm => ?_) (fun b u e => ?_) I.bare
  · have e : b = it := by simpa using hb
    subst e
    exact ⟨h1, hL, h2, h3⟩
  · obtain ⟨o, es, ep, ho, r⟩ := hm
    exact ⟨o, es, ep, k _ o (Ne.symm hL) ho, r⟩
  · refine (I.hok b u e).stay (fun c v hc q => k c v ?_ q) (fun _ q => q) fun _ _ q => q
    rcases hc with z | z
    · rw [z]; exact nit b u e
    · exact nit c _ z
theorem Inv.tok (I : Inv X pins σ H s) (t : Nat) : Inv X pins σ H { s with toks := t } := I.un (h' := s.heap) (t' := t) Un.refl I.hok
theorem Inv.kept {t' : Nat} (I : Inv X pins σ H s) (k : ∀ b u, s.heap.get? b = some u → h'.get? b = some u) : Inv X pins σ H { s with heap := h', toks := t' } := I.un (Un.kept k) (I.hok.kept k)
theorem Inv.laid {a : Addr} {o : HO} {t' : Nat} (I : Inv X pins σ H s) (k : ∀ b u, s.heap.get? b = some u → h'.get? b = some u) (hp : s.heap.objs.size ≤ a) (new : ObjOk X.prog X.w (upd H a o) h' a o) :
    Inv X pins σ (upd H a o) { s with heap := h', toks := t' } := I.un (Un.laid k hp (I.hok.fresh hp)) (I.hok.laid k hp new)
theorem Inv.write {x e : Addr} {o : HO} {t' : Nat} (I : Inv X pins σ H s) (mu : Mut (H x)) (he : e = x ∨ H e = some (.own x)) (k : ∀ b u, b ≠ e → s.heap.get? b = some u → h'.get? b = some u) (heo : ∃ u, h'.get? e = some u)
    (new : ObjOk X.prog X.w (upd H x o) h' x o) : Inv X pins σ (upd H x o) { s with heap := h', toks := t' } := I.un (Un.write mu he k heo) (I.hok.write mu he k heo new)
theorem Inv.weak {σ' : List (Option V)} (I : Inv X pins σ H s) (hl : σ'.length = σ.length) (w : ∀ (i : Nat) v, σ'[i]? = some (some v) → σ[i]? = some (some v)) : Inv X pins σ' H s :=
  ⟨I.ok, I.os, I.bare, I.base, let ⟨m, hn, hl'⟩ := I.loc; ⟨m, hn, fun i x v e1 e2 e3 => hl' i x v e1 (w i v e2) e3⟩, I.cell, I.free, I.freeC, I.pin, I.hok, hl.trans I.len⟩
def Calm (X : Cx) : Prop := X.calm = true ∨ ∃ (ea C : Addr) (dx : Option Addr) (vs : Array Value) (sl : Array (Option Value)), X.A.handled = some (.ref ea) ∧ vs[2]? = some Value.none ∧ (ea, (⟨.ref C, dx, .fields vs, sl⟩ : Obj)) ∈ X.pn
theorem calm0 {X : Cx} (h : X.calm = true) : Calm X := .inl h
theorem Inv.calm (I : Inv X pins σ H s) (c : Calm X) : Hd X.A s.heap := by
  rcases c with c | ⟨ea, C, dx, vs, sl, h1, h2, h3⟩
  · exact .inl (I.ok.hd c)
  · exact .inr ⟨ea, C, dx, vs, sl, h1, (I.pin _ (List.mem_append_left _ h3)).1, h2⟩
theorem Inv.pins_of {pins' : List (Addr × Obj)} (I : Inv X pins σ H s) (h : ∀ p ∈ pins', s.heap.get? p.1 = some p.2 ∧ H p.1 = none ∧ p.1 ≠ X.env.locals ∧ p.1 ∉ X.fs ∧ ∀ v, p.2.data ≠ .cell v) : Inv X pins' σ H s :=
  ⟨I.ok, I.os, I.bare, I.base, I.loc, I.cell, I.free, I.freeC, fun p hp => (List.mem_append.mp hp).elim (fun z => I.pin p (List.mem_append_left _ z)) (h p), I.hok, I.len⟩
theorem nodup_ix {N : List Str} (hN : N.Nodup) {i j : Nat} {x : Str} (a : N[i]? = some x) (b : N[j]? = some x) : i = j := by
  obtain ⟨h1, e1⟩ := List.getElem?_eq_some_iff.mp a
  obtain ⟨h2, e2⟩ := List.getElem?_eq_some_iff.mp b
  exact (List.getElem_inj hN).mp (e1.trans e2.symm)
theorem store_ok2 {M : Model} {A : Around} {E : Value → Shared → Prop} {i : Nat} {x : Str} {v : V} {u : Value} {Q : Unit → Shared → Prop} (I : Inv X pins σ H s) (hN : X.N.Nodup) (hi : X.N[i]? = some x) (hx : Loc X.env.scope x) (r : RelV v u)
    (h : ∀ s', Inv X pins (σ.set i (some v)) H s' → (∃ a, Heap.SameBut a s.heap s'.heap ∧ (a = X.env.locals ∨ X.env.cells.lookup x = some a)) → Q () s') (hf : X.fn x = true ∨ X.env.scope.names.lookup x = some .local := by first | exact .inl rfl | exact .inr rfl | assumption) : wpAny M A (storeName X.env x u) Q E s := by
  obtain ⟨m, hn, hl⟩ := id I.loc
  have hcls : (X.env.scope.kind == .class || (X.env.scope.kind == .module && X.env.locals != X.env.globals)) = false := by rw [I.ok.kind]; rfl
  have hiσ : i < σ.length := by rw [I.len]; exact (List.getElem?_eq_some_iff.mp hi).1
  have cne := I.cne
  have tracked : ∀ {a : Addr} {h' : Heap}, (∃ o, s.heap.get? a = some o ∧ H a = none) → Heap.SameBut a s.heap h' → HOk X.prog X.w H h' := fun {a h'} ha hs b ob e => by
    obtain ⟨_, _, hfree⟩ := ha
    refine (I.hok b ob e).stay (fun c w' hc q => (hs.2 c ?_).trans q) (fun _ q => q) fun _ _ q => q
    rintro rfl
    rcases hc with rfl | hc
    · rw [hfree] at e; cases e
    · rw [hfree] at hc; cases hc
  rcases hx with hk | hk
  · refine wpAny_storeName_local hk hn (fun h' hn' hs => ?_) hcls
    obtain ⟨oL, _, _, hoL, _⟩ := id hn
    refine h _ ⟨I.ok, I.os, I.bare, ⟨fun b o e n hb hx => ?_, fun b o e n hb hx => ?_, I.base.free, fun b o e hx => ?_, I.base.tups, I.base.frzs, I.base.tbls⟩, ⟨_, hn', fun j y v' e1 e2 e3 => ?_⟩, fun y c e => ?_, I.free, I.freeC, fun p hp => ?_, tracked ⟨oL, hoL, I.free⟩ hs, by simpa using I.len⟩ ⟨_, hs, .inl rfl⟩
    · exact (hs.2 b (Nat.ne_of_lt (Nat.lt_of_lt_of_le (Heap.lt_size e) I.ok.above))).trans (I.base.keep b o e n hb hx)
    · obtain ⟨sl, e1⟩ := I.base.slot b o e n hb hx
      exact ⟨sl, (hs.2 b (Nat.ne_of_lt (Nat.lt_of_lt_of_le (Heap.lt_size e) I.ok.above))).trans e1⟩
    · obtain ⟨o', e1⟩ := I.base.there b o e hx
      exact ⟨o', (hs.2 b (Nat.ne_of_lt (Nat.lt_of_lt_of_le (Heap.lt_size e) I.ok.above))).trans e1⟩
    · by_cases hj : j = i
      · subst hj
        rw [hi] at e1; cases e1
        rw [List.getElem?_set_self hiσ] at e2
        cases e2
        exact ⟨u, r, .inl ⟨hk, by simp⟩⟩
      · rw [List.getElem?_set_ne (Ne.symm hj)] at e2
        obtain ⟨u', r', q⟩ := hl j y v' e1 e2 e3
        refine ⟨u', r', ?_⟩
        rcases q with ⟨k, e⟩ | ⟨k, c, e, z⟩
        · refine .inl ⟨k, ?_⟩
          have : y ≠ x := fun e => hj (nodup_ix hN e1 (e ▸ hi))
          simp [this, e]
        · exact .inr ⟨k, c, e, z.sameBut hs (cne y c e)⟩
    · obtain ⟨w', z⟩ := I.cell y c e
      exact ⟨w', z.sameBut hs (cne y c e)⟩
    · obtain ⟨e, n, ne, nf, d⟩ := I.pin p hp
      exact ⟨(hs.2 p.1 ne).trans e, n, ne, nf, d⟩
  · have hfn : X.fn x = true := by
      rcases hf with z | z
      · exact z
      · rw [z] at hk; cases hk
    obtain ⟨c, hc⟩ := I.ok.has x (.inl hk)
    obtain ⟨w', z⟩ := I.cell x c hc
    refine wpAny_storeName_cell I.ok.kind hk hc z (fun h' hc' hs => ?_)
    obtain ⟨oc, hoc, hocd⟩ := id z
    refine h { s with heap := h' } ⟨I.ok, I.os, I.bare, ⟨fun b o e n hb hx => ?_, fun b o e n hb hx => ?_, I.base.free, fun b o e hx => ?_, I.base.tups, I.base.frzs, I.base.tbls⟩, ⟨m, hn.sameBut hs (Ne.symm (cne x c hc)), fun j y v' e1 e2 e3 => ?_⟩, fun y c' e => ?_, I.free, I.freeC, fun p hp => ?_, tracked ⟨oc, hoc, I.freeC x c hc⟩ hs, by simpa using I.len⟩ ⟨c, hs, .inr hc⟩
    · exact (hs.2 b (Nat.ne_of_lt (Nat.lt_of_lt_of_le (Heap.lt_size e) (I.ok.cab x c hfn hc)))).trans (I.base.keep b o e n hb hx)
    · obtain ⟨sl, e1⟩ := I.base.slot b o e n hb hx
      exact ⟨sl, (hs.2 b (Nat.ne_of_lt (Nat.lt_of_lt_of_le (Heap.lt_size e) (I.ok.cab x c hfn hc)))).trans e1⟩
    · obtain ⟨o', e1⟩ := I.base.there b o e hx
      exact ⟨o', (hs.2 b (Nat.ne_of_lt (Nat.lt_of_lt_of_le (Heap.lt_size e) (I.ok.cab x c hfn hc)))).trans e1⟩
    · by_cases hj : j = i
      · subst hj
        rw [hi] at e1; cases e1
        rw [List.getElem?_set_self hiσ] at e2
        cases e2
        exact ⟨u, r, .inr ⟨.inl hk, c, hc, hc'⟩⟩
      · rw [List.getElem?_set_ne (Ne.symm hj)] at e2
        obtain ⟨u', r', q⟩ := hl j y v' e1 e2 e3
        refine ⟨u', r', ?_⟩
        rcases q with q | ⟨k, c', e, z'⟩
        · exact .inl q
        · refine .inr ⟨k, c', e, z'.sameBut hs ?_⟩
          rintro rfl
          exact hj (nodup_ix hN e1 (I.ok.inj _ _ _ e hc ▸ hi))
    · by_cases hcc : c' = c
      · subst hcc; exact ⟨_, hc'⟩
      · obtain ⟨w2, z2⟩ := I.cell y c' e
        exact ⟨w2, z2.sameBut hs hcc⟩
    · obtain ⟨e, n, ne, nf, d⟩ := I.pin p hp
      refine ⟨(hs.2 p.1 ?_).trans e, n, ne, nf, d⟩
      intro q
      rw [q, hoc] at e
      have q' : oc = p.2 := Option.some.inj e
      exact d w' (by rw [← q']; exact hocd)
theorem store_ok {M : Model} {A : Around} {E : Value → Shared → Prop} {i : Nat} {x : Str} {v : V} {u : Value} {Q : Unit → Shared → Prop} (I : Inv X pins σ H s) (hN : X.N.Nodup) (hi : X.N[i]? = some x) (hx : Loc X.env.scope x) (r : RelV v u)
    (h : ∀ s', Inv X pins (σ.set i (some v)) H s' → Q () s') (hf : X.fn x = true ∨ X.env.scope.names.lookup x = some .local := by first | exact .inl rfl | exact .inr rfl | assumption) : wpAny M A (storeName X.env x u) Q E s :=
  store_ok2 I hN hi hx r (fun s' I' _ => h s' I') hf
theorem Inv.call' {s' : Shared} {ch : List Addr} (I : Inv X pins σ H s) (ho : s'.os = s.os) (u : Un (frs X.stack) ch H H' s.heap s'.heap) (hok : HOk X.prog X.w H' s'.heap) (hg : AllBare s'.gens)
    (hch : ∀ b ∈ ch, (b ∈ X.ex ∨ X.s₀.heap.objs.size ≤ b) ∧ b ≠ X.env.locals ∧ (∀ x c, X.env.cells.lookup x = some c → c ≠ b) ∧ ∀ p ∈ X.pn ++ pins, p.1 ≠ b) : Inv X pins σ H' s' := by
  obtain ⟨h', g', d', t', o'⟩ := s'
  have e : o' = s.os := ho
  subst e
  exact I.call (g' := g') (t' := t') (d' := d') u hok hg hch
end
abbrev XK := Value → Option Addr → Hp → Prop
abbrev St := List (Option V)
abbrev VK := V → Hp → Prop
abbrev TE := St → Hp → VK → Prop
abbrev TT := St → Hp → (Bool → Hp → Prop) → Prop
abbrev TA := St → Hp → (List V → Hp → Prop) → Prop
structure Ends where
  nx : St → Hp → Prop
  rt : VK
  bk : St → Hp → Prop := fun _ _ => False
  ct : St → Hp → Prop := fun _ _ => False
abbrev TS := Ends → St → Hp → Prop
def EP (X : Cx) (pins : List (Addr × Obj)) (σ : St) (Q : VK) (u : Value) (s' : Shared) : Prop := ∃ v H', Inv X pins σ H' s' ∧ RelV v u ∧ Q v H'
def TP (X : Cx) (pins : List (Addr × Obj)) (σ : St) (Q : Bool → Hp → Prop) (b : Bool) (s' : Shared) : Prop := ∃ H', Inv X pins σ H' s' ∧ Q b H'
def AP (X : Cx) (pins : List (Addr × Obj)) (σ : St) (Q : List V → Hp → Prop) (us : List Value) (s' : Shared) : Prop := ∃ vs H', Inv X pins σ H' s' ∧ Vals vs us ∧ Q vs H'
def SP (X : Cx) (pins : List (Addr × Obj)) (D : Ends) (f : Flow) (s' : Shared) : Prop :=
  match f with
  | .next => ∃ σ' H', Inv X pins σ' H' s' ∧ D.nx σ' H'
  | .brk => ∃ σ' H', Inv X pins σ' H' s' ∧ D.bk σ' H'
  | .cont => ∃ σ' H', Inv X pins σ' H' s' ∧ D.ct σ' H'
  | .ret u => ∃ v σ' H', Inv X pins σ' H' s' ∧ RelV v u ∧ D.rt v H'
def PE (X : Cx) (e : Expr) (t : TE) : Prop :=
  ∀ (pins : List (Addr × Obj)) (s : Shared) (σ : St) (H : Hp) (Q : VK), Inv X pins σ H s → t σ H Q → wpAny (model X.prog X.w) X.A (eval e X.env) (EP X pins σ Q) X.xe s
def PT (X : Cx) (e : Expr) (t : TT) : Prop :=
  ∀ (pins : List (Addr × Obj)) (s : Shared) (σ : St) (H : Hp) (Q : Bool → Hp → Prop), Inv X pins σ H s → t σ H Q → wpAny (model X.prog X.w) X.A (isTrue e X.env (eval e X.env)) (TP X pins σ Q) X.xe s
def PW (X : Cx) (e : Expr) (t : TT) : Prop :=
  ∀ (whole : Sem Value) (pins : List (Addr × Obj)) (s : Shared) (σ : St) (H : Hp) (Q : Bool → Hp → Prop), Inv X pins σ H s → t σ H Q → wpAny (model X.prog X.w) X.A (isTrue e X.env whole) (TP X pins σ Q) X.xe s
theorem PW.pt {X : Cx} {e : Expr} {t : TT} (h : PW X e t) : PT X e t := h _
def PA (X : Cx) (es : List Expr) (t : TA) : Prop :=
  ∀ (pos : Pos) (pins : List (Addr × Obj)) (s : Shared) (σ : St) (H : Hp) (Q : List V → Hp → Prop), Inv X pins σ H s → t σ H Q → wpAny (model X.prog X.w) X.A (spliced (backTo pos (starEach es X.env))) (AP X pins σ Q) X.xe s
def PS (X : Cx) (st : Stmt) (t : TS) : Prop :=
  ∀ (pins : List (Addr × Obj)) (s : Shared) (σ : St) (H : Hp) (D : Ends), Inv X pins σ H s → t D σ H → wpAny (model X.prog X.w) X.A (exec st X.env) (SP X pins D) X.xe s
def PSs (X : Cx) (st : List Stmt) (t : TS) : Prop :=
  ∀ (pins : List (Addr × Obj)) (s : Shared) (σ : St) (H : Hp) (D : Ends), Inv X pins σ H s → t D σ H → wpAny (model X.prog X.w) X.A (execs st X.env) (SP X pins D) X.xe s
theorem thn {α : Type} {t : Sem α} {Q Q' : α → Shared → Prop} {M : Model} {A : Around} {E : Value → Shared → Prop} {s : Shared} (h : wpAny M A t Q E s) (hQ : ∀ a s, Q a s → Q' a s) : wpAny M A t Q' E s := wpAny_mono h hQ fun _ _ x => x
end L2
namespace L2
open PySem PySem.Spec PyProof.Rows
section
variable {X : Cx}
def tVar (i : Nat) : TE := fun σ H Q => ∃ v, σ[i]? = some (some v) ∧ Q v H
def tC (v : V) : TE := fun _ H Q => Q v H
theorem pe_var {i : Nat} {x : Str} {pos : Pos} (hN : X.N[i]? = some x) (hv : Vis X.env.scope x) (hd : (x == ("__debug__" : Str)) = false := by decide) (hcd : (x == ("__classdict__" : Str)) = false := by decide) : PE X (.Name x pos) (tVar i) := by
  intro pins s σ H Q I h
  obtain ⟨v, e, h⟩ := h
  obtain ⟨m, hn, hl⟩ := I.loc
  obtain ⟨u, r, l⟩ := hl i x v hN e hv
  have fin : EP X pins σ Q u s := ⟨v, H, I, r, h⟩
  rcases l with ⟨hk, hm⟩ | ⟨hk, c, hc, hcell⟩
  · exact wpAny_Name (wpAny_loadName_local I.ok.kind hk hn hm fin) hd
  · rcases hk with hk | hk
    · exact wpAny_Name (wpAny_loadName_cell I.ok.kind hk hc hcell fin) hd
    · exact wpAny_Name (wpAny_loadName_free I.ok.kind hk hc hcell fin hcd) hd
theorem pe_int {i j pos} : PE X (.Constant (.int i) j pos) (tC (.int i)) := fun _ _ _ H _ I h => wpAny_Constant_int ⟨.int i, H, I.tok _, ⟨_, rfl⟩, h⟩
theorem pe_bl {b j pos} : PE X (.Constant (.bool b) j pos) (tC (.bl b)) := fun _ _ _ H _ I h => Constant_bool ⟨.bl b, H, I, rfl, h⟩
theorem pe_non {j pos} : PE X (.Constant .none j pos) (tC .non) := fun _ _ _ H _ I h => Constant_none ⟨.non, H, I, rfl, h⟩
theorem pe_str {x j pos} : PE X (.Constant (.str x) j pos) (tC (.str x)) := fun _ _ _ H _ I h => Calls.Constant_str ⟨.str x, H, I.tok _, ⟨_, rfl⟩, h⟩
def Gl (X : Cx) (x : Str) : Prop := X.env.kindOf x = some .globalImplicit
theorem ld_glob {E : Value → Shared → Prop} {pins : List (Addr × Obj)} {s : Shared} {σ : St} {H : Hp} {x : Str} {u : Value} {pos : Pos} {Q : Value → Shared → Prop} (I : Inv X pins σ H s) (hg : Gl X x) (hm : X.mg x = some u) (h : Q u s)
    (hd : (x == ("__debug__" : Str)) = false := by decide) : wpAny (model X.prog X.w) X.A (eval (.Name x pos) X.env) Q E s :=
  Calls.Name_function_global I.ok.kind hg (Calls.loadGlobal_global (by rw [I.ok.glob]; exact I.mod.glob.keeps I.bk) hm h) hd
theorem ld_blt {E : Value → Shared → Prop} {pins : List (Addr × Obj)} {s : Shared} {σ : St} {H : Hp} {x : Str} {u : Value} {pos : Pos} {Q : Value → Shared → Prop} (I : Inv X pins σ H s) (hg : Gl X x) (hm : X.mg x = none) (hv : bootBuiltins x = some u) (h : Q u s)
    (hn : x ≠ "__name__" := by decide) (hd : (x == ("__debug__" : Str)) = false := by decide) : wpAny (model X.prog X.w) X.A (eval (.Name x pos) X.env) Q E s := by
  obtain ⟨mb, h1, h2⟩ := I.mod.blt
  exact Calls.Name_function_global I.ok.kind hg (Calls.loadGlobal_builtin (by rw [I.ok.glob]; exact I.mod.glob.keeps I.bk) hm (by rw [I.ok.blt]; exact h1.keeps I.bk) ((h2 x hn).trans hv) h) hd
theorem pe_bltn {x : Str} {v : V} {u : Value} {pos : Pos} (hg : Gl X x) (hm : X.mg x = none) (hv : bootBuiltins x = some u) (r : RelV v u) (hn : x ≠ "__name__" := by decide) (hd : (x == ("__debug__" : Str)) = false := by decide) : PE X (.Name x pos) (tC v) :=
  fun _ _ _ H _ I h => ld_blt I hg hm hv ⟨v, H, I, r, h⟩ hn hd
variable {a b : Expr} {ta tb : TE} {pos : Pos}
def PC (X : Cx) (op : CmpOp) (a b : Expr) (t : TE) : Prop :=
  ∀ (pins : List (Addr × Obj)) (s : Shared) (σ : St) (H : Hp) (Q : VK), Inv X pins σ H s → t σ H Q →
    wpAny (model X.prog X.w) X.A (eval a X.env) (fun v s₁ => wpAny (model X.prog X.w) X.A (eval b X.env) (fun u s₂ => wpAny (model X.prog X.w) X.A (compareOp op v u) (EP X pins σ Q) X.xe s₂) X.xe s₁) X.xe s
theorem nobehind (b : Expr) {op : CmpOp} (h : op ≠ .In) (h2 : op ≠ .NotIn) : behindInMarks op b = false := by
  have e1 : (op == CmpOp.In) = false := by cases op <;> first | rfl | exact absurd rfl h
  have e2 : (op == CmpOp.NotIn) = false := by cases op <;> first | rfl | exact absurd rfl h2
  cases b <;> simp [behindInMarks, e1, e2]
def tB (t : TE) : TT := fun σ H Q => t σ H fun x H1 => ∃ c, x = .bl c ∧ Q c H1
theorem pe_cmp {op : CmpOp} {t : TE} (h : PC X op a b t) (h1 : behindInMarks op b = false := by first | exact nobehind _ (by decide) (by decide) | rfl) : PE X (.Compare a [op] [b] pos) t := fun pins s σ H Q I hw => wpAny_Compare1 (h pins s σ H Q I hw) h1
theorem pt_cmp {op : CmpOp} {t : TE} (h : PC X op a b t) (h1 : behindInMarks op b = false := by first | exact nobehind _ (by decide) (by decide) | rfl) : PT X (.Compare a [op] [b] pos) (tB t) := by
  intro pins s σ H Q I hw
  refine wpAny_isTrue_Compare1 (thn (h pins s σ H _ I hw) fun v s1 h1 => thn h1 fun u s2 h2 => thn h2 fun c s3 ⟨x, H1, I1, r1, q1⟩ => ?_) h1
  obtain ⟨d, rfl, q⟩ := q1
  cases r1
  exact wpAny_truthy_bool ⟨H1, I1, q⟩
theorem pt_val {e : Expr} {t : TE} (h : PE X e t) (he : ∀ whole, isTrue e X.env whole = (do let v ← whole; standAt e.pos; holding [v] (truthy v)) := by intro _; rfl) : PT X e (tB t) := by
  intro pins s σ H Q I hw
  refine isTrue_plain (thn (h pins s σ H _ I hw) fun v s1 ⟨x, H1, I1, r1, q1⟩ => ?_) (he _)
  obtain ⟨d, rfl, q⟩ := q1
  cases r1
  exact wpAny_truthy_bool ⟨H1, I1, q⟩
variable {tA tB' : TT} {rest : List Expr}
def tAnd (t u : TT) : TT := fun σ H Q => t σ H fun c H1 => if c = true then u σ H1 Q else Q false H1
def tOr (t u : TT) : TT := fun σ H Q => t σ H fun c H1 => if c = true then Q true H1 else u σ H1 Q
def tNot (t : TT) : TT := fun σ H Q => t σ H fun c H1 => Q (!c) H1
theorem pw_and1 (ha : PT X a tA) : PW X (.BoolOp .And [a] pos) tA := by
  intro wh pins s σ H Q I h
  refine isTrue_and (thn (ha pins s σ H Q I h) fun c s1 e => ?_)
  cases c with
  | true => exact isTrue_and_nil e
  | false => exact e
theorem pw_or1 (ha : PT X a tA) : PW X (.BoolOp .Or [a] pos) tA := by
  intro wh pins s σ H Q I h
  refine isTrue_or (thn (ha pins s σ H Q I h) fun c s1 e => ?_)
  cases c with
  | false => exact isTrue_or_nil e
  | true => exact e
theorem pw_and (ha : PT X a tA) (hb : PW X (.BoolOp .And (b :: rest) pos) tB') : PW X (.BoolOp .And (a :: b :: rest) pos) (tAnd tA tB') := by
  intro wh pins s σ H Q I h
  refine isTrue_and (thn (ha pins s σ H _ I h) fun c s1 ⟨H1, I1, q1⟩ => ?_)
  cases c with
  | true => exact hb wh pins s1 σ H1 Q I1 q1
  | false => exact ⟨H1, I1, q1⟩
theorem pw_or (ha : PT X a tA) (hb : PW X (.BoolOp .Or (b :: rest) pos) tB') : PW X (.BoolOp .Or (a :: b :: rest) pos) (tOr tA tB') := by
  intro wh pins s σ H Q I h
  refine isTrue_or (thn (ha pins s σ H _ I h) fun c s1 ⟨H1, I1, q1⟩ => ?_)
  cases c with
  | true => exact ⟨H1, I1, q1⟩
  | false => exact hb wh pins s1 σ H1 Q I1 q1
theorem pt_not (ha : PT X a tA) : PT X (.UnaryOp .Not a pos) (tNot tA) := by
  intro pins s σ H Q I h
  exact isTrue_not (ha pins s σ H (fun c H1 => Q (!c) H1) I h)
def tAndV (ta tb : TE) : TE := fun σ H Q => ta σ H fun x H1 => ∃ c, x = .bl c ∧ if c = true then tb σ H1 Q else Q (.bl false) H1
def tOrV (ta tb : TE) : TE := fun σ H Q => ta σ H fun x H1 => ∃ c, x = .bl c ∧ if c = true then Q (.bl true) H1 else tb σ H1 Q
def tNotV (ta : TE) : TE := fun σ H Q => ta σ H fun x H1 => ∃ c, x = .bl c ∧ Q (.bl (!c)) H1
theorem pe_one {op} {t : TE} (h : PE X a t) : PE X (.BoolOp op [a] pos) t := fun pins s σ H Q I hw => BoolOp_one (h pins s σ H Q I hw)
theorem pe_and (ha : PE X a ta) (hb : PE X (.BoolOp .And (b :: rest) pos) tb) : PE X (.BoolOp .And (a :: b :: rest) pos) (tAndV ta tb) := by
  intro pins s σ H Q I h
  refine BoolOp_and (thn (ha pins s σ H _ I h) fun v s1 ⟨x, H1, I1, r1, q1⟩ => ?_)
  obtain ⟨c, rfl, q1⟩ := q1
  cases r1
  refine wpAny_truthy_bool ?_
  cases c with
  | true => exact hb pins s1 σ H1 Q I1 q1
  | false => exact ⟨.bl false, H1, I1, rfl, q1⟩
theorem pe_not (ha : PE X a ta) : PE X (.UnaryOp .Not a pos) (tNotV ta) := by
  intro pins s σ H Q I h
  refine UnaryOp_ (thn (ha pins s σ H _ I h) fun v s1 ⟨x, H1, I1, r1, q1⟩ => ?_)
  obtain ⟨c, rfl, q1⟩ := q1
  cases r1
  exact not_of (wpAny_truthy_bool ⟨.bl (!c), H1, I1, rfl, q1⟩)
def tIf (t : TT) (ta tb : TE) : TE := fun σ H Q => t σ H fun c H1 => if c = true then ta σ H1 Q else tb σ H1 Q
end
end L2
namespace L2
open PySem PySem.Spec PyProof.Rows
def SqL (K : PySem.W.Frag) (H : Hp) (a : Addr) (xs : List V) : Prop :=
  Rd H a (.lst xs) ∨
    ∃ (o : Obj) (its : Array Value) (n : Nat), K.lookup a = some o ∧ o.cls = .type "list" ∧ o.dict = none ∧ o.data = .seq its n ∧ its.size ≤ sizeLine ∧ Vals xs its.toList
def SqT (K : PySem.W.Frag) (H : Hp) (a : Addr) (xs : List V) : Prop :=
  Rd H a (.tup xs) ∨
    ∃ (o : Obj) (its : Array Value) (n : Nat), K.lookup a = some o ∧ o.cls = .type "tuple" ∧ o.data = .seq its n ∧ its.size ≤ sizeLine ∧ Vals xs its.toList
def absV : Value → Option V
  | .none => some .non
  | .bool b => some (.bl b)
  | .int i _ => some (.int i)
  | .str x _ => some (.str x)
  | .bytes b _ => some (.byt b)
  | .float b _ => some (.flt b)
  | .ref a => some (.ref a)
  | .type n => some (.ty n)
  | _ => none
theorem RelV.abs {x : V} {u : Value} (r : RelV x u) : absV u = some x := by
  cases x with
  | non => cases r; rfl
  | bl _ => cases r; rfl
  | int _ => obtain ⟨t, rfl⟩ := r; rfl
  | str _ => obtain ⟨t, rfl⟩ := r; rfl
  | byt _ => obtain ⟨t, rfl⟩ := r; rfl
  | flt _ => obtain ⟨t, rfl⟩ := r; rfl
  | ref _ => cases r; rfl
  | ty _ => cases r; rfl
theorem RelV.inj {x y : V} {u : Value} (r : RelV x u) (q : RelV y u) : x = y := Option.some.inj (r.abs.symm.trans q.abs)
theorem Vals.inj : ∀ {xs ys : List V} {us : List Value}, Vals xs us → Vals ys us → xs = ys
  | _, _, _, .nil, .nil => rfl
  | _, _, _, .cons r t, .cons r' t' => by rw [r.inj r', Vals.inj t t']
section
variable {X : Cx} {pins : List (Addr × Obj)} {σ : St} {H : Hp} {s : Shared} {a : Addr} {xs ys : List V}
theorem SqL.of {K : PySem.W.Frag} (h : H a = some (.lst xs)) : SqL K H a xs := .inl (.inl h)
theorem SqT.of {K : PySem.W.Frag} (h : H a = some (.tup xs)) : SqT K H a xs := .inl (.inl h)
theorem Inv.list (I : Inv X pins σ H s) (h : SqL X.K H a xs) : ∃ its : List Value, Vals xs its ∧ PlainL s.heap a its.toArray ∧ xs.length ≤ sizeLine := by
  rcases h with h | ⟨o, its, n, hk, hc, hd, hs, hz, r⟩
  · obtain ⟨z, its, n, r, e⟩ := h.ok I.hok
    exact ⟨its, r, ⟨_, n, e, rfl, rfl, rfl⟩, z⟩
  · refine ⟨its.toList, r, ⟨o, n, I.kIn a o hk, hc, hd, by simpa using hs⟩, ?_⟩
    have e := r.length
    simp only [Array.length_toList] at e
    omega
theorem Inv.tuple (I : Inv X pins σ H s) (h : SqT X.K H a xs) : ∃ its : List Value, Vals xs its ∧ IsTup s.heap a its.toArray ∧ xs.length ≤ sizeLine := by
  rcases h with h | ⟨o, its, n, hk, hc, hs, hz, r⟩
  · obtain ⟨z, its, r, p⟩ := h.ok I.hok
    exact ⟨its, r, p, z⟩
  · refine ⟨its.toList, r, ⟨o, I.kIn a o hk, hc, n, by simpa using hs⟩, ?_⟩
    have e := r.length
    simp only [Array.length_toList] at e
    omega
theorem Inv.list_inj (I : Inv X pins σ H s) (h : SqL X.K H a xs) (h' : SqL X.K H a ys) : xs = ys := by
  obtain ⟨its, r, ⟨o, n, e, _, _, d⟩, _⟩ := I.list h
  obtain ⟨its', r', ⟨o', n', e', _, _, d'⟩, _⟩ := I.list h'
  rw [e] at e'; cases e'
  rw [d] at d'
  injection d' with d1 _
  have : its = its' := by simpa using congrArg Array.toList d1
  subst this
  exact r.inj r'
theorem Inv.tuple_inj (I : Inv X pins σ H s) (h : SqT X.K H a xs) (h' : SqT X.K H a ys) : xs = ys := by
  obtain ⟨its, r, ⟨o, e, _, n, d⟩, _⟩ := I.tuple h
  obtain ⟨its', r', ⟨o', e', _, n', d'⟩, _⟩ := I.tuple h'
  rw [e] at e'; cases e'
  rw [d] at d'
  injection d' with d1 _
  have : its = its' := by simpa using congrArg Array.toList d1
  subst this
  exact r.inj r'
end
abbrev Cx.wish (X : Cx) (E : Value → Shared → Prop) : Cx := { X with xe := E }
abbrev Cx.nox (X : Cx) : Cx := X.wish fun _ _ => False
theorem Cx.Ok.wish {X : Cx} (ok : X.Ok) (E : Value → Shared → Prop) : (X.wish E).Ok :=
  ⟨ok.mod, ok.kind, ok.glob, ok.blt, ok.above, ok.inj, ok.has, ok.cab, ok.hd, ok.frames, ok.stk, ok.exf, ok.bs, ok.bsz, ok.noex, ok.exfs, ok.funs, ok.frf⟩
theorem Cx.Ok.unwish {X : Cx} {E : Value → Shared → Prop} (ok : (X.wish E).Ok) : X.Ok :=
  ⟨ok.mod, ok.kind, ok.glob, ok.blt, ok.above, ok.inj, ok.has, ok.cab, ok.hd, ok.frames, ok.stk, ok.exf, ok.bs, ok.bsz, ok.noex, ok.exfs, ok.funs, ok.frf⟩
section
variable {X : Cx} {pins : List (Addr × Obj)} {σ : St} {H : Hp} {s : Shared} {E : Value → Shared → Prop}
theorem Inv.wish (I : Inv X pins σ H s) (E : Value → Shared → Prop) : Inv (X.wish E) pins σ H s := ⟨I.ok.wish E, I.os, I.bare, I.base, I.loc, I.cell, I.free, I.freeC, I.pin, I.hok, I.len⟩
theorem Inv.unwish (I : Inv (X.wish E) pins σ H s) : Inv X pins σ H s := ⟨I.ok.unwish, I.os, I.bare, I.base, I.loc, I.cell, I.free, I.freeC, I.pin, I.hok, I.len⟩
theorem SP.unwish {D : Ends} {f : Flow} {s' : Shared} (h : SP (X.wish E) pins D f s') : SP X pins D f s' := by
  cases f with
  | next => obtain ⟨σ', H', I, q⟩ := h; exact ⟨σ', H', I.unwish, q⟩
  | brk => obtain ⟨σ', H', I, q⟩ := h; exact ⟨σ', H', I.unwish, q⟩
  | cont => obtain ⟨σ', H', I, q⟩ := h; exact ⟨σ', H', I.unwish, q⟩
  | ret u => obtain ⟨v, σ', H', I, r, q⟩ := h; exact ⟨v, σ', H', I.unwish, r, q⟩
theorem PE.nox {e : Expr} {t : TE} (h : PE X.nox e t) : PE X e t := fun pins s σ H Q I hw =>
  wpAny_mono (h pins s σ H Q (I.wish _) hw) (fun _ _ ⟨v, H', I', r, q⟩ => ⟨v, H', I'.unwish, r, q⟩) fun _ _ z => False.elim z
theorem PT.nox {e : Expr} {t : TT} (h : PT X.nox e t) : PT X e t := fun pins s σ H Q I hw =>
  wpAny_mono (h pins s σ H Q (I.wish _) hw) (fun _ _ ⟨H', I', q⟩ => ⟨H', I'.unwish, q⟩) fun _ _ z => False.elim z
theorem PSs.nox {st : List Stmt} {t : TS} (h : PSs X.nox st t) : PSs X st t := fun pins s σ H D I hw =>
  wpAny_mono (h pins s σ H D (I.wish _) hw) (fun _ _ q => q.unwish) fun _ _ z => False.elim z
end
section
variable {X : Cx} {st : Stmt} {rest : List Stmt} {t u : TS} {e : Expr} {te : TE} {pos : Pos}
def tNext : TS := fun D σ H => D.nx σ H
def tSeq (t u : TS) : TS := fun D σ H => t { D with nx := u D } σ H
theorem pss_nil : PSs X [] tNext := fun _ _ σ H _ I h => wpAny_execs_nil ⟨σ, H, I, h⟩
theorem pss_cons (h1 : PS X st t) (h2 : PSs X rest u) : PSs X (st :: rest) (tSeq t u) := by
  intro pins s σ H D I h
  refine wpAny_execs_cons (thn (h1 pins s σ H { D with nx := u D } I h) fun f s1 q => ?_)
  cases f with
  | next =>
    obtain ⟨σ', H', I', q⟩ := q
    exact h2 pins s1 σ' H' D I' q
  | ret v => exact q
  | brk => exact q
  | cont => exact q
theorem pss_one (h1 : PS X st t) : PSs X [st] t := by
  intro pins s σ H D I h
  refine wpAny_execs_cons (thn (h1 pins s σ H D I h) fun f s1 q => ?_)
  cases f with
  | next => exact wpAny_execs_nil q
  | ret v => exact q
  | brk => exact q
  | cont => exact q
def tBreak : TS := fun D σ H => D.bk σ H
def tCont : TS := fun D σ H => D.ct σ H
theorem ps_continue : PS X (.Continue pos) tCont := fun _ _ σ H _ I h => wpAny_Continue ⟨σ, H, I, h⟩
theorem Inv.quiet {pins : List (Addr × Obj)} {σ : St} {H : Hp} {s : Shared} (I : Inv X pins σ H s) : interactive X.env = false := by simp [interactive, I.ok.kind]
def tDrop (te : TE) : TS := fun D σ H => te σ H fun _ H1 => D.nx σ H1
theorem ps_expr (he : PE X e te) (hs : swapsWith e none pos.line X.env = pure false := by rfl) : PS X (.Expr e pos) (tDrop te) := by
  intro pins s σ H D I h
  exact wpAny_Expr_any (thn (he pins s σ H _ I h) fun v s1 ⟨x, H1, I1, r1, q1⟩ => ⟨σ, H1, I1, q1⟩) I.quiet hs
def tRet (te : TE) : TS := fun D σ H => te σ H D.rt
theorem ps_ret (he : PE X e te) : PS X (.Return (some e) pos) (tRet te) := by
  intro pins s σ H D I h
  exact wpAny_Return_some (thn (he pins s σ H _ I h) fun v s1 ⟨x, H1, I1, r1, q1⟩ => ⟨x, σ, H1, I1, r1, q1⟩)
def tRetN : TS := fun D _ H => D.rt .non H
def tIfS (c : TT) (t u : TS) : TS := fun D σ H => c σ H fun b H1 => if b = true then t D σ H1 else u D σ H1
theorem ps_if {c : Expr} {a b : List Stmt} {tc : TT} (hc : PT X c tc) (ha : PSs X a t) (hb : PSs X b u) : PS X (.If c a b pos) (tIfS tc t u) := by
  intro pins s σ H D I h
  refine wpAny_If (thn (hc pins s σ H _ I h) fun d s1 ⟨H1, I1, q1⟩ => ?_)
  cases d with
  | true => exact ha pins s1 σ H1 D I1 q1
  | false => exact hb pins s1 σ H1 D I1 q1
end
abbrev TG := V → St → Hp → (St → Hp → Prop) → Prop
abbrev TGs := List V → St → Hp → (St → Hp → Prop) → Prop
def PG (X : Cx) (target : Expr) (t : TG) : Prop :=
  ∀ (pins : List (Addr × Obj)) (s : Shared) (σ : St) (H : Hp) (v : V) (u : Value) (Q : St → Hp → Prop), Inv X pins σ H s → RelV v u → t v σ H Q →
    wpAny (model X.prog X.w) X.A (assign target X.env u) (fun _ s' => ∃ σ' H', Inv X pins σ' H' s' ∧ Q σ' H') X.xe s
def PGs (X : Cx) (ts : List Expr) (t : TGs) : Prop :=
  ∀ (pins : List (Addr × Obj)) (s : Shared) (σ : St) (H : Hp) (vs : List V) (us : List Value) (Q : St → Hp → Prop), Inv X pins σ H s → Vals vs us → t vs σ H Q →
    wpAny (model X.prog X.w) X.A (assignInOrder ((assignEach ts X.env).map (·.2)) us) (fun _ s' => ∃ σ' H', Inv X pins σ' H' s' ∧ Q σ' H') X.xe s
abbrev TSet := V → V → V → Hp → (Hp → Prop) → Prop
section
variable {X : Cx} {pos : Pos}
def gName (i : Nat) : TG := fun v σ H Q => Q (σ.set i (some v)) H
theorem pg_name {i : Nat} {x : Str} (hN : X.N.Nodup) (hi : X.N[i]? = some x) (hx : Loc X.env.scope x) (hf : X.fn x = true ∨ X.env.scope.names.lookup x = some .local := by first | exact .inl rfl | exact .inr rfl | assumption) : PG X (.Name x pos) (gName i) := by
  intro pins s σ H v u Q I r h
  exact wpAny_assign_Name (store_ok I hN hi hx r (fun s' I' => ⟨_, H, I', h⟩) hf)
def gNil : TGs := fun vs σ H Q => vs = [] ∧ Q σ H
def gCons (t : TG) (u : TGs) : TGs := fun vs σ H Q => ∃ v r, vs = v :: r ∧ t v σ H fun σ' H' => u r σ' H' Q
theorem pgs_nil : PGs X [] gNil := by
  intro pins s σ H vs us Q I r h
  obtain ⟨e, h⟩ := h
  subst e
  cases r
  exact assignInOrder_nil ⟨σ, H, I, h⟩
theorem pgs_cons {e : Expr} {es : List Expr} {t : TG} {u : TGs} (h1 : PG X e t) (h2 : PGs X es u)
    (hs : (assignEach (e :: es) X.env).map (·.2) = assign e X.env :: (assignEach es X.env).map (·.2) := by rfl) : PGs X (e :: es) (gCons t u) := by
  intro pins s σ H vs us Q I r h
  obtain ⟨v, vr, e1, h⟩ := h
  subst e1
  cases r with
  | cons r rr =>
    rw [hs]
    refine assignInOrder_cons (thn (h1 pins s σ H _ _ _ I r h) fun _ s1 ⟨σ1, H1, I1, q1⟩ => ?_)
    exact h2 pins s1 σ1 H1 _ _ Q I1 rr q1
def gTup (K : PySem.W.Frag) (n : Nat) (t : TGs) : TG := fun v σ H Q => ∃ a xs, v = .ref a ∧ SqT K H a xs ∧ xs.length = n ∧ t xs σ H Q
theorem pg_tup {es : List Expr} {k : Nat} {t : TGs} {n : Nat} (hc : Calm X) (h : PGs X es t)
    (hn : (assignEach es X.env).length = n := by rfl) (hst : (assignEach es X.env).findIdx? (·.1) = none := by rfl) : PG X (.Tuple es k pos) (gTup X.K n t) := by
  intro pins s σ H v u Q I r hw
  obtain ⟨a, xs, e1, hq, hl, hw⟩ := hw
  subst e1
  cases r
  obtain ⟨its, rv, ht, hz⟩ := I.tuple hq
  refine tup_unpacked (I.calm hc) ht (by simp [hn, ← hl, rv.length]) hst fun h' hx => ?_
  have I1 : Inv X pins σ H { s with heap := h' } := I.kept (t' := s.toks) fun b o e => hx b o (Nat.ne_of_lt (Heap.lt_size e)) e
  exact h pins _ σ H xs _ Q I1 (by simpa using rv) hw
def gSub (to ti : TE) (t : TSet) : TG := fun v σ H Q => to σ H fun o H1 => ti σ H1 fun i H2 => t o i v H2 fun H3 => Q σ H3
def tAsg (te : TE) (g : TG) : TS := fun D σ H => te σ H fun x H1 => g x σ H1 D.nx
theorem ps_asg {tg e : Expr} {te : TE} {g : TG} (he : PE X e te) (hg : PG X tg g) (hs : swapsWithSole [tg] e pos.line X.env = pure false := by rfl) (hw : swappedStores [tg] e X.env = pure none := by rfl)
    (h1 : (assignEach [tg] X.env).map (·.2) = [assign tg X.env] := by rfl) : PS X (.Assign [tg] e pos) (tAsg te g) := by
  intro pins s σ H D I h
  refine wpAny_Assign_stores (thn (he pins s σ H _ I h) fun v s1 ⟨x, H1, I1, r1, q1⟩ => ?_) hs hw
  rw [h1]
  exact thn (hg pins s1 σ H1 x v _ I1 r1 q1) fun _ s2 q => q
theorem ps_set {i : Nat} {x : Str} {e : Expr} {te : TE} {pos' : Pos} (hN : X.N.Nodup) (hi : X.N[i]? = some x) (hx : Loc X.env.scope x) (he : PE X e te) (hs : swapsWith e (some (.Name x pos')) pos.line X.env = pure false := by rfl) (hf : X.fn x = true ∨ X.env.scope.names.lookup x = some .local := by first | exact .inl rfl | exact .inr rfl | assumption) :
    PS X (.Assign [.Name x pos'] e pos) (tAsg te (gName i)) := by
  intro pins s σ H D I h
  refine wpAny_Assign_Name (thn (he pins s σ H _ I h) fun v s1 ⟨y, H1, I1, r1, q1⟩ => ?_) hs
  exact store_ok I1 hN hi hx r1 (fun s2 I2 => ⟨_, H1, I2, q1⟩) hf
end
section
variable {X : Cx} {pos : Pos}
def tWhile (c : TT) (tb : TS) : TS := fun D σ H => ∃ W : Nat → St → Hp → Prop, (∃ m, W m σ H) ∧ ∀ m σ H, W m σ H →
  c σ H fun b H1 => if b = true then ∃ N : St → Hp → Prop, (∀ σ' H', N σ' H' → ∃ m', m' < m ∧ W m' σ' H') ∧ tb { D with nx := N, ct := N, bk := D.nx } σ H1 else D.nx σ H1
theorem ps_while {c : Expr} {body : List Stmt} {tc : TT} {tb : TS} (hp : PassesOwn (model X.prog X.w) X.A X.env X.xe) (hc : PT X c tc) (hb : PSs X body tb) : PS X (.While c body [] pos) (tWhile tc tb) := by
  intro pins s σ H D I h
  obtain ⟨W, ⟨m0, w0⟩, turn⟩ := h
  refine wpAny_While (codeAny_whileLoop (fun n s' => ∃ σ' H', Inv X pins σ' H' s' ∧ W n σ' H') ?_ m0 ⟨σ, H, I, w0⟩)
  rintro n s1 ⟨σ1, H1, I1, w1⟩
  refine wpAny_passesOwn hp (thn (hc pins s1 σ1 H1 _ I1 (turn n σ1 H1 w1)) fun b s2 ⟨H2, I2, q2⟩ => ?_)
  cases b with
  | true =>
    obtain ⟨N, hN, q2⟩ := q2
    rw [if_pos rfl]
    refine wpAny_passesOwn hp (thn (hb pins s2 σ1 H2 _ I2 q2) fun f s3 q3 => ?_)
    cases f with
    | next =>
      obtain ⟨σ3, H3, I3, n3⟩ := q3
      obtain ⟨m', hm, w3⟩ := hN σ3 H3 n3
      exact ⟨m', hm, σ3, H3, I3, w3⟩
    | cont =>
      obtain ⟨σ3, H3, I3, n3⟩ := q3
      obtain ⟨m', hm, w3⟩ := hN σ3 H3 n3
      exact ⟨m', hm, σ3, H3, I3, w3⟩
    | brk => exact q3
    | ret v => exact q3
  | false =>
    rw [if_neg Bool.false_ne_true]
    exact wpAny_execs_nil ⟨σ1, H2, I2, q2⟩
end
structure It where
  go : Nat → Hp → Prop
  yld : Nat → Hp → V → Hp → Prop
  stop : Nat → Hp → Prop
def FpOk (X : Cx) (pins : List (Addr × Obj)) (H : Hp) (b : Addr) : Prop :=
  H b = none ∧ b ≠ X.env.locals ∧ b ∉ X.fs ∧ (b ∈ X.ex ∨ X.s₀.heap.objs.size ≤ b) ∧ (∀ x c, X.env.cells.lookup x = some c → c ≠ b) ∧ ∀ p ∈ X.pn ++ pins, p.1 ≠ b
theorem Inv.fpOk {X : Cx} {pins : List (Addr × Obj)} {σ : St} {H H' : Hp} {s : Shared} {b : Addr} (I : Inv X pins σ H s) (hb : s.heap.objs.size ≤ b) (hn : H' b = none) : FpOk X pins H' b := by
  refine ⟨hn, Nat.ne_of_gt (Nat.lt_of_lt_of_le I.lt hb), I.nofs hb, .inr (Nat.le_trans I.sz hb), fun x c e z => ?_, fun p hp z => ?_⟩
  · obtain ⟨v, q⟩ := I.cell x c e
    exact absurd (Nat.lt_of_lt_of_le q.lt (by rw [z]; exact hb)) (Nat.lt_irrefl _)
  · exact absurd (Nat.lt_of_lt_of_le (Heap.lt_size (I.pin p hp).1) (by rw [z]; exact hb)) (Nat.lt_irrefl _)
structure Turn (P : Program) (w : World) (K : PySem.W.Frag) (tg : Expr) (J : It) (fp : List Addr) (it : Addr) (tn : Nat → Heap → Prop) : Prop where
  mem : it ∈ fp
  obj : ∀ i h, tn i h → ∀ b ∈ fp, ∃ o, h.get? b = some o ∧ ∀ v, o.data ≠ .cell v
  keep : ∀ i h h', tn i h → (∀ b ∈ fp, ∀ o, h.get? b = some o → h'.get? b = some o) → tn i h'
  item : ∀ (X : Cx), X.prog = P → X.w = w → X.K = K → Calm X → ∀ (i : Nat) (pins : List (Addr × Obj)) (s : Shared) (σ : St) (H : Hp) (E : Value → Shared → Prop), Inv X pins σ H s → (∀ b ∈ fp, FpOk X pins H b) → tn i s.heap → J.go i H →
    wpAny (model P w) X.A (pyNext (.ref it)) (fun r s1 => ∃ u, r = some u ∧
      wpAny (model P w) X.A (letOwnedTupleGo tg (.ref it) u) (fun _ s2 => ∃ x H', Inv X pins σ H' s2 ∧ RelV x u ∧ J.yld i H x H' ∧ tn (i + 1) s2.heap ∧ ∀ b ∈ fp, H' b = none) E s1) E s
  done : ∀ (X : Cx), X.prog = P → X.w = w → X.K = K → Calm X → ∀ (i : Nat) (pins : List (Addr × Obj)) (s : Shared) (σ : St) (H : Hp) (E : Value → Shared → Prop), Inv X pins σ H s → (∀ b ∈ fp, FpOk X pins H b) → tn i s.heap → J.stop i H →
    wpAny (model P w) X.A (pyNext (.ref it)) (fun r s1 => r = none ∧ Inv X pins σ H s1) E s
  self : ∀ (A : Around) (i : Nat) (s : Shared) (Q : Value → Shared → Prop) (E : Value → Shared → Prop), tn i s.heap → Q (.ref it) s → wpAny (model P w) A (pyIter (.ref it)) Q E s
abbrev TI := St → Hp → (It → Hp → Prop) → Prop
def PIE (X : Cx) (pins : List (Addr × Obj)) (σ : St) (tg : Expr) (R : It → Hp → Prop) (itv : Value) (s2 : Shared) : Prop :=
  ∃ (it : Addr) (fp : List Addr) (tn : Nat → Heap → Prop) (J : It) (H' : Hp), itv = .ref it ∧ Inv X pins σ H' s2 ∧ Turn X.prog X.w X.K tg J fp it tn ∧ tn 0 s2.heap ∧ (∀ b ∈ fp, FpOk X pins H' b) ∧ R J H'
def PI (X : Cx) (tg iter : Expr) (wi : TI) : Prop :=
  ∀ (pins : List (Addr × Obj)) (s : Shared) (σ : St) (H : Hp) (R : It → Hp → Prop), Inv X pins σ H s → wi σ H R →
    wpAny (model X.prog X.w) X.A (eval iter X.env) (fun v s1 => wpAny (model X.prog X.w) X.A (pyIter v) (PIE X pins σ tg R) X.xe s1) X.xe s
theorem go_of {M : Model} {A : Around} {E : Value → Shared → Prop} {s : Shared} {tg : Expr} {it : Addr} {u : Value} {o : Obj} {n : String} {vs : Array Value} {Q : Unit → Shared → Prop} (ho : s.heap.get? it = some o) (hc : o.cls = .type n) (hd : o.data = .fields vs)
    (hn : ["enumerate", "zip", "dict_itemiterator", "dict_reverseitemiterator", "odict_iterator", "itertools.zip_longest", "itertools.pairwise"].contains n = false) (hQ : Q () s) : wpAny M A (letOwnedTupleGo tg (.ref it) u) Q E s := by
  unfold letOwnedTupleGo
  cases tg <;> first
    | exact wpAny_pure hQ
    | (cases u <;> first
        | exact wpAny_pure hQ
        | (refine wpAny_bind (wpAny_load ho ?_)
           rw [hc, hd]
           show wpAny M A (if (["enumerate", "zip", "dict_itemiterator", "dict_reverseitemiterator", "odict_iterator", "itertools.zip_longest", "itertools.pairwise"].contains n && vs[0]? == some (rawInt _)) = true then _ else _) Q E s
           rw [if_neg (by intro h; rw [hn, Bool.false_and] at h; cases h)]
           exact wpAny_pure hQ))
def Itl (K : PySem.W.Frag) (a : Addr) : It :=
  ⟨fun i H => ∃ xs x, SqL K H a xs ∧ xs[i]? = some x, fun i H x H' => H' = H ∧ ∀ xs, SqL K H a xs → xs[i]? = some x, fun i H => ∃ xs, SqL K H a xs ∧ xs.length ≤ i⟩
def Itt (K : PySem.W.Frag) (a : Addr) : It :=
  ⟨fun i H => ∃ xs x, SqT K H a xs ∧ xs[i]? = some x, fun i H x H' => H' = H ∧ ∀ xs, SqT K H a xs → xs[i]? = some x, fun i H => ∃ xs, SqT K H a xs ∧ xs.length ≤ i⟩
def Itr (lo : Int) (n : Nat) : It := ⟨fun i _ => i < n, fun i H x H' => H' = H ∧ x = .int (lo + i), fun i _ => n ≤ i⟩
theorem turn_list {P : Program} {w : World} {K : PySem.W.Frag} {tg : Expr} (a it : Addr) : Turn P w K tg (Itl K a) [it] it (fun i h => h.IsListIter it a i) where
  mem := by simp
  obj := fun i h st b hb => by
    have e : b = it := by simpa using hb
    subst e
    obtain ⟨o, e, c, d⟩ := st
    exact ⟨o, e, fun v z => by rw [d] at z; cases z⟩
  keep := fun i h h' st k => st.at fun o e => k it (by simp) o e
  item := by
    intro X hP hw hK hc i pins s σ H E I hf st hg
    subst hP hw hK
    obtain ⟨xs, x, hq, hx⟩ := hg
    obtain ⟨its, rv, p, hz⟩ := I.list hq
    obtain ⟨u, hu, ru⟩ := rv.get hx
    obtain ⟨f0, f1, f2, f3, f4, f5⟩ := hf it (by simp)
    refine wpAny_pyNext_list_item st p.isList (x := u) (by simpa using hu) fun h' st' sb => ?_
    have I1 : Inv X pins σ H { s with heap := h' } := I.turned (t' := s.toks) (fun b o hb e => (sb.2 b hb).trans e) f0 f1 f3 f4 f5
    obtain ⟨o, e, c, d⟩ := id st'
    exact ⟨u, rfl, go_of (s := { s with heap := h' }) e c d (by decide) ⟨x, H, I1, ru, ⟨rfl, fun ys hy => by rw [I.list_inj hy hq]; exact hx⟩, st', fun b hb => (hf b hb).1⟩⟩
  done := by
    intro X hP hw hK hc i pins s σ H E I hf st hg
    subst hP hw hK
    obtain ⟨xs, hq, hx⟩ := hg
    obtain ⟨its, rv, p, hz⟩ := I.list hq
    obtain ⟨f0, f1, f2, f3, f4, f5⟩ := hf it (by simp)
    have hl := rv.length
    exact list_end (I.calm hc) st p.isList (by simp; omega) fun h' eb => ⟨rfl, I.turned (t' := s.toks) (fun b o hb e => eb b o hb e) f0 f1 f3 f4 f5⟩
  self := fun _ _ _ _ _ st h => wpAny_pyIter_listiter st h
theorem turn_range {P : Program} {w : World} {K : PySem.W.Frag} {tg : Expr} (it : Addr) (lo : Int) (n : Nat) : Turn P w K tg (Itr lo n) [it] it (fun i h => IsRangeIter h it (lo + (i : Nat) * 1) ((n : Int) - (i : Nat)) 1) where
  mem := by simp
  obj := fun i h st b hb => by
    have e : b = it := by simpa using hb
    subst e
    exact ⟨_, st, fun v z => by
      have z' : Data.fields _ = Data.cell v := z
      cases z'⟩
  keep := fun i h h' st k => k it (by simp) _ st
  item := by
    intro X hP hw hK hc i pins s σ H E I hf st hg
    subst hP hw hK
    obtain ⟨f0, f1, f2, f3, f4, f5⟩ := hf it (by simp)
    refine wpAny_pyNext_range_item st (by have : i < n := hg; omega) fun h' st2 sb => ?_
    have st' : IsRangeIter h' it (lo + ((i + 1 : Nat) : Int) * 1) ((n : Int) - ((i + 1 : Nat) : Int)) 1 := by
      rw [show lo + ((i + 1 : Nat) : Int) * 1 = lo + (i : Nat) * 1 + 1 by omega, show (n : Int) - ((i + 1 : Nat) : Int) = n - (i : Nat) - 1 by omega]
      exact st2
    have I1 : Inv X pins σ H { s with heap := h', toks := s.toks + 1 } := I.turned (fun b o hb e => (sb.2 b hb).trans e) f0 f1 f3 f4 f5
    refine ⟨_, rfl, go_of (s := { s with heap := h', toks := s.toks + 1 }) (n := "range_iterator") st' rfl rfl (by decide) ⟨.int (lo + i), H, I1, ⟨s.toks, ?_⟩, ⟨rfl, rfl⟩, st', fun b hb => (hf b hb).1⟩⟩
    rw [Int.mul_one]
  done := by
    intro X hP hw hK hc i pins s σ H E I hf st hg
    subst hP hw hK
    obtain ⟨f0, f1, f2, f3, f4, f5⟩ := hf it (by simp)
    exact range_end (I.calm hc) st (by have : n ≤ i := hg; omega) fun h' eb => ⟨rfl, I.turned (t' := s.toks) (fun b o hb e => eb b o hb e) f0 f1 f3 f4 f5⟩
  self := fun _ _ _ _ _ st h => wpAny_pyIter_rangeiter st h
end L2
namespace L2
open PySem PySem.Spec PyProof.Rows
section
variable {X : Cx} {tg : Expr}
def iList (K : PySem.W.Frag) (tl : TE) : TI := fun σ H R => tl σ H fun x H1 => ∃ a, x = .ref a ∧ (∃ xs, SqL K H1 a xs) ∧ R (Itl K a) H1
def iTup (K : PySem.W.Frag) (tl : TE) : TI := fun σ H R => tl σ H fun x H1 => ∃ a, x = .ref a ∧ (∃ xs, SqT K H1 a xs) ∧ R (Itt K a) H1
theorem pi_list {l : Expr} {tl : TE} (hl : PE X l tl) : PI X tg l (iList X.K tl) := by
  intro pins s σ H R I h
  refine thn (hl pins s σ H _ I h) fun v s1 ⟨x, H1, I1, r1, q1⟩ => ?_
  obtain ⟨a, e, ⟨xs, hq⟩, q⟩ := q1
  subst e
  cases r1
  obtain ⟨its, rv, p, hz⟩ := I1.list hq
  refine wpAny_pyIter_list p.isList ?_
  refine ⟨s1.heap.objs.size, [s1.heap.objs.size], _, _, H1, rfl, I1.kept (t' := s1.toks) fun b o e => Heap.get?_push_of_some _ e, turn_list a _, ⟨_, Heap.get?_push_size _ rfl, rfl, rfl⟩, fun b hb => ?_, q⟩
  have e : b = s1.heap.objs.size := by simpa using hb
  subst e
  exact I1.fpOk (Nat.le_refl _) (I1.hok.fresh (Nat.le_refl _))
theorem range_it {pins : List (Addr × Obj)} {σ : St} {H : Hp} {s : Shared} {R : It → Hp → Prop} {E : Value → Shared → Prop} {lo hi : Int} {t u v : Tok} {tk : Nat} (I : Inv X pins σ H s) (h1 : -(2 ^ 62) ≤ lo) (h2 : lo < 2 ^ 62) (h3 : -(2 ^ 62) ≤ hi) (h4 : hi < 2 ^ 62)
    (q : R (Itr lo (hi - lo).toNat) H) : wpAny (model X.prog X.w) X.A (pyIter (.ref s.heap.objs.size)) (PIE X pins σ tg R) E { s with heap := s.heap.push { cls := .type "range", data := .fields #[.int lo t, .int hi u, .int 1 v] }, toks := tk } := by
  refine wpAny_pyIter_range (IsRange.new ..) (small_one h1 h2 h3 h4) ?_
  have I1 : Inv X pins σ H { s with heap := s.heap.push { cls := .type "range", data := .fields #[.int lo t, .int hi u, .int 1 v] }, toks := tk } := I.kept fun b o e => Heap.get?_push_of_some _ e
  refine ⟨(s.heap.push { cls := .type "range", data := .fields #[.int lo t, .int hi u, .int 1 v] }).objs.size, [(s.heap.push { cls := .type "range", data := .fields #[.int lo t, .int hi u, .int 1 v] }).objs.size], _, _, H, rfl,
    I1.kept (t' := tk) fun b o e => Heap.get?_push_of_some _ e, turn_range _ lo (hi - lo).toNat, ?_, fun b hb => ?_, q⟩
  · have e1 : lo + ((0 : Nat) : Int) * 1 = lo := by simp
    have e2 : (((hi - lo).toNat : Nat) : Int) - ((0 : Nat) : Int) = Builtin.Range.rangeSize lo hi 1 := by rw [rangeSize_one]; split <;> omega
    show IsRangeIter _ _ (lo + ((0 : Nat) : Int) * 1) ((((hi - lo).toNat : Nat) : Int) - ((0 : Nat) : Int)) 1
    rw [e1, e2]
    exact Heap.get?_push_size _ rfl
  · have e : b = (s.heap.push { cls := .type "range", data := .fields #[.int lo t, .int hi u, .int 1 v] }).objs.size := by simpa using hb
    subst e
    exact I1.fpOk (Nat.le_refl _) (I1.hok.fresh (Nat.le_refl _))
def iRng1 (ta : TA) : TI := fun σ H R => ta σ H fun vs H1 => ∃ j : Int, vs = [.int j] ∧ -(2 ^ 62) ≤ j ∧ j < 2 ^ 62 ∧ R (Itr 0 j.toNat) H1
def iRng2 (ta : TA) : TI := fun σ H R => ta σ H fun vs H1 => ∃ i j : Int, vs = [.int i, .int j] ∧ (-(2 ^ 62) ≤ i ∧ i < 2 ^ 62 ∧ -(2 ^ 62) ≤ j ∧ j < 2 ^ 62) ∧ R (Itr i (j - i).toNat) H1
theorem pi_range1 {a : Expr} {ta : TA} {p pos : Pos} (hg : Gl X "range") (hm : X.mg "range" = none) (ha : PA X [a] ta) (hs : starEach [a] X.env = [(false, eval a X.env)] := by rfl) : PI X tg (.Call (.Name "range" p) [a] [] pos) (iRng1 ta) := by
  intro pins s σ H R I h
  refine Call_ (ld_blt I hg hm boot_range (PyProof.Rows.callWith_type1 (thn (ha pos pins s σ H _ I h) fun us s1 ⟨vs, H1, I1, r1, q1⟩ => ?_) hs rfl))
  obtain ⟨j, e, q1, q2, q⟩ := q1
  subst e
  cases r1 with
  | cons r rr =>
    cases rr
    obtain ⟨t, rfl⟩ := r
    exact call_range_1 (range_it I1 (by omega) (by omega) q1 q2 (by simpa using q))
theorem pi_range2 {a b : Expr} {ta : TA} {p pos : Pos} (hg : Gl X "range") (hm : X.mg "range" = none) (ha : PA X [a, b] ta) (hs : starEach [a, b] X.env = [(false, eval a X.env), (false, eval b X.env)] := by rfl) (hs2 : starEach [b] X.env = [(false, eval b X.env)] := by rfl) :
    PI X tg (.Call (.Name "range" p) [a, b] [] pos) (iRng2 ta) := by
  intro pins s σ H R I h
  refine Call_ (ld_blt I hg hm boot_range (PyProof.Rows.callWith_type1 (thn (ha pos pins s σ H _ I h) fun us s1 ⟨vs, H1, I1, r1, q1⟩ => ?_) (by rw [hs, hs2]) (by rw [hs2]; rfl)))
  obtain ⟨i, j, e, ⟨q1, q2, q3, q4⟩, q⟩ := q1
  subst e
  cases r1 with
  | cons r rr =>
    cases rr with
    | cons r' rr =>
      cases rr
      obtain ⟨t, rfl⟩ := r
      obtain ⟨t', rfl⟩ := r'
      exact call_range_2 (range_it I1 q1 q2 q3 q4 q)
def tFor (wi : TI) (g : TG) (tb : TS) : TS := fun D σ H => wi σ H fun J H1 => ∃ W : Nat → Nat → St → Hp → Prop, (∃ m, W 0 m σ H1) ∧ ∀ i m σ H, W i m σ H →
  (J.stop i H ∧ D.nx σ H) ∨ (J.go i H ∧ ∃ N : St → Hp → Prop, (∀ σ' H', N σ' H' → ∃ m', m' < m ∧ W (i + 1) m' σ' H') ∧ ∀ x H', J.yld i H x H' → g x σ H' fun σ2 H2 => tb { D with nx := N, ct := N, bk := D.nx } σ2 H2)
def pinsAt (fp : List Addr) (h : Heap) : List (Addr × Obj) := fp.filterMap fun b => (h.get? b).map fun o => (b, o)
theorem mem_pinsAt {fp : List Addr} {h : Heap} {b : Addr} {o : Obj} (hb : b ∈ fp) (e : h.get? b = some o) : (b, o) ∈ pinsAt fp h := List.mem_filterMap.mpr ⟨b, hb, by rw [e]; rfl⟩
theorem of_pinsAt {fp : List Addr} {h : Heap} {p : Addr × Obj} (hp : p ∈ pinsAt fp h) : p.1 ∈ fp ∧ h.get? p.1 = some p.2 := by
  obtain ⟨b, hb, e⟩ := List.mem_filterMap.mp hp
  cases q : h.get? b with
  | none => rw [q] at e; cases e
  | some o =>
    rw [q] at e
    have e' : (b, o) = p := Option.some.inj e
    subst e'
    exact ⟨hb, q⟩
theorem Inv.pinned {pins : List (Addr × Obj)} {σ : St} {H : Hp} {s : Shared} {fp : List Addr} (I : Inv X pins σ H s) (hf : ∀ b ∈ fp, FpOk X pins H b) (ho : ∀ b ∈ fp, ∃ o, s.heap.get? b = some o ∧ ∀ v, o.data ≠ .cell v) : Inv X (pins ++ pinsAt fp s.heap) σ H s :=
  I.pins_of fun p hp => (List.mem_append.mp hp).elim (fun z => I.pin p (List.mem_append_right _ z)) fun z => by
    obtain ⟨hb, e⟩ := of_pinsAt z
    obtain ⟨f0, f1, f2, _⟩ := hf p.1 hb
    obtain ⟨o, e', d⟩ := ho p.1 hb
    rw [e] at e'; cases e'
    exact ⟨e, f0, f1, f2, d⟩
theorem Inv.unpinned {pins pl : List (Addr × Obj)} {σ : St} {H : Hp} {s : Shared} (I : Inv X (pins ++ pl) σ H s) : Inv X pins σ H s := I.pins_of fun p hp => I.pin p (List.mem_append_right _ (List.mem_append_left _ hp))
theorem ps_for {iter : Expr} {body : List Stmt} {wi : TI} {g : TG} {tb : TS} {pos : Pos} (hp : PassesOwn (model X.prog X.w) X.A X.env X.xe) (hc : Calm X) (hi : PI X tg iter wi) (hg : PG X tg g) (hb : PSs X body tb)
    (hs : ∀ x, foldedSetIterable iter X.env x = pure x := by intro _; rfl) : PS X (.For tg iter body [] pos) (tFor wi g tb) := by
  intro pins s σ H D I h
  refine wpAny_For (thn (hi pins s σ H _ I h) fun v s1 h1 => thn h1 fun itv s2 h2 => ?_) hs
  obtain ⟨it, fp, tn, J, H2, e, I2, T, st2, f2, W, ⟨m0, w0⟩, turn⟩ := h2
  subst e
  have stat : ∀ {H' : Hp}, (∀ b ∈ fp, H' b = none) → ∀ b ∈ fp, FpOk X pins H' b := fun hn b hb => ⟨hn b hb, (f2 b hb).2⟩
  refine codeAny_forLoop_any (fun n s' => ∃ i σ' H', Inv X pins σ' H' s' ∧ tn i s'.heap ∧ (∀ b ∈ fp, H' b = none) ∧ W i n σ' H') ?_ m0 ⟨0, σ, H2, I2, st2, fun b hb => (f2 b hb).1, w0⟩
  rintro n s3 ⟨i, σ3, H3, I3, st3, fr3, w3⟩
  rcases turn i n σ3 H3 w3 with ⟨stop, qn⟩ | ⟨go, N, hN, step⟩
  · refine wpAny_passesOwn hp (thn (T.done X rfl rfl rfl hc i pins s3 σ3 H3 X.xe I3 (stat fr3) st3 stop) fun r s4 ⟨hr, I4⟩ => ?_)
    subst hr
    exact wpAny_execs_nil ⟨σ3, H3, I4, qn⟩
  · refine wpAny_passesOwn hp (thn (T.item X rfl rfl rfl hc i pins s3 σ3 H3 X.xe I3 (stat fr3) st3 go) fun r s4 ⟨u, hr, h4⟩ => ?_)
    subst hr
    refine wpAny_passesOwn hp (thn h4 fun _ s5 ⟨x, H5, I5, r5, y5, st5, fr5⟩ => ?_)
    have I5' := I5.pinned (stat fr5) (T.obj _ _ st5)
    refine wpAny_passesOwn hp (thn (hg _ s5 σ3 H5 x u _ I5' r5 (step x H5 y5)) fun _ s6 ⟨σ6, H6, I6, q6⟩ => ?_)
    refine wpAny_passesOwn hp (thn (hb _ s6 σ6 H6 _ I6 q6) fun f s7 q7 => ?_)
    have again : ∀ {σ7 : St} {H7 : Hp}, Inv X (pins ++ pinsAt fp s5.heap) σ7 H7 s7 → N σ7 H7 → ∃ m, m < n ∧ ∃ i σ' H', Inv X pins σ' H' s7 ∧ tn i s7.heap ∧ (∀ b ∈ fp, H' b = none) ∧ W i m σ' H' := fun {σ7 H7} I7 n7 => by
      obtain ⟨m', hm, w7⟩ := hN σ7 H7 n7
      refine ⟨m', hm, i + 1, σ7, H7, I7.unpinned, T.keep _ _ _ st5 fun b hb o e => (I7.pin (b, o) (List.mem_append_right _ (List.mem_append_right _ (mem_pinsAt hb e)))).1, fun b hb => ?_, w7⟩
      obtain ⟨o, e, d⟩ := T.obj _ _ st5 b hb
      exact (I7.pin (b, o) (List.mem_append_right _ (List.mem_append_right _ (mem_pinsAt hb e)))).2.1
    cases f with
    | next => obtain ⟨σ7, H7, I7, n7⟩ := q7; exact again I7 n7
    | cont => obtain ⟨σ7, H7, I7, n7⟩ := q7; exact again I7 n7
    | brk => obtain ⟨σ7, H7, I7, q7⟩ := q7; exact ⟨σ7, H7, I7.unpinned, q7⟩
    | ret v => obtain ⟨x7, σ7, H7, I7, r7, q7⟩ := q7; exact ⟨x7, σ7, H7, I7.unpinned, r7, q7⟩
end
theorem for_list {K : PySem.W.Frag} {a : Addr} {xs : List V} {g : TG} {tb : TS} {D : Ends} {σ : St} {H : Hp} (Pv : Nat → St → Hp → Prop) (h0 : Pv 0 σ H) (hl : ∀ i σ H, i ≤ xs.length → Pv i σ H → SqL K H a xs)
    (hs : ∀ i x σ H, xs[i]? = some x → Pv i σ H → g x σ H fun σ2 H2 => tb { D with nx := Pv (i + 1), ct := Pv (i + 1), bk := D.nx } σ2 H2) (hd : ∀ σ H, Pv xs.length σ H → D.nx σ H) :
    ∃ W : Nat → Nat → St → Hp → Prop, (∃ m, W 0 m σ H) ∧ ∀ i m σ H, W i m σ H →
      ((Itl K a).stop i H ∧ D.nx σ H) ∨ ((Itl K a).go i H ∧ ∃ N : St → Hp → Prop, (∀ σ' H', N σ' H' → ∃ m', m' < m ∧ W (i + 1) m' σ' H') ∧ ∀ x H', (Itl K a).yld i H x H' → g x σ H' fun σ2 H2 => tb { D with nx := N, ct := N, bk := D.nx } σ2 H2) := by
  refine ⟨fun i m σ H => m = xs.length - i ∧ i ≤ xs.length ∧ Pv i σ H, ⟨xs.length, by simp, Nat.zero_le _, h0⟩, ?_⟩
  rintro i m σ H ⟨rfl, hi, p⟩
  have q := hl i σ H hi p
  by_cases hlt : i < xs.length
  · refine .inr ⟨⟨xs, xs[i], q, by simp [hlt]⟩, Pv (i + 1), fun σ' H' p' => ⟨xs.length - (i + 1), by omega, rfl, hlt, p'⟩, fun x H' y => ?_⟩
    obtain ⟨e, y⟩ := y
    subst e
    exact hs i x σ _ (y xs q) p
  · have e : i = xs.length := by omega
    subst e
    exact .inl ⟨⟨xs, q, Nat.le_refl _⟩, hd σ H p⟩
theorem for_range {lo : Int} {n : Nat} {g : TG} {tb : TS} {D : Ends} {σ : St} {H : Hp} (Pv : Nat → St → Hp → Prop) (h0 : Pv 0 σ H)
    (hs : ∀ i σ H, i < n → Pv i σ H → g (.int (lo + i)) σ H fun σ2 H2 => tb { D with nx := Pv (i + 1), ct := Pv (i + 1), bk := D.nx } σ2 H2) (hd : ∀ σ H, Pv n σ H → D.nx σ H) :
    ∃ W : Nat → Nat → St → Hp → Prop, (∃ m, W 0 m σ H) ∧ ∀ i m σ H, W i m σ H →
      ((Itr lo n).stop i H ∧ D.nx σ H) ∨ ((Itr lo n).go i H ∧ ∃ N : St → Hp → Prop, (∀ σ' H', N σ' H' → ∃ m', m' < m ∧ W (i + 1) m' σ' H') ∧ ∀ x H', (Itr lo n).yld i H x H' → g x σ H' fun σ2 H2 => tb { D with nx := N, ct := N, bk := D.nx } σ2 H2) := by
  refine ⟨fun i m σ H => m = n - i ∧ i ≤ n ∧ Pv i σ H, ⟨n, by simp, Nat.zero_le _, h0⟩, ?_⟩
  rintro i m σ H ⟨rfl, hi, p⟩
  by_cases hlt : i < n
  · refine .inr ⟨hlt, Pv (i + 1), fun σ' H' p' => ⟨n - (i + 1), by omega, rfl, hlt, p'⟩, fun x H' y => ?_⟩
    obtain ⟨e, y⟩ := y
    subst e y
    exact hs i σ _ hlt p
  · have e : i = n := by omega
    subst e
    exact .inl ⟨Nat.le_refl _, hd σ H p⟩
end L2
namespace L2
open PySem PySem.Spec PyProof.Rows
abbrev R2 := V → V → Hp → VK → Prop
def OpR (X : Cx) (f : Value → Value → Sem Value) (r : R2) : Prop :=
  ∀ (pins : List (Addr × Obj)) (s : Shared) (σ : St) (H : Hp) (x y : V) (v u : Value) (Q : VK), Inv X pins σ H s → RelV x v → RelV y u → r x y H Q →
    wpAny (model X.prog X.w) X.A (f v u) (EP X pins σ Q) X.xe s
def UnR (X : Cx) (f : Value → Sem Value) (r : V → Hp → VK → Prop) : Prop :=
  ∀ (pins : List (Addr × Obj)) (s : Shared) (σ : St) (H : Hp) (x : V) (v : Value) (Q : VK), Inv X pins σ H s → RelV x v → r x H Q →
    wpAny (model X.prog X.w) X.A (f v) (EP X pins σ Q) X.xe s
def CallR (X : Cx) (f : Value) (r : List V → Hp → VK → Prop) : Prop :=
  ∀ (pins : List (Addr × Obj)) (s : Shared) (σ : St) (H : Hp) (xs : List V) (us : List Value) (Q : VK), Inv X pins σ H s → Vals xs us → r xs H Q →
    wpAny (model X.prog X.w) X.A (call f us) (EP X pins σ Q) X.xe s
def tOp (r : R2) (ta tb : TE) : TE := fun σ H Q => ta σ H fun x H1 => tb σ H1 fun y H2 => r x y H2 Q
def tUn (r : V → Hp → VK → Prop) (ta : TE) : TE := fun σ H Q => ta σ H fun x H1 => r x H1 Q
def rI (C : Int → Int → Prop) (g : Int → Int → V) : R2 := fun x y H Q => ∃ i j, x = .int i ∧ y = .int j ∧ C i j ∧ Q (g i j) H
def rI0 (g : Int → Int → V) : R2 := fun x y H Q => ∃ i j, x = .int i ∧ y = .int j ∧ Q (g i j) H
def rU (g : Int → V) : V → Hp → VK → Prop := fun x H Q => ∃ i, x = .int i ∧ Q (g i) H
section
variable {X : Cx} {a b c : Expr} {ta tb tc : TE} {pos : Pos}
theorem binT (ha : PE X a ta) (hb : PE X b tb) {pins : List (Addr × Obj)} {s : Shared} {σ : St} {H : Hp} {R : V → V → Hp → Prop} (I : Inv X pins σ H s)
    (h : ta σ H fun x H1 => tb σ H1 fun y H2 => R x y H2) {Q : Value → Shared → Prop} {f : Value → Value → Sem Value}
    (hf : ∀ v u s2 x y H2, Inv X pins σ H2 s2 → RelV x v → RelV y u → R x y H2 → wpAny (model X.prog X.w) X.A (f v u) Q X.xe s2) :
    wpAny (model X.prog X.w) X.A (eval a X.env) (fun v s₁ => wpAny (model X.prog X.w) X.A (eval b X.env) (fun u s₂ => wpAny (model X.prog X.w) X.A (f v u) Q X.xe s₂) X.xe s₁) X.xe s := by
  refine thn (ha pins s σ H _ I h) fun v s1 ⟨x, H1, I1, r1, q1⟩ => ?_
  refine thn (hb pins s1 σ H1 _ I1 q1) fun u s2 ⟨y, H2, I2, r2, q2⟩ => ?_
  exact hf v u s2 x y H2 I2 r1 r2 q2
theorem pe_op {op : Operator} {r : R2} (ho : OpR X (binaryOp op) r) (ha : PE X a ta) (hb : PE X b tb) : PE X (.BinOp a op b pos) (tOp r ta tb) := by
  intro pins s σ H Q I h
  exact wpAny_BinOp (binT ha hb I h fun v u s2 x y H2 I2 rx ry q => ho pins s2 σ H2 x y v u Q I2 rx ry q)
theorem pe_un {op : UnaryOp} {r : V → Hp → VK → Prop} (ho : UnR X (unaryOp op) r) (ha : PE X a ta) : PE X (.UnaryOp op a pos) (tUn r ta) := by
  intro pins s σ H Q I h
  exact UnaryOp_ (thn (ha pins s σ H _ I h) fun v s1 ⟨x, H1, I1, r1, q1⟩ => ho pins s1 σ H1 x v Q I1 r1 q1)
theorem opI {f : Value → Value → Sem Value} {C : Int → Int → Prop} {g : Int → Int → Int}
    (rule : ∀ (i j : Int) (t u : Tok) (s : Shared) (Q : Value → Shared → Prop) (E : Value → Shared → Prop), C i j → Q (.int (g i j) s.toks) { s with toks := s.toks + 1 } → wpAny (model X.prog X.w) X.A (f (.int i t) (.int j u)) Q E s) :
    OpR X f (rI C fun i j => .int (g i j)) := by
  intro pins s σ H x y v u Q I rx ry h
  obtain ⟨i, j, rfl, rfl, hc, q⟩ := h
  obtain ⟨t, rfl⟩ := rx
  obtain ⟨t', rfl⟩ := ry
  exact rule i j t t' s _ _ hc ⟨.int (g i j), H, I.tok _, ⟨_, rfl⟩, q⟩
theorem opI0 {f : Value → Value → Sem Value} {g : Int → Int → Int}
    (rule : ∀ (i j : Int) (t u : Tok) (s : Shared) (Q : Value → Shared → Prop) (E : Value → Shared → Prop), Q (.int (g i j) s.toks) { s with toks := s.toks + 1 } → wpAny (model X.prog X.w) X.A (f (.int i t) (.int j u)) Q E s) :
    OpR X f (rI0 fun i j => .int (g i j)) := by
  intro pins s σ H x y v u Q I rx ry h
  obtain ⟨i, j, rfl, rfl, q⟩ := h
  obtain ⟨t, rfl⟩ := rx
  obtain ⟨t', rfl⟩ := ry
  exact rule i j t t' s _ _ ⟨.int (g i j), H, I.tok _, ⟨_, rfl⟩, q⟩
theorem opB0 {f : Value → Value → Sem Value} {g : Int → Int → Bool}
    (rule : ∀ (i j : Int) (t u : Tok) (s : Shared) (Q : Value → Shared → Prop) (E : Value → Shared → Prop), Q (.bool (g i j)) s → wpAny (model X.prog X.w) X.A (f (.int i t) (.int j u)) Q E s) :
    OpR X f (rI0 fun i j => .bl (g i j)) := by
  intro pins s σ H x y v u Q I rx ry h
  obtain ⟨i, j, rfl, rfl, q⟩ := h
  obtain ⟨t, rfl⟩ := rx
  obtain ⟨t', rfl⟩ := ry
  exact rule i j t t' s _ _ ⟨.bl (g i j), H, I, rfl, q⟩
def CDiv (i j : Int) : Prop := 0 < j ∧ j < 1073741824
def CMul (i j : Int) : Prop := (-(2 ^ 64) < i ∧ i < 2 ^ 64) ∨ (-(2 ^ 64) < j ∧ j < 2 ^ 64)
theorem CMul.ok {i j : Int} (h : CMul i j) : IntMulOk i j := by
  rcases h with ⟨h1, h2⟩ | ⟨h1, h2⟩
  · exact .of_left (intBits_le_64 h1 h2)
  · exact .of_right (intBits_le_64 h1 h2)
theorem op_add : OpR X (binaryOp .Add) (rI0 fun i j => .int (i + j)) := opI0 fun _ _ _ _ _ _ _ q => add_int q
theorem op_sub : OpR X (binaryOp .Sub) (rI0 fun i j => .int (i - j)) := opI0 fun _ _ _ _ _ _ _ q => sub_int q
theorem op_mul : OpR X (binaryOp .Mult) (rI CMul fun i j => .int (i * j)) := opI fun _ _ _ _ _ _ _ hc q => mul_int q hc.ok
theorem op_fdiv : OpR X (binaryOp .FloorDiv) (rI CDiv fun i j => .int (i / j)) := opI fun i j _ _ _ _ _ hc q => by
  have h1 : (0 : Int) < j := hc.1
  have h2 : j < 1073741824 := hc.2
  exact floordiv_int (by omega) (by rw [Int.fdiv_eq_ediv_of_nonneg i (by omega)]; exact q) (.inl (PyProof.noPylong_small (by omega)))
theorem op_mod : OpR X (binaryOp .Mod) (rI (fun _ j => 0 < j) fun i j => .int (i % j)) := opI fun i j _ _ _ _ _ hc q => by
  have h1 : (0 : Int) < j := hc
  exact mod_int' (by omega) (by rw [Int.fmod_eq_emod_of_nonneg i (by omega)]; exact q)
theorem unI {f : Value → Sem Value} {g : Int → Int}
    (rule : ∀ (i : Int) (t : Tok) (s : Shared) (Q : Value → Shared → Prop) (E : Value → Shared → Prop), Q (.int (g i) s.toks) { s with toks := s.toks + 1 } → wpAny (model X.prog X.w) X.A (f (.int i t)) Q E s) :
    UnR X f (rU fun i => .int (g i)) := by
  intro pins s σ H x v Q I rx h
  obtain ⟨i, rfl, q⟩ := h
  obtain ⟨t, rfl⟩ := rx
  exact rule i t s _ _ ⟨.int (g i), H, I.tok _, ⟨_, rfl⟩, q⟩
theorem un_neg : UnR X (unaryOp .USub) (rU fun i => .int (-i)) := unI fun _ _ _ _ _ q => neg_int q
end
def scal : V → V → Bool
  | .non, .non => true | .non, .int _ => true | .int _, .non => true | .non, .bl _ => true | .bl _, .non => true | .non, .str _ => true | .str _, .non => true
  | .int _, .int _ => true | .bl _, .bl _ => true | .str _, .str _ => true | .byt _, .byt _ => true
  | .int _, .str _ => true | .str _, .int _ => true | .bl _, .str _ => true | .str _, .bl _ => true
  | _, _ => false
def rEq : R2 := fun x y H Q => scal x y = true ∧ Q (.bl (decide (x = y))) H
def rNe : R2 := fun x y H Q => scal x y = true ∧ Q (.bl (!decide (x = y))) H
theorem dec_int {i j : Int} : decide (V.int i = V.int j) = (i == j) := by
  rw [Bool.eq_iff_iff]
  simp
theorem dec_bl {i j : Bool} : decide (V.bl i = V.bl j) = (i == j) := by
  rw [Bool.eq_iff_iff]
  simp
theorem dec_str {i j : Str} : decide (V.str i = V.str j) = (i == j) := by
  rw [Bool.eq_iff_iff]
  simp
theorem dec_byt {i j : Array UInt8} : decide (V.byt i = V.byt j) = (i.toList == j.toList) := by
  rw [Bool.eq_iff_iff]
  cases i
  cases j
  simp
section
variable {X : Cx} {a b c : Expr} {ta tb tc : TE} {pos : Pos}
theorem fin_bl {pins : List (Addr × Obj)} {σ : St} {H : Hp} {s : Shared} {Q : VK} {k k' : Bool} (I : Inv X pins σ H s) (q : Q (.bl k) H) (e : k = k') : EP X pins σ Q (.bool k') s := by
  subst e
  exact ⟨.bl k, H, I, rfl, q⟩
theorem op_eq : OpR X (compareOp .Eq) rEq := by
  intro pins s σ H x y v u Q I rx ry h
  obtain ⟨hs, q⟩ := h
  cases x with
  | non =>
    cases rx
    cases y with
    | non => cases ry; exact PySem.EqNone.eq_none_none (fin_bl I q (by simp))
    | bl j => cases ry; exact PySem.EqNone.eq_none_bool (fin_bl I q (by simp))
    | int j => obtain ⟨t', rfl⟩ := ry; exact PySem.EqNone.eq_none_int (fin_bl I q (by simp))
    | str j => obtain ⟨t', rfl⟩ := ry; exact PySem.EqNone.eq_none_str (fin_bl I q (by simp))
    | _ => exact absurd (show false = true from hs) Bool.false_ne_true
  | bl i =>
    cases rx
    cases y with
    | non => cases ry; exact PySem.EqNone.eq_bool_none (fin_bl I q (by simp))
    | bl j => cases ry; exact eq_bool (fin_bl I q dec_bl)
    | str j => obtain ⟨t', rfl⟩ := ry; exact PySem.EqMixed.eq_bool_str (fin_bl I q (by simp))
    | _ => exact absurd (show false = true from hs) Bool.false_ne_true
  | int i =>
    obtain ⟨t, rfl⟩ := rx
    cases y with
    | non => cases ry; exact PySem.EqNone.eq_int_none (fin_bl I q (by simp))
    | int j => obtain ⟨t', rfl⟩ := ry; exact eq_int (fin_bl I q dec_int)
    | str j => obtain ⟨t', rfl⟩ := ry; exact PySem.EqMixed.eq_int_str (fin_bl I q (by simp))
    | _ => exact absurd (show false = true from hs) Bool.false_ne_true
  | str i =>
    obtain ⟨t, rfl⟩ := rx
    cases y with
    | non => cases ry; exact PySem.EqNone.eq_str_none (fin_bl I q (by simp))
    | bl j => cases ry; exact PySem.EqMixed.eq_str_bool (fin_bl I q (by simp))
    | int j => obtain ⟨t', rfl⟩ := ry; exact PySem.EqMixed.eq_str_int (fin_bl I q (by simp))
    | str j => obtain ⟨t', rfl⟩ := ry; exact eq_str (fin_bl I q dec_str)
    | _ => exact absurd (show false = true from hs) Bool.false_ne_true
  | byt i =>
    obtain ⟨t, rfl⟩ := rx
    cases y with
    | byt j => obtain ⟨t', rfl⟩ := ry; exact PySem.W.eq_bytes (fin_bl I q dec_byt)
    | _ => exact absurd (show false = true from hs) Bool.false_ne_true
  | _ => cases y <;> exact absurd (show false = true from hs) Bool.false_ne_true
theorem op_ne : OpR X (compareOp .NotEq) rNe := by
  intro pins s σ H x y v u Q I rx ry h
  obtain ⟨hs, q⟩ := h
  cases x with
  | non =>
    cases rx
    cases y with
    | non => cases ry; exact PySem.EqNone.ne_none_none (fin_bl I q (by simp))
    | bl j => cases ry; exact PySem.EqNone.ne_none_bool (fin_bl I q (by simp))
    | int j => obtain ⟨t', rfl⟩ := ry; exact PySem.EqNone.ne_none_int (fin_bl I q (by simp))
    | str j => obtain ⟨t', rfl⟩ := ry; exact PySem.EqNone.ne_none_str (fin_bl I q (by simp))
    | _ => exact absurd (show false = true from hs) Bool.false_ne_true
  | bl i =>
    cases rx
    cases y with
    | non => cases ry; exact PySem.EqNone.ne_bool_none (fin_bl I q (by simp))
    | bl j => cases ry; exact ne_bool (fin_bl I q (congrArg not dec_bl))
    | str j => obtain ⟨t', rfl⟩ := ry; exact PySem.EqMixed.ne_bool_str (fin_bl I q (by simp))
    | _ => exact absurd (show false = true from hs) Bool.false_ne_true
  | int i =>
    obtain ⟨t, rfl⟩ := rx
    cases y with
    | non => cases ry; exact PySem.EqNone.ne_int_none (fin_bl I q (by simp))
    | int j => obtain ⟨t', rfl⟩ := ry; exact ne_int (fin_bl I q (congrArg not dec_int))
    | str j => obtain ⟨t', rfl⟩ := ry; exact PySem.EqMixed.ne_int_str (fin_bl I q (by simp))
    | _ => exact absurd (show false = true from hs) Bool.false_ne_true
  | str i =>
    obtain ⟨t, rfl⟩ := rx
    cases y with
    | non => cases ry; exact PySem.EqNone.ne_str_none (fin_bl I q (by simp))
    | bl j => cases ry; exact PySem.EqMixed.ne_str_bool (fin_bl I q (by simp))
    | int j => obtain ⟨t', rfl⟩ := ry; exact PySem.EqMixed.ne_str_int (fin_bl I q (by simp))
    | str j => obtain ⟨t', rfl⟩ := ry; exact ne_str (fin_bl I q (congrArg not dec_str))
    | _ => exact absurd (show false = true from hs) Bool.false_ne_true
  | byt i =>
    obtain ⟨t, rfl⟩ := rx
    cases y with
    | byt j => obtain ⟨t', rfl⟩ := ry; exact PySem.W.ne_bytes (fin_bl I q (congrArg not dec_byt))
    | _ => exact absurd (show false = true from hs) Bool.false_ne_true
  | _ => cases y <;> exact absurd (show false = true from hs) Bool.false_ne_true
theorem op_lt : OpR X (compareOp .Lt) (rI0 fun i j => .bl (decide (i < j))) := opB0 fun _ _ _ _ _ _ _ q => lt_int q
theorem op_le : OpR X (compareOp .LtE) (rI0 fun i j => .bl (decide (i ≤ j))) := opB0 fun _ _ _ _ _ _ _ q => le_int q
theorem op_isN : OpR X (compareOp .Is) (fun x y H Q => y = .non ∧ Q (.bl (decide (x = .non))) H) := by
  intro pins s σ H x y v u Q I rx ry h
  obtain ⟨rfl, q⟩ := h
  cases ry
  refine is_none_gen (fin_bl I q ?_)
  cases x <;> first
    | (cases rx; rfl)
    | (obtain ⟨t, rfl⟩ := rx; rfl)
theorem op_notN : OpR X (compareOp .IsNot) (fun x y H Q => y = .non ∧ Q (.bl (!decide (x = .non))) H) := by
  intro pins s σ H x y v u Q I rx ry h
  obtain ⟨rfl, q⟩ := h
  cases ry
  refine isnot_none_gen (fin_bl I q ?_)
  cases x <;> first
    | (cases rx; rfl)
    | (obtain ⟨t, rfl⟩ := rx; rfl)
theorem nomark (b : Expr) {op : CmpOp} (h : op ≠ .In := by decide) (h2 : op ≠ .NotIn := by decide) : behindInMarks op b = false := by
  have e1 : (op == CmpOp.In) = false := by cases op <;> first | rfl | exact absurd rfl h
  have e2 : (op == CmpOp.NotIn) = false := by cases op <;> first | rfl | exact absurd rfl h2
  cases b <;> simp [behindInMarks, e1, e2]
theorem pe_cmpR {op : CmpOp} {r : R2} (ho : OpR X (compareOp op) r) (ha : PE X a ta) (hb : PE X b tb) (hm : behindInMarks op b = false) : PE X (.Compare a [op] [b] pos) (tOp r ta tb) := by
  intro pins s σ H Q I h
  exact wpAny_Compare1 (binT ha hb I h fun v u s2 x y H2 I2 rx ry q => ho pins s2 σ H2 x y v u Q I2 rx ry q) hm
def tTest (t : TE) : TT := fun σ H Q => t σ H fun x H' => ∃ k, x = .bl k ∧ Q k H'
theorem pt_cmpR {op : CmpOp} {r : R2} (ho : OpR X (compareOp op) r) (ha : PE X a ta) (hb : PE X b tb) (hm : behindInMarks op b = false) : PT X (.Compare a [op] [b] pos) (tTest (tOp r ta tb)) := by
  intro pins s σ H Q I h
  refine wpAny_isTrue_Compare1 (thn (ha pins s σ H _ I h) fun v s1 ⟨x, H1, I1, r1, q1⟩ => thn (hb pins s1 σ H1 _ I1 q1) fun u s2 ⟨y, H2, I2, r2, q2⟩ =>
    thn (ho pins s2 σ H2 x y v u _ I2 r1 r2 q2) fun c s3 ⟨z, H3, I3, r3, k, e, q3⟩ => ?_) hm
  subst e
  cases r3
  exact wpAny_truthy_bool ⟨H3, I3, q3⟩
def tChain (r r' : R2) (ta tb tc : TE) : TE := fun σ H Q => ta σ H fun x H1 => tb σ H1 fun y H2 => r x y H2 fun z H3 => ∃ k, z = .bl k ∧
  (if k = true then tc σ H3 fun w' H4 => r' y w' H4 Q else Q (.bl false) H3)
theorem line63 : (sizeLine : Nat) < 2 ^ 63 := by rw [sizeLine_eq]; decide
theorem vals1 {x : V} {us : List Value} (r : Vals [x] us) : ∃ u, us = [u] ∧ RelV x u := by
  cases r with
  | cons r1 r2 => cases r2; exact ⟨_, rfl, r1⟩
theorem vals2 {x y : V} {us : List Value} (r : Vals [x, y] us) : ∃ u w', us = [u, w'] ∧ RelV x u ∧ RelV y w' := by
  cases r with
  | cons r1 r2 =>
    cases r2 with
    | cons r3 r4 => cases r4; exact ⟨_, _, rfl, r1, r3⟩
theorem call_max2 (hc : X.calm = true) : CallR X (.builtin "max") (fun xs H Q => ∃ i j, xs = [.int i, .int j] ∧ Q (.int (if j > i then j else i)) H) := by
  intro pins s σ H xs us Q I r h
  obtain ⟨i, j, rfl, q⟩ := h
  obtain ⟨u, w', rfl, ⟨t, rfl⟩, ⟨t', rfl⟩⟩ := vals2 r
  refine max_two_ints (I.ok.hd hc) fun h' tk k => ⟨_, H, I.kept k, ?_, q⟩
  by_cases hj : j > i
  · rw [if_pos hj, if_pos hj]; exact ⟨_, rfl⟩
  · rw [if_neg hj, if_neg hj]; exact ⟨_, rfl⟩
theorem call_min2 (hc : X.calm = true) : CallR X (.builtin "min") (fun xs H Q => ∃ i j, xs = [.int i, .int j] ∧ Q (.int (if j < i then j else i)) H) := by
  intro pins s σ H xs us Q I r h
  obtain ⟨i, j, rfl, q⟩ := h
  obtain ⟨u, w', rfl, ⟨t, rfl⟩, ⟨t', rfl⟩⟩ := vals2 r
  refine min_two_ints (I.ok.hd hc) fun h' tk k => ⟨_, H, I.kept k, ?_, q⟩
  by_cases hj : j < i
  · rw [if_pos hj, if_pos hj]; exact ⟨_, rfl⟩
  · rw [if_neg hj, if_neg hj]; exact ⟨_, rfl⟩
end
end L2
namespace L2
open PySem PySem.Spec PyProof.Rows
structure ObjM (h : Heap) (x dx C : Addr) (mA : Str → Option Value) : Prop where
  obj : h.get? x = some (PySem.W.instObj C dx)
  ns : h.Ns1 dx mA
  ne : dx ≠ x
theorem lookIn_ns {h : Heap} {dx : Addr} {mA : Str → Option Value} (n : h.Ns1 dx mA) : ∃ od, h.get? dx = some od ∧ ∀ name, PySem.W.lookIn name od = some (mA name) := by
  obtain ⟨o, es, ep, ho, hd, hk, _, hm⟩ := n
  refine ⟨o, ho, fun name => ?_⟩
  have e := hm name
  unfold nsFind findBy at e
  rw [← Array.find?_toList] at e
  unfold PySem.W.lookIn
  rw [hd]
  dsimp only
  split
  · rename_i y q
    rw [q] at e
    exact congrArg some e
  · rename_i q
    rw [q] at e
    have a : es.toList.any (·.refKey) = false := by
      rw [List.any_eq_false]
      intro y hy
      obtain ⟨z, t, hkey⟩ := hk y (Array.mem_toList_iff.mp hy)
      simp [DictEntry.refKey, hkey]
    have a' : ¬ es.toList.any (·.refKey) = true := by rw [a]; exact Bool.false_ne_true
    rw [if_neg a']
    exact congrArg some e
theorem ObjM.look {h : Heap} {x dx C : Addr} {mA : Str → Option Value} (I : ObjM h x dx C mA) : ∃ od, PySem.W.InstAt h x (PySem.W.instObj C dx) C (some od) ∧ ∀ name, PySem.W.lookIn name od = some (mA name) :=
  let ⟨od, ho, hl⟩ := lookIn_ns I.ns
  ⟨od, ⟨I.obj, rfl, rfl, ho⟩, hl⟩
section
variable {prog : Program} {w : World} {A : Around} {E : Value → Shared → Prop} {s : Shared} {K : PySem.W.Frag} {x dx C f : Addr} {mA : Str → Option Value} {name : Str} {v : Value}
theorem get_map {expr : Bool} {Q : Value → Shared → Prop} (X : K.In s.heap) (I : ObjM s.heap x dx C mA) (hg : PySem.W.plainGet K C name = true) (hh : PySem.W.hasDictIn K C = true)
    (ha : PySem.W.findIn K (.ref C) name = some none) (hv : mA name = some v) (hv' : PySem.W.handedIn v = true) (h : Q v { s with toks := s.toks + 1 }) :
    wpAny (model prog w) A (getAttr (.ref x) name expr) Q E s := by
  obtain ⟨od, J, hl⟩ := I.look
  exact PySem.W.get_value X J (PySem.W.plainGet_of hg).1 (PySem.W.findObj_own hh ha rfl (by rw [hl, hv])) hv' h
theorem get_meth {pl : Sem Bool} {Q : Value × List Value → Shared → Prop} (X : K.In s.heap) (I : ObjM s.heap x dx C mA) (hg : PySem.W.plainGet K C name = true)
    (hf : PySem.W.findIn K (.ref C) name = some (some (.ref f))) (ht : PySem.W.isFn K (.ref f) = true) (hv : mA name = none) (h : Q (.ref f, [.ref x]) s) :
    wpAny (model prog w) A (getMethod (.ref x) name pl) Q E s := by
  obtain ⟨od, J, hl⟩ := I.look
  exact PySem.W.method_fn X J (PySem.W.plainGet_of hg).1 (PySem.W.plainGet_of hg).2 hf (beq_iff_eq.mp ht) (by show (PySem.W.lookIn name od).map (·.isSome) = some false; rw [hl, hv]; rfl) h
theorem set_map {ns : List Str} {Q : Unit → Shared → Prop} (X : K.In s.heap) (I : ObjM s.heap x dx C mA)
    (hs : PySem.W.findIn K (.ref C) "__setattr__" = some (some (.builtin "object.__setattr__"))) (hp : PySem.W.plainOver K C = true) (ht : PySem.W.takerIn K C name = some none) (hh : PySem.W.hasDictIn K C = true)
    (hw : PySem.Within mA ns) (hsz : ns.length ≤ sizeLine)
    (h : ∀ h', ObjM h' x dx C (fun y => if y = name then some v else mA y) → Heap.SameBut dx s.heap h' → Q () { s with heap := h', toks := s.toks + 2 }) :
    wpAny (model prog w) A (setAttr (.ref x) name v) Q E s := by
  obtain ⟨od, J, hl⟩ := I.look
  refine PySem.W.set_plain X J hs (PySem.W.osa_open (s := { s with toks := s.toks + 1 }) (r := none) X J hp ht fun b => ?_)
  obtain ⟨cd, hc, hd'⟩ := PySem.W.any_some hh
  have hx : s.heap.get? x = some ⟨.ref C, some dx, .plain, #[]⟩ := I.obj
  refine wpAny_bind (wpAny_pure (wpAny_bind (wpAny_bind (wpAny_loadPart hx (wpAny_bind (PySem.W.Looks.here (s := { s with toks := s.toks + 1 }) (PySem.W.looks_clsIn X hc) ?_))))))
  rw [hd']
  refine wpAny_pure (a := some dx) (wpAny_bind (wpAny_pure (wpAny_bind ?_)))
  refine wpAny_nsSet1 (s := { s with toks := s.toks + 1 }) I.ns fun h' hn2 hs2 => ?_
  obtain ⟨oD, esD, epD, hoD, hdD, hcD⟩ := hn2.count (PySem.Within.cons name v hw)
  refine wpAny_bind (wpAny_lookBehind hoD (by rw [hdD]; exact pastItsLine_dict (Nat.le_trans hcD (by rw [List.length_cons]; omega))) ?_)
  exact wpAny_pure (h _ ⟨(hs2.2 _ (Ne.symm I.ne)).trans I.obj, hn2, I.ne⟩ hs2)
theorem make_map {R : Result → Shared → Prop} {vs : List Value} {kw : List (Str × Value)} (X : K.In s.heap) (hm : PySem.W.makesIn K C = true)
    (hi : PySem.W.findIn K (.ref C) "__init__" = some (some (.ref f))) (hf : PySem.W.typeIn K (.ref f) = some (.type "function"))
    (h : codeAny (model prog w) (A.under (.builtin "type.__call__" ⟨.ref C :: vs, kw⟩)) (.call (.ref f) ⟨.ref (s.heap.objs.size + 1) :: vs, kw⟩) (PySem.W.InitBack (s.heap.objs.size + 1) R)
      { s with heap := (s.heap.push PySem.W.emptyDict).push (PySem.W.instObj C s.heap.objs.size) }) :
    codeAny (model prog w) A (.call (.ref C) ⟨vs, kw⟩) R s := by
  obtain ⟨hh, g, d, t, os⟩ := s
  exact PySem.W.make_core (PySem.W.makes_of X hm) (PySem.W.looks_findIn X hi) (fun self => PySem.W.bind_fn X self hf) (.inl rfl) h
end
def putF (f : Str) (v : V) : List (Str × V) → List (Str × V)
  | [] => [(f, v)]
  | (g, x) :: r => if g = f then (g, v) :: r else (g, x) :: putF f v r
theorem lookup_putF (f g : Str) (v : V) : ∀ fs : List (Str × V), (putF f v fs).lookup g = if g = f then some v else fs.lookup g
  | [] => by
    show List.lookup g [(f, v)] = _
    by_cases h : g = f
    · have hb : (g == f) = true := beq_iff_eq.mpr h
      simp only [List.lookup, hb, if_pos h]
    · have hb : (g == f) = false := beq_eq_false_iff_ne.mpr h
      simp only [List.lookup, hb, if_neg h]
  | (k, x) :: r => by
    have ih := lookup_putF f g v r
    rw [show putF f v ((k, x) :: r) = (if k = f then (k, v) :: r else (k, x) :: putF f v r) from rfl]
    by_cases hk : k = f
    · rw [if_pos hk]
      by_cases h : g = k
      · have hb : (g == k) = true := beq_iff_eq.mpr h
        simp only [List.lookup, hb, if_pos (h.trans hk)]
      · have hb : (g == k) = false := beq_eq_false_iff_ne.mpr h
        simp only [List.lookup, hb, if_neg (fun e : g = f => h (e.trans hk.symm))]
    · rw [if_neg hk]
      by_cases h : g = k
      · have hb : (g == k) = true := beq_iff_eq.mpr h
        simp only [List.lookup, hb, if_neg (fun e : g = f => hk (h.symm.trans e))]
      · have hb : (g == k) = false := beq_eq_false_iff_ne.mpr h
        simp only [List.lookup, hb]
        exact ih
theorem keys_putF (f : Str) (v : V) : ∀ fs : List (Str × V), f ∈ (putF f v fs).map (·.1) ∧ ∀ g, g ∈ fs.map (·.1) → g ∈ (putF f v fs).map (·.1)
  | [] => ⟨by simp [putF], fun g h => by simp at h⟩
  | (k, x) :: r => by
    obtain ⟨i1, i2⟩ := keys_putF f v r
    rw [show putF f v ((k, x) :: r) = (if k = f then (k, v) :: r else (k, x) :: putF f v r) from rfl]
    by_cases hk : k = f
    · rw [if_pos hk]
      subst hk
      exact ⟨by simp, fun g h => by simpa using h⟩
    · rw [if_neg hk]
      refine ⟨?_, fun g h => ?_⟩
      · rw [List.map_cons]
        exact List.mem_cons_of_mem _ i1
      · rw [List.map_cons] at h ⊢
        rcases List.mem_cons.mp h with e | e
        · exact List.mem_cons.mpr (.inl e)
        · exact List.mem_cons_of_mem _ (i2 g e)
theorem length_putF (f : Str) (v : V) : ∀ fs : List (Str × V), (putF f v fs).length ≤ fs.length + 1
  | [] => by simp [putF]
  | (k, x) :: r => by
    have ih := length_putF f v r
    rw [show putF f v ((k, x) :: r) = (if k = f then (k, v) :: r else (k, x) :: putF f v r) from rfl]
    by_cases hk : k = f
    · rw [if_pos hk, List.length_cons, List.length_cons]; omega
    · rw [if_neg hk, List.length_cons, List.length_cons]; omega
theorem RelO.some_of {v : V} {o : Option Value} (r : RelO (some v) o) : ∃ u, o = some u ∧ RelV v u := by
  cases o with
  | none => exact (show False from r).elim
  | some u => exact ⟨u, rfl, r⟩
theorem RelO.none_of {o : Option Value} (r : RelO none o) : o = none := by
  cases o with
  | none => rfl
  | some u => exact (show False from r).elim
theorem handed_of {v : V} {u : Value} (r : RelV v u) : PySem.W.handedIn u = true := by
  cases v with
  | non => cases (show u = Value.none from r); rfl
  | bl b => cases (show u = Value.bool b from r); rfl
  | int i => obtain ⟨t, e⟩ := (show ∃ t, u = Value.int i t from r); cases e; rfl
  | str x => obtain ⟨t, e⟩ := (show ∃ t, u = Value.str x t from r); cases e; rfl
  | byt b => obtain ⟨t, e⟩ := (show ∃ t, u = Value.bytes b t from r); cases e; rfl
  | flt b => obtain ⟨t, e⟩ := (show ∃ t, u = Value.float b t from r); cases e; rfl
  | ref a => cases (show u = Value.ref a from r); rfl
  | ty n => cases (show u = Value.type n from r); rfl
section
variable {P : Program} {w : World} {H H' : Hp} {h h' : Heap} {a C dx : Addr} {fs fs' : List (Str × V)}
theorem ins_get (hok : HOk P w H h) (e : H a = some (.ins C dx fs)) : ∃ mA, ObjM h a dx C mA ∧ (∀ f, RelO (fs.lookup f) (mA f)) ∧ PySem.Within mA (fs.map (·.1)) ∧ fs.length ≤ 1000 ∧ H dx = some (.own a) := by
  obtain ⟨d, z, ne, ob, mA, n, r, q⟩ := (show ObjOk P w H h a (.ins C dx fs) from hok a _ e)
  exact ⟨mA, ⟨ob, n, ne⟩, r, q, z, d⟩
end
structure Cls (K : PySem.W.Frag) (C : Addr) : Prop where
  pg : PySem.W.plainGet K C Str.empty = true
  hd : PySem.W.hasDictIn K C = true
  po : PySem.W.plainOver K C = true
  sa : PySem.W.findIn K (.ref C) "__setattr__" = some (some (.builtin "object.__setattr__"))
theorem Cls.get {K : PySem.W.Frag} {C : Addr} (c : Cls K C) (f : Str) : PySem.W.plainGet K C f = true := c.pg
def NoAttr (K : PySem.W.Frag) (C : Addr) (f : Str) : Prop := PySem.W.findIn K (.ref C) f = some none
theorem NoAttr.taker {K : PySem.W.Frag} {C : Addr} {f : Str} (n : NoAttr K C f) : PySem.W.takerIn K C f = some none := by
  unfold PySem.W.takerIn
  rw [show PySem.W.findIn K (.ref C) f = some none from n]
  rfl
structure Meth (K : PySem.W.Frag) (C : Addr) (m : Str) (f : Addr) : Prop where
  at_ : PySem.W.findIn K (.ref C) m = some (some (.ref f))
  fn : PySem.W.isFn K (.ref f) = true
  kp : PySem.W.keepIn K (.ref f) = true
section
variable {X : Cx} {pins : List (Addr × Obj)} {σ : St} {H : Hp} {s : Shared} {a C dx : Addr} {fs : List (Str × V)} {f : Str} {v : V} {A : Around} {E : Value → Shared → Prop}
theorem getattr_ok {b : Bool} {Q : Value → Shared → Prop} (I : Inv X pins σ H s) (e : H a = some (.ins C dx fs)) (c : Cls X.K C) (n : NoAttr X.K C f) (l : fs.lookup f = some v)
    (h : ∀ u s', Inv X pins σ H s' → RelV v u → Q u s') : wpAny (model X.prog X.w) A (getAttr (.ref a) f b) Q E s := by
  obtain ⟨mA, O, r, _, _, _⟩ := ins_get I.hok e
  obtain ⟨u, hu, ru⟩ := RelO.some_of (v := v) (o := mA f) (by rw [← l]; exact r f)
  exact get_map I.kIn O (c.get f) c.hd n hu (handed_of ru) (h u _ (I.tok _) ru)
theorem getmeth_ok {m : Str} {g : Addr} {pl : Sem Bool} {Q : Value × List Value → Shared → Prop} (I : Inv X pins σ H s) (e : H a = some (.ins C dx fs)) (c : Cls X.K C) (k : Meth X.K C m g) (l : fs.lookup m = none)
    (h : Q (.ref g, [.ref a]) s) : wpAny (model X.prog X.w) A (getMethod (.ref a) m pl) Q E s := by
  obtain ⟨mA, O, r, _, _, _⟩ := ins_get I.hok e
  have hn : mA m = none := RelO.none_of (by rw [← l]; exact r m)
  exact get_meth I.kIn O (c.get m) k.at_ k.fn hn h
theorem setattr_ok {y : V} {u : Value} {Q : Unit → Shared → Prop} (I : Inv X pins σ H s) (e : H a = some (.ins C dx fs)) (c : Cls X.K C) (n : NoAttr X.K C f) (hl : fs.length < 1000) (ry : RelV y u)
    (h : ∀ s', Inv X pins σ (upd H a (.ins C dx (putF f y fs))) s' → Q () s') : wpAny (model X.prog X.w) A (setAttr (.ref a) f u) Q E s := by
  obtain ⟨mA, O, r, wi, _, ho⟩ := ins_get I.hok e
  have hz : (fs.map (·.1)).length ≤ sizeLine := by rw [List.length_map, sizeLine_eq]; omega
  refine set_map I.kIn O c.sa c.po n.taker c.hd wi hz fun h' O' sb => h _ ?_
  have hd : ∃ o, h'.get? dx = some o := let ⟨o, _, _, e', _⟩ := O'.ns; ⟨o, e'⟩
  refine I.write (x := a) (e := dx) (by rw [e]; exact True.intro) (.inr ho) (fun b q hb z => (sb.2 b hb).trans z) hd ?_
  refine ⟨by rw [upd_ne O.ne]; exact ho, ?_, O.ne, O'.obj, _, O'.ns, fun g => ?_, fun g hg => ?_⟩
  · have := length_putF f y fs; omega
  · show RelO ((putF f y fs).lookup g) (if g = f then some u else mA g)
    rw [lookup_putF]
    by_cases q : g = f
    · rw [if_pos q, if_pos q]; exact ry
    · rw [if_neg q, if_neg q]; exact r g
  · by_cases q : g = f
    · rw [q]; exact (keys_putF f y fs).1
    · refine (keys_putF f y fs).2 g (wi g fun z => hg ?_)
      show (if g = f then some u else mA g) = none
      rw [if_neg q]; exact z
theorem Inv.made (I : Inv X pins σ H s) : Inv X pins σ (upd (upd H s.heap.objs.size (.own (s.heap.objs.size + 1))) (s.heap.objs.size + 1) (.ins C s.heap.objs.size []))
    { s with heap := (s.heap.push PySem.W.emptyDict).push (PySem.W.instObj C s.heap.objs.size) } := by
  have e1 : (s.heap.push PySem.W.emptyDict).get? s.heap.objs.size = some PySem.W.emptyDict := Heap.get?_push_size s.heap rfl
  have e2 : ((s.heap.push PySem.W.emptyDict).push (PySem.W.instObj C s.heap.objs.size)).get? (s.heap.objs.size + 1) = some (PySem.W.instObj C s.heap.objs.size) := by
    have := Heap.get?_push_size (s.heap.push PySem.W.emptyDict) (o := PySem.W.instObj C s.heap.objs.size) rfl
    rwa [Heap.size_push] at this
  have e3 : (s.heap.push PySem.W.emptyDict).Ns s.heap.objs.size (fun _ => none) := ⟨PySem.W.emptyDict, #[], _, e1, rfl, (fun e he => absurd he (by simp)), fun _ => rfl⟩
  have I1 := I.laid (a := s.heap.objs.size) (o := .own (s.heap.objs.size + 1)) (h' := s.heap.push PySem.W.emptyDict) (t' := s.toks) (fun b u q => Heap.get?_push_of_some _ q) (Nat.le_refl _) ⟨_, e1⟩
  refine I1.laid (a := s.heap.objs.size + 1) (o := .ins C s.heap.objs.size []) (t' := s.toks) (fun b u q => Heap.get?_push_of_some _ q) (Nat.le_of_eq (Heap.size_push _ _)) ?_
  have ne : s.heap.objs.size ≠ s.heap.objs.size + 1 := Nat.ne_of_lt (Nat.lt_succ_self _)
  refine ⟨by rw [upd_ne ne, upd_same], Nat.zero_le _, ne, e2, fun _ => none, (Heap.Ns1.of_empty e3).at fun o q => Heap.get?_push_of_some _ q, fun _ => True.intro, fun y hy => absurd rfl hy⟩
theorem attr_of {prog : Program} {w : World} {env : Env} {e : Expr} {f : Str} {pos : Pos} {s : Shared} {Q : Value → Shared → Prop} (hb : attributeBase e f env (eval e env) = eval e env)
    (h : wpAny (model prog w) A (eval e env) (fun o s₁ => wpAny (model prog w) A (getAttr o f true) Q E s₁) E s) : wpAny (model prog w) A (eval (.Attribute e f pos) env) Q E s :=
  Attribute_any_ h (by rw [arm_eval_Attribute, hb])
end
def tFld (K : PySem.W.Frag) (ta : TE) (f : Str) : TE := fun σ H Q => ta σ H fun x H1 => ∃ a C dx fs v, x = .ref a ∧ H1 a = some (.ins C dx fs) ∧ Cls K C ∧ NoAttr K C f ∧ fs.lookup f = some v ∧ Q v H1
def sFld (K : PySem.W.Frag) (ta tv : TE) (f : Str) : TS := fun D σ H => tv σ H fun y H1 => ta σ H1 fun x H2 => ∃ a C dx fs, x = .ref a ∧ H2 a = some (.ins C dx fs) ∧ Cls K C ∧ NoAttr K C f ∧ fs.length < 1000 ∧
  D.nx σ (upd H2 a (.ins C dx (putF f y fs)))
section
variable {X : Cx} {o e value : Expr} {f : Str} {pos pos' tpos : Pos} {ta tv : TE}
theorem pe_fld (he : PE X e ta) (hb : attributeBase e f X.env (eval e X.env) = eval e X.env) : PE X (.Attribute e f pos) (tFld X.K ta f) := by
  intro pins s σ H Q I h
  refine attr_of hb (thn (he pins s σ H _ I h) fun u s1 ⟨x, H1, I1, rx, a, C, dx, fs, v, ex, ea, c, n, l, q⟩ => ?_)
  subst ex
  obtain rfl : u = Value.ref a := rx
  exact getattr_ok I1 ea c n l fun u' s2 I2 ru => ⟨v, H1, I2, ru, q⟩
theorem ps_fld (ha : PE X o ta) (hv : PE X value tv) (hs : swapsWith value (some (.Attribute o f pos')) pos.line X.env = pure false) : PS X (.Assign [.Attribute o f pos'] value pos) (sFld X.K ta tv f) := by
  intro pins s σ H D I h
  refine plainObj_wpAny_Assign_Attribute (thn (hv pins s σ H _ I h) fun u s1 ⟨y, H1, I1, ry, q⟩ => thn (ha pins s1 σ H1 _ I1 q) fun ov s2 ⟨x, H2, I2, rx, a, C, dx, fs, ex, ea, c, n, l, q2⟩ => ?_) hs
  subst ex
  obtain rfl : ov = Value.ref a := rx
  exact setattr_ok I2 ea c n l ry fun s3 I3 => ⟨σ, _, I3, q2⟩
end
section
variable {X : Cx} {pins : List (Addr × Obj)} {σ : St} {H : Hp} {s : Shared} {A : Around} {E : Value → Shared → Prop} {Q : Value → Shared → Prop} {c : Value} {b : Bool}
inductive TyOf (K : PySem.W.Frag) (H : Hp) : V → Value → Prop where
  | non : TyOf K H .non (.type "NoneType")
  | bl (x : Bool) : TyOf K H (.bl x) (.type "bool")
  | int (i : Int) : TyOf K H (.int i) (.type "int")
  | str (x : Str) : TyOf K H (.str x) (.type "str")
  | flt (x : UInt64) : TyOf K H (.flt x) (.type "float")
  | lst {a : Addr} {xs : List V} (e : H a = some (.lst xs)) : TyOf K H (.ref a) (.type "list")
  | frz {a : Addr} {o : Obj} {xs : List V} (e : H a = some (.frz o (.lst xs))) : TyOf K H (.ref a) (.type "list")
  | tup {a : Addr} {xs : List V} (e : H a = some (.tup xs)) : TyOf K H (.ref a) (.type "tuple")
  | dK {a : Addr} {kvs : List (Key × V)} (e : H a = some (.dK kvs)) : TyOf K H (.ref a) (.type "dict")
  | dT {a : Addr} {kvs : List (List Key × V)} (e : H a = some (.dT kvs)) : TyOf K H (.ref a) (.type "dict")
  | ins {a C dx : Addr} {fs : List (Str × V)} (e : H a = some (.ins C dx fs)) (cl : Cls K C) (ha : PySem.W.findIn K (.ref C) "__class__" = some (some (.builtin "object.__class__")))
      (hn : PySem.W.specialIn K (.builtin "object.__class__") "__get__" = some (some (.builtin "getset_descriptor.__get__"))) (htk : PySem.W.takesIn K (.builtin "object.__class__") = some true)
      (hm : PySem.W.mroIn K C (.type "object") = some true) : TyOf K H (.ref a) (.ref C)
theorem isinst_ok {x : V} {u t : Value} (I : Inv X pins σ H s) (rx : RelV x u) (ty : TyOf X.K H x t) (e : PySem.W.kitOne X.K t c = some b) (h : ∀ tk, Q (.bool b) { s with toks := tk }) :
    wpAny (model X.prog X.w) A (call (.builtin "isinstance") [u, c]) Q E s := by
  cases ty with
  | non => cases (show u = Value.none from rx); exact PySem.W.kia_one PySem.W.kitx_none I.kIn True.intro e (fun z => nomatch z) h
  | bl y => cases (show u = Value.bool y from rx); exact PySem.W.kia_one PySem.W.kitx_bool I.kIn True.intro e (fun z => nomatch z) h
  | int i => obtain ⟨t, q⟩ := (show ∃ t, u = Value.int i t from rx); cases q; exact PySem.W.kia_one PySem.W.kitx_int I.kIn True.intro e (fun z => nomatch z) h
  | str y => obtain ⟨t, q⟩ := (show ∃ t, u = Value.str y t from rx); cases q; exact PySem.W.kia_one PySem.W.kitx_str I.kIn True.intro e (fun z => nomatch z) h
  | flt y => obtain ⟨t, q⟩ := (show ∃ t, u = Value.float y t from rx); cases q; exact PySem.W.kia_one PySem.W.kitx_float I.kIn True.intro e (fun z => nomatch z) h
  | @lst a xs ea =>
    cases (show u = Value.ref a from rx)
    obtain ⟨_, _, n, _, h1⟩ := (show ObjOk X.prog X.w H s.heap a (.lst xs) from I.hok a _ ea)
    exact PySem.W.kia_one PySem.W.kitx_list I.kIn ⟨_, h1, rfl⟩ e (fun z => nomatch z) h
  | @frz a ob xs ea =>
    cases (show u = Value.ref a from rx)
    obtain ⟨_, _, _, n, _, h1⟩ := (show ObjOk X.prog X.w H s.heap a (.frz ob (.lst xs)) from I.hok a _ ea)
    exact PySem.W.kia_one PySem.W.kitx_list I.kIn ⟨_, h1, rfl⟩ e (fun z => nomatch z) h
  | @tup a xs ea =>
    cases (show u = Value.ref a from rx)
    obtain ⟨_, _, _, p⟩ := (show ObjOk X.prog X.w H s.heap a (.tup xs) from I.hok a _ ea)
    obtain ⟨o, h1, h2, _⟩ := p
    exact PySem.W.kia_one PySem.W.kitx_tuple I.kIn ⟨o, h1, h2⟩ e (fun z => nomatch z) h
  | @dK a kvs ea =>
    cases (show u = Value.ref a from rx)
    obtain ⟨_, _, vs, _, p⟩ := (show ObjOk X.prog X.w H s.heap a (.dK kvs) from I.hok a _ ea)
    obtain ⟨o, es, ep, h1, h2, _⟩ := p
    exact PySem.W.kia_one PySem.W.kitx_dict I.kIn ⟨o, h1, h2.1⟩ e (fun z => nomatch z) h
  | @dT a kvs ea =>
    cases (show u = Value.ref a from rx)
    obtain ⟨_, _, xs, _, o, es, ep, h1, h2, _⟩ := (show ObjOk X.prog X.w H s.heap a (.dT kvs) from I.hok a _ ea)
    exact PySem.W.kia_one PySem.W.kitx_dict I.kIn ⟨o, h1, h2.1⟩ e (fun z => nomatch z) h
  | @ins a C dx fs ea cl ha hn htk hm =>
    cases (show u = Value.ref a from rx)
    obtain ⟨mA, O, _⟩ := ins_get I.hok ea
    obtain ⟨od, J, _⟩ := O.look
    exact PySem.W.kia_one (PySem.W.kitx_own (cl.get _) cl.hd ha hn htk hm) I.kIn J e (fun z => nomatch z) h
end
end L2
namespace L2
open PySem PySem.Spec PyProof.Rows
structure Room (k : Nat) (A : Around) : Prop where
  hd : A.handled = none
  dp : A.depth + 3 * k + 5 < recursionLimit
  un : A.units + 16 * k + 200 < cLine
theorem Room.mono {j k : Nat} {A : Around} (r : Room k A) (h : j ≤ k) : Room j A := ⟨r.hd, by have := r.dp; omega, by have := r.un; omega⟩
theorem Room.deeper {k : Nat} {A : Around} (r : Room (k + 1) A) (env : Env) : Room k (A.deeper env) :=
  ⟨r.hd, by have := r.dp; show A.depth + 1 + 3 * k + 5 < _; omega, by have := r.un; show A.units + 3 + 16 * k + 200 < _; omega⟩
theorem Room.in1 {k : Nat} {A : Around} (r : Room (k + 1) A) : Room k A.in1 :=
  ⟨r.hd, by have := r.dp; show A.depth + 3 * k + 5 < _; omega, by have := r.un; show A.units + 1 + 16 * k + 200 < _; omega⟩
theorem make_depth {A : Around} {C : Addr} {us : List Value} {kw : List (Str × Value)} : (A.under (.builtin "type.__call__" ⟨.ref C :: us, kw⟩)).depth = A.depth + 1 := by
  first | rfl | simp [Around.under, Code.weight, Code.isCreation, Code.isGuard, Code.isCaller, Code.frames, Code.isFrame, guardIds]
theorem make_units {A : Around} {C : Addr} {us : List Value} {kw : List (Str × Value)} : (A.under (.builtin "type.__call__" ⟨.ref C :: us, kw⟩)).units = A.units + 1 := by
  first | rfl | simp [Around.under, Code.cUnits, Code.frames, Code.isFrame]
theorem Room.make {k : Nat} {A : Around} (r : Room (k + 1) A) (C : Addr) (us : List Value) (kw : List (Str × Value)) : Room k (A.under (.builtin "type.__call__" ⟨.ref C :: us, kw⟩)) :=
  ⟨r.hd, by have := r.dp; rw [make_depth]; omega, by have := r.un; rw [make_units]; omega⟩
theorem Room.depth {k : Nat} {A : Around} (r : Room k A) : A.depth < recursionLimit := by have := r.dp; omega
theorem Room.units {k : Nat} {A : Around} (r : Room k A) : A.units + 64 < cLine := by have := r.un; omega
theorem Room.units0 {k : Nat} {A : Around} (r : Room k A) : A.units < cLine := by have := r.un; omega
def tNil : TA := fun _ H Q => Q [] H
def tCons (ta : TE) (tr : TA) : TA := fun σ H Q => ta σ H fun x H1 => tr σ H1 fun xs H2 => Q (x :: xs) H2
section
variable {X : Cx} {e : Expr} {es : List Expr} {te : TE} {t : TA} {pos : Pos}
theorem pa_nil : PA X [] tNil := fun _ _ _ _ H Q I h => Calls.spliced_nil ⟨[], H, I, .nil, h⟩
theorem pa_cons (ha : PE X e te) (hr : PA X es t) (hs : starEach (e :: es) X.env = (false, eval e X.env) :: starEach es X.env := by rfl) : PA X (e :: es) (tCons te t) := by
  intro pos pins s σ H Q I h
  rw [hs]
  show wpAny _ _ (spliced ((false, eval e X.env) :: backTo pos (starEach es X.env))) _ _ s
  refine Calls.spliced_cons (thn (ha pins s σ H _ I h) fun u s1 ⟨x, H1, I1, r1, q1⟩ => ?_)
  exact thn (hr pos pins s1 σ H1 _ I1 q1) fun us s2 ⟨xs, H2, I2, r2, q2⟩ => ⟨x :: xs, H2, I2, .cons r1 r2, q2⟩
def tTup (t : TA) : TE := fun σ H Q => t σ H fun xs H1 => xs.length ≤ sizeLine ∧ ∀ p, H1 p = none → Q (.ref p) (upd H1 p (.tup xs))
def tLst (t : TA) : TE := fun σ H Q => t σ H fun xs H1 => xs.length ≤ sizeLine ∧ ∀ p, H1 p = none → Q (.ref p) (upd H1 p (.lst xs))
theorem pe_tup {x1} (h : PA X es t) : PE X (.Tuple es x1 pos) (tTup t) := by
  intro pins s σ H Q I hq
  refine wpAny_Tuple_spliced (thn (h pos pins s σ H _ I hq) fun us s1 ⟨xs, H1, I1, r, z, q⟩ => ⟨by rw [← r.length]; exact z, ?_⟩)
  have hf : H1 s1.heap.objs.size = none := I1.hok.fresh (Nat.le_refl _)
  refine ⟨.ref s1.heap.objs.size, upd H1 s1.heap.objs.size (.tup xs), I1.laid (t' := s1.toks) (fun b u e => Heap.get?_push_of_some _ e) (Nat.le_refl _) ?_, rfl, q _ hf⟩
  exact ⟨z, us, r, ⟨_, Heap.get?_push_size _ rfl, rfl, _, rfl⟩⟩
theorem pe_lst (h : PA X es t) : PE X (.List es pos) (tLst t) := by
  intro pins s σ H Q I hq
  refine wpAny_List_spliced (thn (h pos pins s σ H _ I hq) fun us s1 ⟨xs, H1, I1, r, z, q⟩ => ⟨by rw [← r.length]; exact z, ?_⟩)
  have hf : H1 s1.heap.objs.size = none := I1.hok.fresh (Nat.le_refl _)
  refine ⟨.ref s1.heap.objs.size, upd H1 s1.heap.objs.size (.lst xs), I1.laid (t' := s1.toks) (fun b u e => Heap.get?_push_of_some _ e) (Nat.le_refl _) ?_, rfl, q _ hf⟩
  exact ⟨z, us, 0, r, Heap.get?_push_size _ rfl⟩
end
abbrev Sp := List V → Hp → VK → XK → Prop
abbrev CXT := List Env → Hp → Shared → XK → Value → Shared → Prop
structure Env0 (P : Program) (w : World) (K : PySem.W.Frag) (mg : Str → Option Value) (base : Heap) (A : Around) (outer : List Env) (s : Shared) (H : Hp) : Prop where
  frames : A.frames = some outer
  mod : Mod K mg base
  bs : ∀ b o, base.get? b = some o → s.heap.get? b = some o ∧ H b = none
  bsz : base.objs.size ≤ s.heap.objs.size
  funs : s.heap.FunFrames base outer
  frf : ∀ b ∈ frs outer, H b = none
  hok : HOk P w H s.heap
  bare : AllBare s.gens
def CE (outer : List Env) (P : Program) (w : World) (H : Hp) (s : Shared) (Q : VK) (u : Value) (s' : Shared) : Prop :=
  ∃ v H', s'.os = s.os ∧ AllBare s'.gens ∧ Un (frs outer) [] H H' s.heap s'.heap ∧ HOk P w H' s'.heap ∧ RelV v u ∧ Q v H'
def CR (CX : CXT) (outer : List Env) (P : Program) (w : World) (H : Hp) (s : Shared) (Q : VK) (E : XK) (r : Result) (s' : Shared) : Prop :=
  match r with
  | .ok (.ret u) => CE outer P w H s Q u s'
  | .ok _ => False
  | .error e => CX outer H s E e s'
structure FnOk (P : Program) (w : World) (K : PySem.W.Frag) (mg : Str → Option Value) (base : Heap) (CX : CXT) (k : Nat) (f : Addr) (fd : FuncData) (ps : List Str) (sp : Sp) : Prop where
  len : ∀ vs H Q E, sp vs H Q E → vs.length = ps.length
  run : ∀ (A : Around) (outer : List Env) (s : Shared) (H : Hp) (args : Args) (us : List Value) (vs : List V) (Q : VK) (E : XK), Room k A → Env0 P w K mg base A outer s H → BindsTo s fd args (ps.zip us) → Vals vs us → sp vs H Q E →
    codeAny (model P w) A (.call (.ref f) args) (CR CX outer P w H s Q E) s
theorem FnOk.mono {P : Program} {w : World} {K : PySem.W.Frag} {mg : Str → Option Value} {base : Heap} {CX : CXT} {j k : Nat} {f : Addr} {fd : FuncData} {ps : List Str} {sp : Sp} (F : FnOk P w K mg base CX j f fd ps sp) (h : j ≤ k) :
    FnOk P w K mg base CX k f fd ps sp := ⟨F.len, fun A outer s H args us vs Q E hr => F.run A outer s H args us vs Q E (hr.mono h)⟩
theorem FnOk.imp {P : Program} {w : World} {K : PySem.W.Frag} {mg : Str → Option Value} {base : Heap} {CX : CXT} {k : Nat} {f : Addr} {fd : FuncData} {ps : List Str} {sp sp' : Sp} (F : FnOk P w K mg base CX k f fd ps sp)
    (h : ∀ vs H Q E, sp' vs H Q E → sp vs H Q E) : FnOk P w K mg base CX k f fd ps sp' :=
  ⟨fun vs H Q E q => F.len vs H Q E (h _ _ _ _ q), fun A outer s H args us vs Q E hr he hb hv hs => F.run A outer s H args us vs Q E hr he hb hv (h _ _ _ _ hs)⟩
theorem Env0.make {P : Program} {w : World} {K : PySem.W.Frag} {mg : Str → Option Value} {base : Heap} {A : Around} {outer : List Env} {s : Shared} {H : Hp} (e : Env0 P w K mg base A outer s H) (C : Addr) (us : List Value) (kw : List (Str × Value)) :
    Env0 P w K mg base (A.under (.builtin "type.__call__" ⟨.ref C :: us, kw⟩)) outer s H := ⟨by first | exact e.frames | (simpa [Around.under, Code.envs, Code.isFrame, pushEnvs] using e.frames), e.mod, e.bs, e.bsz, e.funs, e.frf, e.hok, e.bare⟩
theorem Env0.in1 {P : Program} {w : World} {K : PySem.W.Frag} {mg : Str → Option Value} {base : Heap} {A : Around} {outer : List Env} {s : Shared} {H : Hp} (e : Env0 P w K mg base A outer s H) :
    Env0 P w K mg base A.in1 outer s H := ⟨e.frames, e.mod, e.bs, e.bsz, e.funs, e.frf, e.hok, e.bare⟩
section
variable {X : Cx} {pins : List (Addr × Obj)} {σ : St} {H : Hp} {s s' : Shared}
theorem Inv.env0 (I : Inv X pins σ H s) : Env0 X.prog X.w X.K X.mg X.base X.A X.stack s H :=
  ⟨I.ok.frames, I.ok.mod, I.bs, Nat.le_trans I.ok.bsz I.sz, I.stack, I.stkFree, I.hok, I.bare⟩
theorem Inv.after {Q : VK} {u : Value} (I : Inv X pins σ H s) (h : CE X.stack X.prog X.w H s Q u s') : EP X pins σ Q u s' := by
  obtain ⟨v, H', os, bare, un, hok, r, q⟩ := h
  obtain ⟨hh, g, d, t, os'⟩ := s'
  obtain rfl : os' = s.os := os
  exact ⟨v, H', I.call (h' := hh) (g' := g) (d' := d) (t' := t) (ch := []) un hok bare (fun b z => absurd z (by simp)), r, q⟩
end
def tCall (sp : Sp) (dvs : List V) (E : XK) (t : TA) : TE := fun σ H Q => t σ H fun vs H1 => sp (vs ++ dvs) H1 Q E
def tMeth (C : Addr) (m : Str) (sp : Sp) (dvs : List V) (E : XK) (ta : TE) (t : TA) : TE := fun σ H Q => ta σ H fun x H1 => ∃ a dx fs, x = .ref a ∧ H1 a = some (.ins C dx fs) ∧ fs.lookup m = none ∧
  t σ H1 fun vs H2 => sp (x :: (vs ++ dvs)) H2 Q E
def tMake (C : Addr) (sp : Sp) (dvs : List V) (E : XK) (t : TA) : TE := fun σ H Q => t σ H fun vs H1 => ∀ x dx, H1 x = none → H1 dx = none → dx ≠ x →
  sp (.ref x :: (vs ++ dvs)) (upd (upd H1 dx (.own x)) x (.ins C dx [])) (fun v H2 => v = .non ∧ Q (.ref x) H2) E
def Binds (K : PySem.W.Frag) (fd : FuncData) (ps : List Str) (ds : List Value) : Prop :=
  ∀ (s : Shared) (us : List Value), K.In s.heap → (us ++ ds).length = ps.length → BindsTo s fd ⟨us, []⟩ (ps.zip (us ++ ds))
theorem Binds.all {K : PySem.W.Frag} {fd : FuncData} {ps : List Str} (h : ∀ us : List Value, us.length = ps.length → bindArgs fd ⟨us, []⟩ = pure (ps.zip us)) : Binds K fd ps [] := fun s us _ hl => by
  rw [List.append_nil] at hl ⊢
  exact .of_eq (h us hl)
def Passes (CX : CXT) (X : Cx) (E : XK) : Prop := ∀ (pins : List (Addr × Obj)) (σ : St) (H : Hp) (s : Shared) (e : Value) (s' : Shared), Inv X pins σ H s → CX X.stack H s E e s' → X.xe e s'
section
variable {X : Cx} {CX : CXT} {k : Nat} {f C : Addr} {fd : FuncData} {ps : List Str} {sp : Sp} {dvs : List V} {ds : List Value} {E : XK} {x m : Str} {p pos apos : Pos} {e o : Expr} {es : List Expr} {ta : TE} {t : TA}
theorem run_fn {pins : List (Addr × Obj)} {σ : St} {H : Hp} {s : Shared} {Q : VK} {us : List Value} {vs : List V} (F : FnOk X.prog X.w X.K X.mg X.base CX k f fd ps sp) (hr : Room k X.A) (hb : Binds X.K fd ps ds) (hd : Vals dvs ds) (hx : Passes CX X E)
    (I : Inv X pins σ H s) (r : Vals vs us) (h : sp (vs ++ dvs) H Q E) : wpAny (model X.prog X.w) X.A (call (.ref f) us) (EP X pins σ Q) X.xe s := by
  have r2 : Vals (vs ++ dvs) (us ++ ds) := r.append hd
  have hl : (us ++ ds).length = ps.length := by rw [← r2.length]; exact F.len _ _ _ _ h
  refine wpAny_call (codeAny_mono (F.run X.A X.stack s H ⟨us, []⟩ (us ++ ds) (vs ++ dvs) Q E hr I.env0 (hb s us I.kIn hl) r2 h) fun r s' hq => ?_)
  cases r with
  | error e => exact hx pins σ H s e s' I hq
  | ok fl =>
    cases fl with
    | ret u => exact I.after hq
    | next => exact False.elim hq
    | brk => exact False.elim hq
    | cont => exact False.elim hq
theorem pe_call (F : FnOk X.prog X.w X.K X.mg X.base CX k f fd ps sp) (hr : Room k X.A) (hg : Gl X x) (hm : X.mg x = some (.ref f)) (hk : PySem.W.keepIn X.K (.ref f) = true) (hb : Binds X.K fd ps ds) (hd : Vals dvs ds) (hx : Passes CX X E)
    (ha : PA X (e :: es) t) (hdb : (x == ("__debug__" : Str)) = false := by decide) (he : starEach (e :: es) X.env = (false, eval e X.env) :: starEach es X.env := by rfl) (hpl : (backTo pos (starEach es X.env)).any (·.1) = false := by rfl) :
    PE X (.Call (.Name x p) (e :: es) [] pos) (tCall sp dvs E t) := by
  intro pins s σ H Q I h
  refine wpAny_Call_Name_kw (ld_glob I hg hm ?_ hdb)
  refine PySem.W.callWith_K (h₀ := X.base) I.ok.mod.kin hk (thn (ha pos pins s σ H _ I h) fun us s1 ⟨vs, H1, I1, r, q⟩ => ⟨I1.kIn, ?_⟩) he hpl
  exact run_fn F hr hb hd hx I1 r q
theorem pe_meth {pl : Sem Bool} (he : PE X o ta) (c : Cls X.K C) (hm : Meth X.K C m f) (F : FnOk X.prog X.w X.K X.mg X.base CX k f fd ps sp) (hr : Room k X.A) (hb : Binds X.K fd ps ds) (hd : Vals dvs ds) (hx : Passes CX X E) (ha : PA X (e :: es) t)
    (hst : starEach (e :: es) X.env = (false, eval e X.env) :: starEach es X.env := by rfl) (hpl : (backTo pos (starEach es X.env)).any (·.1) = false := by rfl)
    (ht : eval (.Call (.Attribute o m apos) (e :: es) [] pos) X.env = (do
      let ov ← eval o X.env
      standAt apos.atName
      let (f, first) ← holding [ov] (getMethod ov m pl)
      callWith pos f first (backTo pos (starEach (e :: es) X.env)) (backToKw pos (keywordEach [] X.env))) := by rfl) :
    PE X (.Call (.Attribute o m apos) (e :: es) [] pos) (tMeth C m sp dvs E ta t) := by
  intro pins s σ H Q I h
  refine PySem.W.methodCall_KW (pl := pl) (thn (he pins s σ H _ I h) fun u s1 ⟨x, H1, I1, rx, a, dx, fs, ex, ea, l, q⟩ => ?_) ht
  subst ex
  obtain rfl : u = Value.ref a := rx
  refine getmeth_ok I1 ea c hm l ?_
  refine PySem.W.callWith_K (first := [.ref a]) (h₀ := X.base) I.ok.mod.kin hm.kp (thn (ha pos pins s1 σ H1 _ I1 q) fun us s2 ⟨vs, H2, I2, r, q2⟩ => ⟨I2.kIn, ?_⟩) hst hpl
  exact run_fn (us := .ref a :: us) (vs := .ref a :: vs) F hr hb hd hx I2 (.cons rfl r) q2
theorem pe_meth0 {pl : Sem Bool} (he : PE X o ta) (c : Cls X.K C) (hm : Meth X.K C m f) (F : FnOk X.prog X.w X.K X.mg X.base CX k f fd ps sp) (hr : Room k X.A) (hb : Binds X.K fd ps ds) (hd : Vals dvs ds) (hx : Passes CX X E)
    (ht : eval (.Call (.Attribute o m apos) [] [] pos) X.env = (do
      let ov ← eval o X.env
      standAt apos.atName
      let (f, first) ← holding [ov] (getMethod ov m pl)
      callWith pos f first (backTo pos (starEach [] X.env)) (backToKw pos (keywordEach [] X.env))) := by rfl) :
    PE X (.Call (.Attribute o m apos) [] [] pos) (tMeth C m sp dvs E ta tNil) := by
  intro pins s σ H Q I h
  refine PySem.W.methodCall_KW (pl := pl) (thn (he pins s σ H _ I h) fun u s1 ⟨x, H1, I1, rx, a, dx, fs, ex, ea, l, q⟩ => ?_) ht
  subst ex
  obtain rfl : u = Value.ref a := rx
  refine getmeth_ok I1 ea c hm l ?_
  exact PySem.W.callWith_K0 (first := [.ref a]) I1.kIn hm.kp (run_fn (us := [.ref a]) (vs := [.ref a]) F hr hb hd hx I1 (.cons rfl .nil) q)
structure Mk (K : PySem.W.Frag) (C f : Addr) : Prop where
  makes : PySem.W.makesIn K C = true
  init : PySem.W.findIn K (.ref C) "__init__" = some (some (.ref f))
  fn : PySem.W.isFn K (.ref f) = true
  kp : PySem.W.keepIn K (.ref C) = true
theorem run_make {pins : List (Addr × Obj)} {σ : St} {H : Hp} {s : Shared} {Q : VK} {us : List Value} {vs : List V} (M : Mk X.K C f) (F : FnOk X.prog X.w X.K X.mg X.base CX k f fd ps sp) (hr : Room (k + 1) X.A) (hb : Binds X.K fd ps ds) (hd : Vals dvs ds)
    (hx : Passes CX X E) (I : Inv X pins σ H s) (r : Vals vs us)
    (h : ∀ x dx, H x = none → H dx = none → dx ≠ x → sp (.ref x :: (vs ++ dvs)) (upd (upd H dx (.own x)) x (.ins C dx [])) (fun v H2 => v = .non ∧ Q (.ref x) H2) E) :
    wpAny (model X.prog X.w) X.A (call (.ref C) us) (EP X pins σ Q) X.xe s := by
  have hq := h (s.heap.objs.size + 1) s.heap.objs.size (I.hok.fresh (Nat.le_succ _)) (I.hok.fresh (Nat.le_refl _)) (Nat.ne_of_lt (Nat.lt_succ_self _))
  have I2 := Inv.made (C := C) I
  have r2 : Vals (V.ref (s.heap.objs.size + 1) :: (vs ++ dvs)) (Value.ref (s.heap.objs.size + 1) :: (us ++ ds)) := .cons rfl (r.append hd)
  have hl : (Value.ref (s.heap.objs.size + 1) :: us ++ ds).length = ps.length := by
    have e := r2.length
    rw [F.len _ _ _ _ hq] at e
    exact e.symm
  refine wpAny_call (make_map (f := f) I.kIn M.makes M.init (beq_iff_eq.mp M.fn) (codeAny_mono (F.run _ X.stack _ _ ⟨Value.ref (s.heap.objs.size + 1) :: us, []⟩ (Value.ref (s.heap.objs.size + 1) :: (us ++ ds)) _ _ E (hr.make C us [])
    (I2.env0.make C us []) (hb _ (Value.ref (s.heap.objs.size + 1) :: us) I2.kIn hl) r2 hq) fun r s' hq' => ?_))
  cases r with
  | error e => exact hx pins σ _ _ e s' I2 hq'
  | ok fl =>
    cases fl with
    | ret u =>
      obtain ⟨v, H', I3, rv, ev, q3⟩ := I2.after hq'
      subst ev
      exact ⟨rv, ⟨V.ref (s.heap.objs.size + 1), H', I3, rfl, q3⟩⟩
    | next => exact False.elim hq'
    | brk => exact False.elim hq'
    | cont => exact False.elim hq'
theorem pe_make0 (M : Mk X.K C f) (F : FnOk X.prog X.w X.K X.mg X.base CX k f fd ps sp) (hr : Room (k + 1) X.A) (hg : Gl X x) (hm : X.mg x = some (.ref C)) (hb : Binds X.K fd ps ds) (hd : Vals dvs ds) (hx : Passes CX X E)
    (hdb : (x == ("__debug__" : Str)) = false := by decide) : PE X (.Call (.Name x p) [] [] pos) (tMake C sp dvs E tNil) := by
  intro pins s σ H Q I h
  refine wpAny_Call_Name_kw (ld_glob I hg hm ?_ hdb)
  exact PySem.W.callWith_K0 I.kIn M.kp (run_make (us := []) M F hr hb hd hx I .nil h)
end
def PK (X : Cx) (kws : List Keyword) (t : TA) : Prop :=
  ∀ (pos : Pos) (pins : List (Addr × Obj)) (s : Shared) (σ : St) (H : Hp) (Q : List V → Hp → Prop), Inv X pins σ H s → t σ H Q → wpAny (model X.prog X.w) X.A (evalAll ((backToKw pos (keywordEach kws X.env)).map (·.2))) (AP X pins σ Q) X.xe s
section
variable {X : Cx} {CX : CXT} {k : Nat} {f C : Addr} {fd : FuncData} {ps ks : List Str} {sp : Sp} {E : XK} {x m : Str} {p pos apos kpos : Pos} {e o : Expr} {es : List Expr} {kws : List Keyword} {te ta : TE} {t tk : TA} {nm : Option Str}
theorem pk_nil : PK X [] tNil := fun _ _ _ _ H Q I h => wpAny_evalAll_nil ⟨[], H, I, .nil, h⟩
theorem pk_cons (ha : PE X e te) (hr : PK X kws t) : PK X (⟨nm, e, kpos⟩ :: kws) (tCons te t) := by
  intro pos pins s σ H Q I h
  show wpAny _ _ (evalAll ((do let v ← eval e X.env; standAt pos; pure v) :: (backToKw pos (keywordEach kws X.env)).map (·.2))) _ _ s
  refine wpAny_evalAll_cons (wpAny_bind (thn (ha pins s σ H _ I h) fun u s1 ⟨x, H1, I1, r1, q1⟩ => wpAny_bind (wpAny_standAt (wpAny_pure ?_))))
  exact thn (hr pos pins s1 σ H1 _ I1 q1) fun us s2 ⟨xs, H2, I2, r2, q2⟩ => ⟨x :: xs, H2, I2, .cons r1 r2, q2⟩
variable {g : List Value → List Value → List Value} {gV : List V → List V → List V}
end
structure FnScope (N P : List Str) (sc : Scope) : Prop where
  kind : sc.kind = .function
  co : sc.isCoroutine = false
  gen : sc.isGenerator = false
  nd : N.Nodup
  pre : N.take P.length = P
  par : ∀ x ∈ P, sc.names.lookup x = some .local ∨ sc.names.lookup x = some .cell
  nofree : ∀ y ∈ sc.names, y.2 ≠ .free
theorem bindL_out {kindOf : Str → Option NameKind} {x : Str} : ∀ {binds : List (Str × Value)} {m : Str → Option Value}, (∀ v, (x, v) ∉ binds) → bindL kindOf binds m x = m x
  | [], _, _ => rfl
  | (n, v) :: r, m, h => by
    unfold bindL
    rw [bindL_out fun w hw => h w (List.mem_cons_of_mem _ hw)]
    split
    · have : x ≠ n := by rintro rfl; exact h v List.mem_cons_self
      simp [this]
    · rfl
theorem bindC_out {kindOf : Str → Option NameKind} {x : Str} : ∀ {binds : List (Str × Value)} {m : Str → Option Value}, (∀ v, (x, v) ∉ binds) → bindC kindOf binds m x = m x
  | [], _, _ => rfl
  | (n, v) :: r, m, h => by
    unfold bindC
    rw [bindC_out fun w hw => h w (List.mem_cons_of_mem _ hw)]
    split
    · rfl
    · have : x ≠ n := by rintro rfl; exact h v List.mem_cons_self
      simp [this]
theorem bindL_get {kindOf : Str → Option NameKind} {x : Str} {v : Value} : ∀ {P : List Str} {vs : List Value} {i : Nat} {m : Str → Option Value}, P.Nodup → P[i]? = some x → vs[i]? = some v → kindOf x = some .local →
    bindL kindOf (P.zip vs) m x = some v
  | [], _, _, _, _, h, _, _ => by simp at h
  | _ :: _, [], _, _, _, _, h, _ => by simp at h
  | p :: P, w :: vs, 0, m, nd, h1, h2, hk => by
    simp at h1 h2; subst h1; subst h2
    show bindL kindOf ((p, w) :: P.zip vs) m p = _
    unfold bindL
    rw [bindL_out fun v hv => (List.nodup_cons.mp nd).1 (List.of_mem_zip hv).1, if_pos hk]
    simp
  | p :: P, w :: vs, i + 1, m, nd, h1, h2, hk => by
    show bindL kindOf ((p, w) :: P.zip vs) m x = _
    unfold bindL
    exact bindL_get (i := i) (List.nodup_cons.mp nd).2 (by simpa using h1) (by simpa using h2) hk
theorem bindC_get {kindOf : Str → Option NameKind} {x : Str} {v : Value} : ∀ {P : List Str} {vs : List Value} {i : Nat} {m : Str → Option Value}, P.Nodup → P[i]? = some x → vs[i]? = some v → kindOf x ≠ some .local →
    bindC kindOf (P.zip vs) m x = some v
  | [], _, _, _, _, h, _, _ => by simp at h
  | _ :: _, [], _, _, _, _, h, _ => by simp at h
  | p :: P, w :: vs, 0, m, nd, h1, h2, hk => by
    simp at h1 h2; subst h1; subst h2
    show bindC kindOf ((p, w) :: P.zip vs) m p = _
    unfold bindC
    rw [bindC_out fun v hv => (List.nodup_cons.mp nd).1 (List.of_mem_zip hv).1, if_neg hk]
    simp
  | p :: P, w :: vs, i + 1, m, nd, h1, h2, hk => by
    show bindC kindOf ((p, w) :: P.zip vs) m x = _
    unfold bindC
    exact bindC_get (i := i) (List.nodup_cons.mp nd).2 (by simpa using h1) (by simpa using h2) hk
def start (N : List Str) (vs : List V) : St := vs.map some ++ List.replicate (N.length - vs.length) none
def cxOf (CX : CXT) (P : Program) (w : World) (K : PySem.W.Frag) (mg : Str → Option Value) (base : Heap) (N : List Str) (qual : Str) (scope : Scope) (f : Addr) (cd : Value) (A : Around) (outer : List Env) (s : Shared) (H : Hp) (E : XK) : Cx where
  prog := P
  w := w
  K := K
  mg := mg
  base := base
  A := A.deeper (envOfC qual scope s.heap.objs.size f cd)
  N := N
  s₀ := s
  H₀ := H
  env := envOfC qual scope s.heap.objs.size f cd
  outer := outer
  stack := envOfC qual scope s.heap.objs.size f cd :: outer
  ex := []
  calm := true
  fn := fun _ => true
  pn := []
  xe := fun e s' => wpAny (model P w) (A.deeper (envOfC qual scope s.heap.objs.size f cd)) (leaving (envOfC qual scope s.heap.objs.size f cd) e) (fun _ s'' => CX outer H s E e s'') (fun e' s'' => CX outer H s E e' s'') s'
theorem cell_has {sc : Scope} {n : Nat} {x : Str} (h : sc.names.lookup x = some .cell) : ∃ c, (cellsFrom n sc.names []).lookup x = some c := by
  have q := PySem.W.cellsFrom_some sc.names n [] (.inl h)
  exact Option.isSome_iff_exists.mp q
theorem inv_start {CX : CXT} {P : Program} {w : World} {K : PySem.W.Frag} {mg : Str → Option Value} {base : Heap} {N ps : List Str} {qual : Str} {scope : Scope} {f : Addr} {cd : Value} {A : Around} {outer : List Env} {s s1 : Shared} {H : Hp} {E : XK} {us : List Value} {vs : List V}
    (S : FnScope N ps scope) (hd : A.handled = none) (e0 : Env0 P w K mg base A outer s H) (hl : vs.length = ps.length) (r : Vals vs us)
    (x : InCallC s s.heap.objs.size (bindL (envOfC qual scope s.heap.objs.size f cd).kindOf (ps.zip us) fun _ => none) (cellsFrom (s.heap.objs.size + 1) scope.names []) (bindC (envOfC qual scope s.heap.objs.size f cd).kindOf (ps.zip us) fun _ => none) s1) :
    Inv (cxOf CX P w K mg base N qual scope f cd A outer s H E) [] (start N vs) H s1 := by
  have hpl : ps.length ≤ N.length := by have := congrArg List.length S.pre; rw [List.length_take] at this; omega
  obtain ⟨h1, tk, rfl, hk⟩ := x.done
  have noA : ∀ b : Addr, b ∉ (cxOf CX P w K mg base N qual scope f cd A outer s H E).ex := fun b z => absurd (show b ∈ ([] : List Addr) from z) (by simp)
  refine ⟨⟨e0.mod, S.kind, rfl, rfl, Nat.le_refl _, fun y z c h1 h2 => ?_, fun y hy => ?_, fun y c _ h => ?_, fun _ => hd, Around.frames_deeper e0.frames, .inr ⟨rfl, rfl⟩, fun b z => absurd z (noA b), e0.bs, e0.bsz, fun b _ _ => noA b, fun b z => absurd z (noA b), e0.funs, e0.frf⟩,
    rfl, e0.bare, Un.kept hk, ⟨_, x.toInCall.ns, fun i y v h1 h2 h3 => ?_⟩, fun y c h => ⟨_, x.cell y c h⟩, e0.hok.fresh (Nat.le_refl _), fun y c h => ?_, fun p hp => absurd (show p ∈ ([] : List (Addr × Obj)) from hp) (by simp), e0.hok.kept hk, ?_⟩
  · exact name_of_addr x.apart (PySem.mem_of_lookup h1) (PySem.mem_of_lookup h2)
  · have hy : scope.names.lookup y = some .cell ∨ scope.names.lookup y = some .free := hy
    rcases hy with hy | hy
    · exact cell_has hy
    · exact absurd rfl (S.nofree _ (PySem.mem_of_lookup hy))
  · exact Nat.le_of_lt (x.above y c (PySem.mem_of_lookup h))
  · have hi : i < vs.length := by
      unfold start at h2
      by_cases hi : i < vs.length
      · exact hi
      · rw [List.getElem?_append_right (by simpa using hi)] at h2
        rw [List.getElem?_replicate] at h2
        split at h2 <;> cases h2
    have ha : vs[i]? = some v := by
      unfold start at h2
      rw [List.getElem?_append_left (by simpa using hi), List.getElem?_map] at h2
      cases e : vs[i]? with
      | none => rw [e] at h2; cases h2
      | some a => rw [e] at h2; cases h2; rfl
    obtain ⟨u, hu, rv⟩ := r.get ha
    have hp : ps[i]? = some y := by
      rw [← S.pre, List.getElem?_take_of_lt (by omega)]; exact h1
    have ndP : ps.Nodup := by rw [← S.pre]; exact S.nd.sublist (List.take_sublist _ _)
    refine ⟨u, rv, ?_⟩
    rcases S.par y (List.mem_of_getElem? hp) with k | k
    · exact .inl ⟨k, bindL_get ndP hp hu k⟩
    · obtain ⟨c, e⟩ := cell_has (n := s.heap.objs.size + 1) k
      refine .inr ⟨.inl k, c, e, ?_⟩
      have q := x.cell y c e
      rw [bindC_get ndP hp hu (by show scope.names.lookup y ≠ _; rw [k]; decide)] at q
      exact q
  · exact e0.hok.fresh (Nat.le_of_lt (x.above y c (PySem.mem_of_lookup h)))
  · unfold start
    show _ = N.length
    rw [List.length_append, List.length_map, List.length_replicate]
    omega
theorem fn_of {CX : CXT} {P : Program} {w : World} {K : PySem.W.Frag} {mg : Str → Option Value} {base : Heap} {k : Nat} {f : Addr} {name qual : Str} {params : Arguments} {body : List Stmt} {scope : Scope} {dV kV doc pm cdv ct oc : Value} {an od : Option Addr}
    {osl : Array (Option Value)} {N ps : List Str} {sp : Sp} (lk : K.lookup f = some ⟨oc, od, .func (PySem.W.fnOf name qual params body scope dV kV doc pm an cdv ct), osl⟩) (hcd : PySem.W.codeIn K cdv qual = true) (S : FnScope N ps scope)
    (len : ∀ vs H Q E, sp vs H Q E → vs.length = ps.length)
    (hbody : ∀ (A : Around) (outer : List Env) (s : Shared) (H : Hp) (vs : List V) (Q : VK) (E : XK), Room k (A.deeper (envOfC qual scope s.heap.objs.size f cdv)) → sp vs H Q E →
      ∃ t, PSs (cxOf CX P w K mg base N qual scope f cdv A outer s H E) body t ∧ t { nx := fun _ H' => Q .non H', rt := Q } (start N vs) H) :
    FnOk P w K mg base CX (k + 1) f (PySem.W.fnOf name qual params body scope dV kV doc pm an cdv ct) ps sp := by
  refine ⟨len, fun A outer s H args us vs Q E hr e0 hb r hsp => ?_⟩
  have hl := len _ _ _ _ hsp
  have KX : K.In s.heap := e0.mod.kin.keeps fun b o e => (e0.bs b o e).1
  have lim : s.heap.NoLimit := e0.mod.nolimit.keeps fun b o e => (e0.bs b o e).1
  have hkind : ∀ y ∈ ps.zip us, scope.names.lookup y.1 = some .local ∨ (scope.names.lookup y.1 = some .cell ∧ ((cellsFrom (s.heap.objs.size + 1) scope.names []).lookup y.1).isSome = true) := fun ⟨n, v⟩ hy => by
    rcases S.par n (List.of_mem_zip hy).1 with q | q
    · exact .inl q
    · exact .inr ⟨q, PySem.W.cellsFrom_some _ _ _ (.inl q)⟩
  refine codeAny_call_function hr.depth (KX _ _ lk) rfl S.co S.gen rfl (PySem.W.codeRec_of KX hcd) (hb _ _ _ _ ?_)
  refine wpAny_newFunctionEnv_cells S.kind hkind fun env he s1 x => ?_
  subst he
  refine ⟨lim.keeps x.toInCall.keep, codeAny_func ?_⟩
  obtain ⟨t, ht, hq⟩ := hbody A outer s H vs Q E (hr.deeper _) hsp
  have I : Inv (cxOf CX P w K mg base N qual scope f cdv A outer s H E) [] (start N vs) H s1 := inv_start S hr.hd e0 hl r x
  refine wpAny_mono (ht [] s1 (start N vs) H _ I hq) (fun fl s' hs => ?_) fun e s' hs => hs
  have fin : ∀ {σ' : St} {H' : Hp} {v : V} {u : Value}, Inv (cxOf CX P w K mg base N qual scope f cdv A outer s H E) [] σ' H' s' → RelV v u → Q v H' → CE outer P w H s Q u s' :=
    fun {σ' H' v u} J rv q => ⟨v, H', J.os, J.bare, J.base, J.hok, rv, q⟩
  cases fl with
  | ret u =>
    obtain ⟨v, σ', H', J, rv, q⟩ := hs
    exact fin J rv q
  | next =>
    obtain ⟨σ', H', J, q⟩ := hs
    exact fin (v := V.non) (u := Value.none) J rfl q
  | brk =>
    obtain ⟨_, _, _, q⟩ := hs
    exact False.elim q
  | cont =>
    obtain ⟨_, _, _, q⟩ := hs
    exact False.elim q
end L2
namespace L2
open PySem PySem.Spec PyProof.Rows
section
variable {X : Cx} {x : Str} {p pos : Pos} {e : Expr} {es : List Expr} {t : TA} {id T : String} {r : List V → Hp → VK → Prop}
def tCB (r : List V → Hp → VK → Prop) (t : TA) : TE := fun σ H Q => t σ H fun vs H1 => r vs H1 Q
theorem pe_callB (hc : CallR X (.builtin id) r) (hg : Gl X x) (hm : X.mg x = none) (hv : bootBuiltins x = some (.builtin id)) (ha : PA X (e :: es) t) (hn : x ≠ "__name__" := by decide) (hdb : (x == ("__debug__" : Str)) = false := by decide)
    (he : starEach (e :: es) X.env = (false, eval e X.env) :: starEach es X.env := by rfl) (hpl : (backTo pos (starEach es X.env)).any (·.1) = false := by rfl) : PE X (.Call (.Name x p) (e :: es) [] pos) (tCB r t) := by
  intro pins s σ H Q I h
  refine wpAny_Call_Name_kw (ld_blt I hg hm hv ?_ hn hdb)
  exact PyProof.Rows.callWith_builtin1 (thn (ha pos pins s σ H _ I h) fun us s1 ⟨vs, H1, I1, r1, q1⟩ => hc pins s1 σ H1 vs us Q I1 r1 q1) he hpl
theorem pe_callTy (hc : CallR X (.type T) r) (hg : Gl X x) (hm : X.mg x = none) (hv : bootBuiltins x = some (.type T)) (ha : PA X (e :: es) t) (hn : x ≠ "__name__" := by decide) (hdb : (x == ("__debug__" : Str)) = false := by decide)
    (he : starEach (e :: es) X.env = (false, eval e X.env) :: starEach es X.env := by rfl) (hpl : (backTo pos (starEach es X.env)).any (·.1) = false := by rfl) : PE X (.Call (.Name x p) (e :: es) [] pos) (tCB r t) := by
  intro pins s σ H Q I h
  refine wpAny_Call_Name_kw (ld_blt I hg hm hv ?_ hn hdb)
  exact PyProof.Rows.callWith_type1 (thn (ha pos pins s σ H _ I h) fun us s1 ⟨vs, H1, I1, r1, q1⟩ => hc pins s1 σ H1 vs us Q I1 r1 q1) he hpl
end
end L2
namespace HT
open PySem PyProof.Rows
def lexLt : List Int → List Int → Bool
  | [], [] => false
  | [], _ :: _ => true
  | _ :: _, [] => false
  | x :: xs, y :: ys => if x = y then lexLt xs ys else decide (x < y)
theorem lexLt_cons (x y : Int) (xs ys : List Int) : lexLt (x :: xs) (y :: ys) = if x = y then lexLt xs ys else decide (x < y) := rfl
section
open PySem.SeqAt
open PySem.AutoSeq1 (wpAny_loadPart')
open PySem.MeetsSeq PySem.MeetsSeq2 PySem.MeetsSeq3
end
section
variable {prog : Program} {w : World} {A : Around} {E : Value → Shared → Prop} {s : Shared}
def sIx (n d : Nat) : Option Int → Nat
  | none => d
  | some v => if v < 0 then (v + (n : Int)).toNat else min v.toNat n
theorem sIx_nat (n d k : Nat) : sIx n d (some (k : Int)) = min k n := by
  show (if (k : Int) < 0 then ((k : Int) + (n : Int)).toNat else min (k : Int).toNat n) = min k n
  rw [if_neg (by omega), Int.toNat_natCast]
end
end HT
namespace L2
open PySem PySem.Spec PyProof.Rows
abbrev TO := St → Hp → (Option Int → Hp → Prop) → Prop
def PO (X : Cx) (e : Option Expr) (t : TO) : Prop :=
  ∀ (pins : List (Addr × Obj)) (s : Shared) (σ : St) (H : Hp) (Q : Option Int → Hp → Prop), Inv X pins σ H s → t σ H Q →
    wpAny (model X.prog X.w) X.A (evalPart e X.env) (fun u s' => ∃ o H', Inv X pins σ H' s' ∧ IsPart u o ∧ Q o H') X.xe s
def tNoPart : TO := fun _ H Q => Q none H
def tPart (t : TE) : TO := fun σ H Q => t σ H fun x H1 => ∃ i, x = .int i ∧ Q (some i) H1
theorem intsAre_of {ns : List Int} : ∀ {us : List Value}, Vals (ns.map V.int) us → IntsAre us ns := by
  induction ns with
  | nil => intro us r; rw [List.map_nil] at r; cases r; exact .nil
  | cons n ns ih =>
    intro us r
    rw [List.map_cons] at r
    cases r with
    | cons r1 r2 =>
      obtain ⟨t, e⟩ := r1
      subst e
      exact .cons n t (ih r2)
section
variable {X : Cx} {e : Expr} {te : TE} {lo hi : Option Expr} {tl th : TO} {pos p2 : Pos}
theorem po_some (h : PE X e te) : PO X (some e) (tPart te) := by
  intro pins s σ H Q I hw
  rw [evalPart_some]
  refine thn (h pins s σ H _ I hw) fun u s1 ⟨x, H1, I1, r1, q1⟩ => ?_
  obtain ⟨i, rfl, q⟩ := q1
  obtain ⟨t, rfl⟩ := r1
  exact ⟨some i, H1, I1, .int i t, q⟩
def SlR (X : Cx) (r : V → Option Int → Option Int → Hp → VK → Prop) : Prop :=
  ∀ (pins : List (Addr × Obj)) (s : Shared) (σ : St) (H : Hp) (x : V) (v vl vu : Value) (lo hi : Option Int) (sl : Addr) (Q : VK), Inv X pins σ H s → RelV x v → s.heap.IsSliceOf sl vl vu .none → IsPart vl lo → IsPart vu hi → r x lo hi H Q →
    ∃ T id, typeLookup (.type T) "__getitem__" = pure (some (.builtin id)) ∧ s.TypeIs v T ∧ wpAny (model X.prog X.w) X.A (getItem v (.ref sl)) (EP X pins σ Q) X.xe s
def tSl (r : V → Option Int → Option Int → Hp → VK → Prop) (te : TE) (tl th : TO) : TE := fun σ H Q => te σ H fun x H1 => tl σ H1 fun l H2 => th σ H2 fun u H3 => r x l u H3 Q
theorem pe_slice {r : V → Option Int → Option Int → Hp → VK → Prop} (hr : SlR X r) (he : PE X e te) (hl : PO X lo tl) (hu : PO X hi th) : PE X (.Subscript e (.Slice lo hi none p2) pos) (tSl r te tl th) := by
  intro pins s σ H Q I h
  refine Subscript_ (thn (he pins s σ H _ I h) fun v s1 ⟨x, H1, I1, r1, q1⟩ => ?_)
  refine wpAny_Slice (thn (hl pins s1 σ H1 _ I1 q1) fun vl s2 ⟨l, H2, I2, pl, q2⟩ => thn (hu pins s2 σ H2 _ I2 q2) fun vu s3 ⟨u, H3, I3, pu, q3⟩ => ?_)
  rw [evalPart_none]
  refine wpAny_pure ?_
  have I4 : Inv X pins σ H3 { s3 with heap := s3.heap.push { cls := .type "slice", data := .fields #[vl, vu, .none] } } := I3.kept (t' := s3.toks) fun b ob q => Heap.get?_push_of_some _ q
  obtain ⟨T, id, hT, ht, hg⟩ := hr pins { s3 with heap := s3.heap.push { cls := .type "slice", data := .fields #[vl, vu, .none] } } σ H3 x v vl vu l u s3.heap.objs.size Q I4 r1 (Heap.IsSliceOf.new ..) pl pu q3
  show wpAny (model X.prog X.w) X.A (subscriptTail e (.Slice lo hi none p2) v (.ref s3.heap.objs.size)) (EP X pins σ Q) X.xe { s3 with heap := s3.heap.push { cls := .type "slice", data := .fields #[vl, vu, .none] } }
  exact tail_any (ops := [.ref s3.heap.objs.size, v]) ht hT hg (by with_unfolding_all rfl)
def cutV (xs : List V) (lo hi : Option Int) : List V := (xs.drop (HT.sIx xs.length 0 lo)).take (HT.sIx xs.length xs.length hi - HT.sIx xs.length 0 lo)
theorem cutV_length (xs : List V) (lo hi : Option Int) : (cutV xs lo hi).length ≤ xs.length := by
  unfold cutV
  rw [List.length_take, List.length_drop]
  omega
def rCatT (K : PySem.W.Frag) : R2 := fun x y H Q => ∃ a b xs ys, x = .ref a ∧ y = .ref b ∧ SqT K H a xs ∧ SqT K H b ys ∧ xs ≠ [] ∧ xs.length + ys.length ≤ sizeLine ∧
  (ys = [] → Q (.ref a) H) ∧ (ys ≠ [] → ∀ p, H p = none → Q (.ref p) (upd H p (.tup (xs ++ ys))))
end
end L2
namespace L2
open PySem PySem.Spec PyProof.Rows
def ixN (n : Nat) (i : Int) : Option Nat := if 0 ≤ i then (if i < n then some i.toNat else none) else if -(n : Int) ≤ i then some (i + n).toNat else none
def atI {α : Type} (xs : List α) (i : Int) : Option α := (ixN xs.length i).bind fun j => xs[j]?
theorem ixN_seq {n : Nat} {i : Int} {j : Nat} (h : ixN n i = some j) : seqIndex? i n = some j ∧ j < n ∧ -(n : Int) ≤ i ∧ i < n := by
  unfold ixN at h
  by_cases h0 : 0 ≤ i
  · rw [if_pos h0] at h
    by_cases h1 : i < n
    · rw [if_pos h1] at h
      have e : i.toNat = j := Option.some.inj h
      exact ⟨by rw [seqIndex_of h0 h1, e], by omega, by omega, h1⟩
    · rw [if_neg h1] at h; cases h
  · rw [if_neg h0] at h
    by_cases h1 : -(n : Int) ≤ i
    · rw [if_pos h1] at h
      have e : (i + n).toNat = j := Option.some.inj h
      exact ⟨by rw [seqIndex_neg (by omega) h1, e], by omega, h1, by omega⟩
    · rw [if_neg h1] at h; cases h
theorem atI_get {α : Type} {xs : List α} {i : Int} {v : α} (h : atI xs i = some v) : ∃ j, seqIndex? i xs.length = some j ∧ xs[j]? = some v ∧ j < xs.length ∧ -(xs.length : Int) ≤ i ∧ i < xs.length := by
  unfold atI at h
  cases e : ixN xs.length i with
  | none => rw [e] at h; cases h
  | some j =>
    rw [e] at h
    obtain ⟨h1, h2, h3, h4⟩ := ixN_seq e
    exact ⟨j, h1, h, h2, h3, h4⟩
theorem atI_nat {α : Type} {xs : List α} {j : Nat} {v : α} (h : xs[j]? = some v) : atI xs (j : Int) = some v := by
  have hj : j < xs.length := (List.getElem?_eq_some_iff.mp h).1
  have e : ixN xs.length (j : Int) = some j := by
    unfold ixN
    rw [if_pos (by omega), if_pos (by omega)]; simp
  unfold atI; rw [e]; exact h
theorem atI_last {α : Type} (xs : List α) (v : α) : atI (xs ++ [v]) (-1) = some v := by
  have hl : (xs ++ [v]).length = xs.length + 1 := by simp
  have e : ixN (xs ++ [v]).length (-1) = some xs.length := by
    unfold ixN
    rw [hl, if_neg (by decide), if_pos (by omega)]
    congr 1
    omega
  unfold atI
  rw [e]
  show (xs ++ [v])[xs.length]? = some v
  simp
def PlainIx (b : Expr) : Prop := ∀ o i, subscripted b false o i = operate [o, i] (getItem o i)
def IxR (X : Cx) (r : R2) : Prop :=
  ∀ (value slice : Expr) (pins : List (Addr × Obj)) (s : Shared) (σ : St) (H : Hp) (x y : V) (v u : Value) (Q : VK), Inv X pins σ H s → RelV x v → RelV y u → r x y H Q →
    subscripted slice false v u = operate [v, u] (getItem v u) → wpAny (model X.prog X.w) X.A (subscriptTail value slice v u) (EP X pins σ Q) X.xe s
def MtR (X : Cx) (id : String) (r : V → List V → Hp → VK → Prop) : Prop :=
  ∀ (pins : List (Addr × Obj)) (s : Shared) (σ : St) (H : Hp) (x : V) (xs : List V) (v : Value) (us : List Value) (Q : VK), Inv X pins σ H s → RelV x v → Vals xs us → r x xs H Q →
    wpAny (model X.prog X.w) X.A (call (.builtin id) (v :: us)) (EP X pins σ Q) X.xe s
section
variable {X : Cx} {a b : Expr} {ta tb : TE} {pos : Pos}
theorem pe_ix {r : R2} (hr : IxR X r) (ha : PE X a ta) (hb : PE X b tb) (hs : PlainIx b) : PE X (.Subscript a b pos) (tOp r ta tb) := by
  intro pins s σ H Q I h
  exact Subscript_ (binT ha hb I h fun v u s2 x y H2 I2 rx ry q => hr a b pins s2 σ H2 x y v u Q I2 rx ry q (hs _ _))
def rIxL (K : PySem.W.Frag) : R2 := fun x y H Q => ∃ p xs i v, x = .ref p ∧ y = .int i ∧ SqL K H p xs ∧ atI xs i = some v ∧ Q v H
def rIxT (K : PySem.W.Frag) : R2 := fun x y H Q => ∃ p xs i v, x = .ref p ∧ y = .int i ∧ SqT K H p xs ∧ atI xs i = some v ∧ Q v H
def rIxS : R2 := fun x y H Q => ∃ z i c, x = .str z ∧ y = .int i ∧ z.length ≤ sizeLine ∧ atI z.cps.toList i = some c ∧ Q (.str ⟨#[c]⟩) H
theorem ix_list : IxR X (rIxL X.K) := by
  intro value slice pins s σ H x y v u Q I rx ry h hs
  obtain ⟨p, xs, i, z, rfl, rfl, hq, he, q⟩ := h
  cases rx
  obtain ⟨t, rfl⟩ := ry
  obtain ⟨its, r, pl, hz⟩ := I.list hq
  obtain ⟨j, h1, h2, h3, h4, h5⟩ := atI_get he
  obtain ⟨w, ew, rw'⟩ := r.get h2
  have hl := r.length
  have hn := line63
  have fin : EP X pins σ Q w s := ⟨z, H, I, rw', q⟩
  by_cases h0 : 0 ≤ i
  · have hj : i.toNat = j := by
      rw [seqIndex_of h0 h5] at h1
      exact Option.some.inj h1
    exact item_listR pl.isList h0 (by omega) (by rw [hj]; simpa using ew) fin hs
  · have hj : (i + (its.toArray.size : Int)).toNat = j := by
      rw [seqIndex_neg (by omega) h4] at h1
      rw [List.size_toArray, ← hl]
      exact Option.some.inj h1
    exact subscriptTail_builtinR (x := w) pl.isList.typeIs slot_list_getitem.lookup
      (wpAny_getItem_list_neg (Q := fun r s' => r = w ∧ EP X pins σ Q r s') pl.isList (by omega) (by rw [List.size_toArray] <;> omega) (by omega) (by rw [hj]; simpa using ew) ⟨rfl, fin⟩) hs
theorem ix_tup : IxR X (rIxT X.K) := by
  intro value slice pins s σ H x y v u Q I rx ry h hs
  obtain ⟨p, xs, i, z, rfl, rfl, hq, he, q⟩ := h
  cases rx
  obtain ⟨t, rfl⟩ := ry
  obtain ⟨its, r, pl, hz⟩ := I.tuple hq
  obtain ⟨j, h1, h2, h3, h4, h5⟩ := atI_get he
  obtain ⟨w, ew, rw'⟩ := r.get h2
  have hl := r.length
  have hn := line63
  have fin : EP X pins σ Q w s := ⟨z, H, I, rw', q⟩
  exact subscriptTail_builtinR (x := w) pl.typeIs slot_tuple_getitem.lookup
    (getItem_tuple (j := j) (Q := fun r s' => r = w ∧ EP X pins σ Q r s') pl (by omega) (by omega) (by rw [List.size_toArray, ← hl]; exact h1) (by simpa using ew) ⟨rfl, fin⟩) hs
theorem Inv.lst {pins : List (Addr × Obj)} {σ : St} {H : Hp} {s : Shared} {p : Addr} {xs : List V} (I : Inv X pins σ H s) (h : H p = some (.lst xs)) :
    ∃ (its : List Value) (n : Nat), Vals xs its ∧ s.heap.get? p = some { cls := .type "list", data := .seq its.toArray n } ∧ xs.length ≤ sizeLine := by
  obtain ⟨z, its, n, r, e⟩ := I.hok p _ h
  exact ⟨its, n, r, e, z⟩
def rSetL : V → V → V → Hp → (Hp → Prop) → Prop := fun o i v H Q => ∃ p xs k j, o = .ref p ∧ i = .int k ∧ H p = some (.lst xs) ∧ ixN xs.length k = some j ∧ Q (upd H p (.lst (xs.set j v)))
theorem slice_bounds (lo hi : Option Int) (n : Nat) : (sliceBounds lo hi none n).1 = ((HT.sIx n 0 lo : Nat) : Int) ∧ (sliceBounds lo hi none n).2.1 = ((HT.sIx n n hi : Nat) : Int) ∧ (sliceBounds lo hi none n).2.2 = 1 := by
  refine ⟨?_, ?_, rfl⟩
  · cases lo with
    | none => simp [sliceBounds, HT.sIx]
    | some i =>
      simp only [sliceBounds, HT.sIx, Option.getD_none, show (1 : Int) > 0 by decide, if_true]
      by_cases h : i < 0
      · simp only [h, if_true] <;> omega
      · simp only [h, if_false] <;> omega
  · cases hi with
    | none => simp [sliceBounds, HT.sIx]
    | some i =>
      simp only [sliceBounds, HT.sIx, Option.getD_none, show (1 : Int) > 0 by decide, if_true]
      by_cases h : i < 0
      · simp only [h, if_true] <;> omega
      · simp only [h, if_false] <;> omega
theorem slicePick_cut (its : List Value) (lo hi : Option Int) : slicePick its.toArray lo hi none = ((its.drop (HT.sIx its.length 0 lo)).take (HT.sIx its.length its.length hi - HT.sIx its.length 0 lo)).toArray := by
  obtain ⟨h1, h2, h3⟩ := slice_bounds lo hi its.toArray.size
  unfold slicePick
  rw [h1, h2, h3]
  simp only [sliceRange_one, pick_run, List.size_toArray] <;> rfl
def rSlL (K : PySem.W.Frag) : V → Option Int → Option Int → Hp → VK → Prop := fun x lo hi H Q => ∃ a xs, x = .ref a ∧ SqL K H a xs ∧ ∀ p, H p = none → Q (.ref p) (upd H p (.lst (cutV xs lo hi)))
theorem sl_list : SlR X (rSlL X.K) := by
  intro pins s σ H x v vl vu lo hi sl Q I rx hs pl pu h
  obtain ⟨a, xs, rfl, hx, q⟩ := h
  cases rx
  obtain ⟨its, r, ht, hz⟩ := I.list hx
  have hlen := r.length
  refine ⟨"list", _, slot_list_getitem.lookup, ht.isList.typeIs, ?_⟩
  refine wpAny_getItem_list_slice ht.isList hs pl pu .none (by simp) ?_ (by rw [List.size_toArray] <;> omega)
  rw [slicePick_cut, ← hlen]
  refine ⟨.ref s.heap.objs.size, _, I.laid (t' := s.toks) (o := .lst (cutV xs lo hi)) (fun b ob q => Heap.get?_push_of_some _ q) (Nat.le_refl _) ?_, rfl, q _ (I.hok.fresh (Nat.le_refl _))⟩
  exact ⟨Nat.le_trans (cutV_length xs lo hi) hz, _, 0, (r.drop (HT.sIx xs.length 0 lo)).take (HT.sIx xs.length xs.length hi - HT.sIx xs.length 0 lo), Heap.get?_push_size _ rfl⟩
def flatV : V → Bool
  | .non => true
  | .bl _ => true
  | .int _ => true
  | .str _ => true
  | _ => false
def eqV : V → V → Bool
  | .non, .non => true
  | .bl a, .bl b => a == b
  | .bl a, .int b => (if a then 1 else 0) == b
  | .int a, .bl b => a == (if b then 1 else 0)
  | .int a, .int b => a == b
  | .str a, .str b => a == b
  | _, _ => false
def inV (x : V) (xs : List V) : Bool := xs.any fun y => eqV y x
def rIn (K : PySem.W.Frag) (neg : Bool) : R2 := fun x y H Q => ∃ p xs, y = .ref p ∧ (SqL K H p xs ∨ SqT K H p xs) ∧ flatV x = true ∧ xs.all flatV = true ∧ Q (.bl (if neg then !inV x xs else inV x xs)) H
theorem call_len_seq : CallR X (.builtin "len") (fun xs H Q => ∃ p ys, xs = [.ref p] ∧ (SqL X.K H p ys ∨ SqT X.K H p ys) ∧ Q (.int ys.length) H) := by
  intro pins s σ H xs us Q I r h
  obtain ⟨p, ys, rfl, hq, q⟩ := h
  obtain ⟨u, rfl, rx⟩ := vals1 r
  cases rx
  have hn := line63
  rcases hq with hq | hq
  · obtain ⟨its, r', pl, hz⟩ := I.list hq
    have hlen := r'.length
    exact Calls.call_len_list pl.isList (by simp only [List.size_toArray] <;> omega) ⟨.int ys.length, H, I.tok _, ⟨s.toks + 1, by rw [List.size_toArray, hlen]⟩, q⟩
  · obtain ⟨its, r', pl, hz⟩ := I.tuple hq
    have hlen := r'.length
    exact len_tuple pl (by simp only [List.size_toArray] <;> omega) ⟨.int ys.length, H, I.tok _, ⟨s.toks + 1, by rw [List.size_toArray, hlen]⟩, q⟩
theorem call_list_of : CallR X (.type "list") (fun xs H Q => ∃ p ys, xs = [.ref p] ∧ (SqL X.K H p ys ∨ SqT X.K H p ys) ∧ ∀ l, H l = none → Q (.ref l) (upd H l (.lst ys))) := by
  intro pins s σ H xs us Q I r h
  obtain ⟨p, ys, rfl, hq, q⟩ := h
  obtain ⟨u, rfl, rx⟩ := vals1 r
  cases rx
  have fin : ∀ (its : List Value), Vals ys its → ys.length ≤ sizeLine → ∀ (h' : Heap) (c' : Nat), (∀ b o', s.heap.get? b = some o' → h'.get? b = some o') →
      h'.get? s.heap.objs.size = some { cls := .type "list", dict := none, data := .seq its.toArray c', slots := #[] } → EP X pins σ Q (.ref s.heap.objs.size) { s with heap := h' } := fun its r' hz h' c' kp e =>
    ⟨.ref s.heap.objs.size, _, I.laid (t' := s.toks) kp (Nat.le_refl _) (show ObjOk X.prog X.w _ h' _ (.lst ys) from ⟨hz, its, c', r', e⟩), rfl, q _ (I.hok.fresh (Nat.le_refl _))⟩
  rcases hq with hq | hq
  · obtain ⟨its, r', pl, hz⟩ := I.list hq
    have hlen := r'.length
    obtain ⟨o, ho, hc, n, hd⟩ := pl.isList
    exact call_list_seq p (.inl rfl) ho hc hd (fun h' c' kp e => fin its r' hz h' c' kp e) (by simp only [List.size_toArray] <;> omega)
  · obtain ⟨its, r', pl, hz⟩ := I.tuple hq
    have hlen := r'.length
    obtain ⟨o, ho, hc, n, hd⟩ := pl
    exact call_list_seq p (.inr rfl) ho hc hd (fun h' c' kp e => fin its r' hz h' c' kp e) (by simp only [List.size_toArray] <;> omega)
theorem call_tuple_of : CallR X (.type "tuple") (fun xs H Q => ∃ p ys, xs = [.ref p] ∧ ((SqL X.K H p ys ∧ ∀ l, H l = none → Q (.ref l) (upd H l (.tup ys))) ∨ (SqT X.K H p ys ∧ Q (.ref p) H))) := by
  intro pins s σ H xs us Q I r h
  obtain ⟨p, ys, rfl, h⟩ := h
  obtain ⟨u, rfl, rx⟩ := vals1 r
  cases rx
  rcases h with ⟨hq, q⟩ | ⟨hq, q⟩
  · obtain ⟨its, r', pl, hz⟩ := I.list hq
    have hlen := r'.length
    refine call_tuple_list pl.isList (fun h' kp => ?_) (by simp only [List.size_toArray] <;> omega)
    have I1 : Inv X pins σ H { s with heap := h' } := I.kept (t' := s.toks) kp
    have I2 : Inv X pins σ (upd H h'.objs.size (.tup ys)) { s with heap := h'.push { cls := .type "tuple", data := .seq its.toArray } } :=
      I1.laid (t' := s.toks) (fun b o e => Heap.get?_push_of_some _ e) (Nat.le_refl _) (show ObjOk X.prog X.w _ _ _ (.tup ys) from ⟨hz, its, r', IsTup.new _ _⟩)
    exact ⟨.ref h'.objs.size, _, I2, rfl, q _ (I1.hok.fresh (Nat.le_refl _))⟩
  · obtain ⟨its, r', pl, hz⟩ := I.tuple hq
    exact call_tuple_same pl ⟨.ref p, H, I, rfl, q⟩
def tyV (K : PySem.W.Frag) (T : String) (x : V) (H : Hp) : Prop := match x with
  | .str _ => T = "str"
  | .int _ => T = "int"
  | .ref p => (T = "list" ∧ ∃ xs, SqL K H p xs) ∨ (T = "tuple" ∧ ∃ o, K.lookup p = some o ∧ o.cls = .type "tuple" ∧ o.dict = none) ∨
      (T = "dict" ∧ ((∃ kvs, H p = some (.dK kvs)) ∨ ∃ kvs, H p = some (.dT kvs))) ∨ (T = "set" ∧ ∃ S n, H p = some (.set S n))
  | _ => False
theorem tyV_is {pins : List (Addr × Obj)} {σ : St} {H : Hp} {s : Shared} {T : String} {x : V} {v : Value} (I : Inv X pins σ H s) (r : RelV x v) (ty : tyV X.K T x H) :
    s.TypeIs v T ∧ ∀ a, v = .ref a → ∃ ob, s.heap.get? a = some ob ∧ ob.dict = none := by
  cases x with
  | str z =>
    obtain ⟨t, rfl⟩ := r
    cases (show T = "str" from ty)
    exact ⟨typeIs_str s z t, fun _ e => nomatch e⟩
  | int i =>
    obtain ⟨t, rfl⟩ := r
    cases (show T = "int" from ty)
    exact ⟨typeIs_int s i t, fun _ e => nomatch e⟩
  | ref p =>
    cases r
    rcases ty with ⟨rfl, xs, hq⟩ | ⟨rfl, o, hk, hc, hd⟩ | ⟨rfl, hk⟩ | ⟨rfl, S, n, hk⟩
    · obtain ⟨its, _, pl, _⟩ := I.list hq
      refine ⟨pl.isList.typeIs, fun a e => ?_⟩
      cases e
      obtain ⟨o, n, e, c, hd, _⟩ := pl
      exact ⟨o, e, hd⟩
    · refine ⟨⟨o, I.kIn p o hk, hc⟩, fun a e => ?_⟩
      cases e
      exact ⟨o, I.kIn _ o hk, hd⟩
    · have z : ∃ o, s.heap.get? p = some o ∧ o.ExactDict := by
        rcases hk with ⟨kvs, hk⟩ | ⟨kvs, hk⟩
        · obtain ⟨_, _, _, _, o, _, _, e, ex, _⟩ := I.hok p _ hk
          exact ⟨o, e, ex⟩
        · obtain ⟨_, _, _, _, o, _, _, e, ex, _⟩ := I.hok p _ hk
          exact ⟨o, e, ex⟩
      obtain ⟨o, e, ex⟩ := z
      refine ⟨⟨o, e, ex.1⟩, fun a e2 => ?_⟩
      cases e2
      exact ⟨o, e, ex.2.1⟩
    · obtain ⟨o, _, _, _, e, ex, _⟩ := I.hok p _ hk
      refine ⟨⟨o, e, ex.1⟩, fun a e2 => ?_⟩
      cases e2
      exact ⟨o, e, ex.2.1⟩
  | _ => exact False.elim ty
def tBM0 (K : PySem.W.Frag) (T : String) (r : V → List V → Hp → VK → Prop) (to : TE) : TE := fun σ H Q => to σ H fun x H1 => tyV K T x H1 ∧ r x [] H1 Q
def tBM (K : PySem.W.Frag) (T : String) (r : V → List V → Hp → VK → Prop) (to : TE) (t : TA) : TE := fun σ H Q => to σ H fun x H1 => tyV K T x H1 ∧ t σ H1 fun xs H2 => r x xs H2 Q
variable {o e : Expr} {es : List Expr} {to : TE} {t : TA} {name : Str} {apos cpos : Pos} {T id : String} {r : V → List V → Hp → VK → Prop}
theorem pe_bm (pa : PlainAttrs T) (slot : Slot T name id) (hty : typeOf (.builtin id) = pure (.type "method_descriptor")) (hm : MtR X id r) (ho : PE X o to) (ha : PA X (e :: es) t)
    (hbase : attributeBase o name X.env (eval o X.env) = eval o X.env := by rfl)
    (hfew : ((backTo cpos (starEach (e :: es) X.env)).all (fun x => !x.1) && (backToKw cpos (keywordEach [] X.env)).all (fun x => x.1.isSome)
      && decide ((e :: es).length + ([] : List Keyword).length + (if ([] : List Keyword).isEmpty then 0 else 1) < 30)) = true := by rfl)
    (hline : (apos.endLine == cpos.line) = true := by rfl) (hs : starEach (e :: es) X.env = (false, eval e X.env) :: starEach es X.env := by rfl) (hplain : (backTo cpos (starEach es X.env)).any (·.1) = false := by rfl) :
    PE X (.Call (.Attribute o name apos) (e :: es) [] cpos) (tBM X.K T r to t) := by
  intro pins s σ H Q I h
  refine wpAny_Call_method_late hbase hfew hline rfl (thn (ho pins s σ H _ I h) fun v s1 ⟨x, H1, I1, r1, ty, q1⟩ => ?_)
  obtain ⟨h1, h2⟩ := tyV_is I1 r1 ty
  refine ⟨T, id, pa, slot, hty, h1, h2, ?_⟩
  have hA := ha cpos pins s1 σ H1 _ I1 q1
  rw [hs] at hA ⊢
  refine Calls.callWith_builtin (by show (false || (backTo cpos (starEach es X.env)).any (·.1)) = false; rw [hplain] <;> rfl) (Calls.evalArgs_plain ?_)
  exact thn hA fun us s2 ⟨vs, H2, I2, r2, q2⟩ => hm pins s2 σ H2 x vs v us Q I2 r1 r2 q2
end
end L2
namespace L2
open PySem PySem.Spec PyProof.Rows
def MtM (X : Cx) (id : String) (r : V → List V → Hp → VK → Prop) : Prop :=
  ∀ (pins : List (Addr × Obj)) (s : Shared) (σ : St) (H : Hp) (x : V) (xs : List V) (v : Value) (us : List Value) (Q : VK), Inv X pins σ H s → RelV x v → Vals xs us → r x xs H Q →
    wpAny (model X.prog X.w) X.A (call (.builtin id) (v :: us)) (EP X pins σ Q) X.xe s
theorem Vals.one : ∀ {x : V} {us : List Value}, Vals [x] us → ∃ u, us = [u] ∧ RelV x u
  | _, _, .cons r .nil => ⟨_, rfl, r⟩
theorem Vals.two : ∀ {x y : V} {us : List Value}, Vals [x, y] us → ∃ u v, us = [u, v] ∧ RelV x u ∧ RelV y v
  | _, _, _, .cons r (.cons q .nil) => ⟨_, _, rfl, r, q⟩
theorem Vals.zero : ∀ {us : List Value}, Vals [] us → us = []
  | _, .nil => rfl
theorem Vals.dropLast {xs : List V} {us : List Value} (h : Vals xs us) : Vals xs.dropLast us.dropLast := by
  induction h with
  | nil => exact .nil
  | cons r t ih =>
    cases t with
    | nil => exact .nil
    | cons q t' => exact .cons r ih
theorem Vals.eraseIdx : ∀ {xs : List V} {us : List Value} (i : Nat), Vals xs us → Vals (xs.eraseIdx i) (us.eraseIdx i)
  | _, _, _, .nil => .nil
  | _, _, 0, .cons _ t => t
  | _, _, i + 1, .cons r t => .cons r (Vals.eraseIdx i t)
theorem Vals.reverse {xs : List V} {us : List Value} (h : Vals xs us) : Vals xs.reverse us.reverse := by
  induction h with
  | nil => exact .nil
  | cons r t ih => rw [List.reverse_cons, List.reverse_cons]; exact Vals.append ih (.cons r .nil)
theorem Vals.rep {xs : List V} {us : List Value} (h : Vals xs us) : ∀ k : Nat, Vals (List.replicate k xs).flatten (List.replicate k us).flatten
  | 0 => .nil
  | k + 1 => by
    rw [List.replicate_succ, List.replicate_succ, List.flatten_cons, List.flatten_cons]
    exact Vals.append h (Vals.rep h k)
theorem foldl_rep (its : List Value) : ∀ (k : Nat) (acc : List Value),
    List.foldl (fun x1 x2 => x1 ++ x2) acc.toArray (List.replicate k its.toArray) = (acc ++ (List.replicate k its).flatten).toArray
  | 0, acc => by simp
  | k + 1, acc => by
    have e : acc.toArray ++ its.toArray = (acc ++ its).toArray := by simp
    have e2 : (acc ++ its) ++ (List.replicate k its).flatten = acc ++ (List.replicate (k + 1) its).flatten := by
      rw [List.replicate_succ, List.flatten_cons, List.append_assoc]
    rw [← e2, ← foldl_rep its k (acc ++ its), ← e, List.replicate_succ, List.foldl_cons]
section
variable {X : Cx} {pins : List (Addr × Obj)} {σ : St} {H : Hp} {s : Shared} {l b : Addr} {xs ys zs : List V}
theorem Inv.lset {its its' : List Value} {n : Nat} {f : Array Value → Array Value} {t' : Nat} (I : Inv X pins σ H s) (hH : H l = some (.lst xs))
    (e : s.heap.get? l = some { cls := .type "list", data := .seq its.toArray n }) (hf : f its.toArray = its'.toArray) (hv : Vals ys its') (hz : ys.length ≤ sizeLine) :
    Inv X pins σ (upd H l (.lst ys)) { s with heap := s.heap.update l (Obj.mapSeq f), toks := t' } := by
  have q := PySem.IsL.update e f
  rw [hf] at q
  refine I.write (x := l) (e := l) (by rw [hH]; exact trivial) (.inl rfl) (fun b' u hb hu => (Heap.get?_update_other s.heap (Obj.mapSeq f) (Ne.symm hb)).trans hu) ⟨_, q⟩ ?_
  exact ⟨hz, its', _, hv, q⟩
theorem Inv.lnew {its : List Value} {t' : Nat} (I : Inv X pins σ H s) (hv : Vals ys its) (hz : ys.length ≤ sizeLine) :
    Inv X pins σ (upd H s.heap.objs.size (.lst ys)) { s with heap := s.heap.push { cls := .type "list", data := .seq its.toArray }, toks := t' } :=
  I.laid (fun _ _ q => Heap.get?_push_of_some _ q) (Nat.le_refl _) ⟨hz, its, 0, hv, Heap.get?_push_size _ rfl⟩
theorem Inv.fresh (I : Inv X pins σ H s) : H s.heap.objs.size = none := I.hok.fresh (Nat.le_refl _)
theorem Inv.lstM (I : Inv X pins σ H s) (hH : H l = some (.lst xs)) : xs.length ≤ sizeLine ∧ ∃ (its : List Value) (n : Nat), Vals xs its ∧ xs.length = its.length ∧ s.heap.get? l = some { cls := .type "list", data := .seq its.toArray n } := by
  obtain ⟨z, its, n, r, e⟩ := I.hok l _ hH
  exact ⟨z, its, n, r, r.length, e⟩
theorem notLongL {n : Nat} (h : n ≤ sizeLine) : Builtin.List.listTooLong n = false := by
  unfold Builtin.List.listTooLong
  exact decide_eq_false (by omega)
end
section
variable {X : Cx}
def rAppend : V → List V → Hp → VK → Prop := fun x vs H Q => ∃ l xs y, x = .ref l ∧ vs = [y] ∧ H l = some (.lst xs) ∧ xs.length < sizeLine ∧ Q .non (upd H l (.lst (xs ++ [y])))
theorem mt_append : MtM X "list.append" rAppend := by
  intro pins s σ H x vs v us Q I rx rv h
  obtain ⟨l, xs, y, rfl, rfl, hH, hz, q⟩ := h
  cases rx
  obtain ⟨u, rfl, ru⟩ := rv.one
  obtain ⟨z, its, n, r, hl, e⟩ := I.lstM hH
  refine call_meets F.slot_list_append ⟨_, e, rfl⟩ F.entry_list_append (F.args_list_append_2 _ _) (PySem.list_append l its.toArray n u (by rw [List.size_toArray]; omega)) ⟨e, ?_⟩
  refine ⟨.non, _, I.lset (its' := its ++ [u]) hH e (by simp) (r.append (.cons ru .nil)) ?_, rfl, q⟩
  rw [List.length_append, List.length_singleton]
  omega
def rPop : V → List V → Hp → VK → Prop := fun x vs H Q => ∃ l xs y, x = .ref l ∧ vs = [] ∧ H l = some (.lst xs) ∧ xs[xs.length - 1]? = some y ∧ Q y (upd H l (.lst xs.dropLast))
def rPopAt : V → List V → Hp → VK → Prop := fun x vs H Q => ∃ l xs i k y, x = .ref l ∧ vs = [.int i] ∧ H l = some (.lst xs) ∧ -(2 ^ 63) ≤ i ∧ i < 2 ^ 63 ∧ seqIndex? i xs.length = some k ∧ xs[k]? = some y ∧ Q y (upd H l (.lst (xs.eraseIdx k)))
def rCat : R2 := fun x y H Q => ∃ l b xs zs, x = .ref l ∧ y = .ref b ∧ H l = some (.lst xs) ∧ H b = some (.lst zs) ∧ xs.length + zs.length ≤ sizeLine ∧ ∀ p, H p = none → Q (.ref p) (upd H p (.lst (xs ++ zs)))
theorem op_cat : OpR X (binaryOp .Add) rCat := by
  intro pins s σ H x y v u Q I rx ry h
  obtain ⟨l, b, xs, zs, rfl, rfl, hH, hB, hz, q⟩ := h
  cases rx
  cases ry
  obtain ⟨z, its, n, r, hl, e⟩ := I.lstM hH
  obtain ⟨z2, its2, n2, r2, hl2, e2⟩ := I.lstM hB
  refine PySem.P.add_list e e2 ?_ (by rw [List.size_toArray, List.size_toArray]; omega)
  have ea : its.toArray ++ its2.toArray = (its ++ its2).toArray := by simp
  rw [ea]
  exact ⟨.ref _, _, I.lnew (t' := s.toks) (r.append r2) (by rw [List.length_append]; omega), rfl, q _ I.fresh⟩
def rRep : R2 := fun x y H Q => ∃ l k xs, x = .ref l ∧ y = .int k ∧ H l = some (.lst xs) ∧ -(2 ^ 63) ≤ k ∧ k < 2 ^ 63 ∧ xs.length * k.toNat ≤ sizeLine ∧
  ∀ p, H p = none → Q (.ref p) (upd H p (.lst (List.replicate k.toNat xs).flatten))
theorem len_rep {α : Type} (xs : List α) (k : Nat) : (List.replicate k xs).flatten.length = k * xs.length := by
  induction k with
  | zero => simp
  | succ k ih => rw [List.replicate_succ, List.flatten_cons, List.length_append, ih, Nat.succ_mul, Nat.add_comm]
theorem op_rep : OpR X (binaryOp .Mult) rRep := by
  intro pins s σ H x y v u Q I rx ry h
  obtain ⟨l, k, xs, rfl, rfl, hH, h1, h2, hz, q⟩ := h
  cases rx
  obtain ⟨t, rfl⟩ := ry
  obtain ⟨z, its, n, r, hl, e⟩ := I.lstM hH
  have hlen : its.toArray.size * k.toNat ≤ sizeLine := by rw [List.size_toArray, ← hl]; exact hz
  have hcap : ¬ its.toArray.size * k.toNat > (2 ^ 63 - 1) / 8 := by
    have : (sizeLine : Nat) ≤ (2 ^ 63 - 1) / 8 := by decide
    omega
  have hfit : ¬ (!Builtin.List.listFitsIndex k) = true := by
    rw [fitsIndex_both h1 h2]
    exact Bool.false_ne_true
  have hlong : ¬ Builtin.List.listTooLong (its.toArray.size * k.toNat) = true := by
    rw [notLongL hlen]
    exact Bool.false_ne_true
  have hnew : List.foldl (fun x1 x2 => x1 ++ x2) #[] (List.replicate (if its.toArray.isEmpty = true then 0 else k.toNat) its.toArray) = (List.replicate k.toNat its).flatten.toArray := by
    have f0 : ∀ m : Nat, List.foldl (fun x1 x2 => x1 ++ x2) #[] (List.replicate m its.toArray) = (List.replicate m its).flatten.toArray := fun m => by
      have := foldl_rep its m []
      rw [List.nil_append] at this
      exact this
    rw [f0]
    cases its with
    | nil => simp
    | cons a r' => rw [if_neg (by simp)]
  refine wpAny_binaryOp_repeat_ref (T := "list") (U := "int") (by decide) ⟨_, e, rfl⟩ (fun s' => typeIs_int s' k t) noFill_list_mul F.fills_int_mul F.slot_int_rmul repeat_list F.slot_int_index.lookup
    (call_meets F.slot_int_rmul (typeIs_int s k t) F.entry_int_rmul (F.args_int_rmul_2 _ _) (int___rmul___int_list k t l its.toArray n)
      ⟨e, rfl, ⟨_, e, rfl⟩, call_meets F.slot_list_mul ⟨_, e, rfl⟩ F.entry_list_mul (F.args_list_mul_2 _ _) (AutoListH.list___mul___list_int_3 l its.toArray n k t hfit hcap hlong) ⟨e, ?_⟩⟩)
  rw [hnew]
  exact ⟨.ref _, _, I.lnew (t' := s.toks) (r.rep k.toNat) (by rw [len_rep, Nat.mul_comm]; exact hz), rfl, q _ I.fresh⟩
end
section
variable {prog : Program} {w : World} {A : Around} {E : Value → Shared → Prop} {s : Shared}
end
section
variable {X : Cx}
end
end L2
namespace Att
open PySem PySem.W PySem.Calls PyProof.Rows
theorem ints_of_wellAll {P : Params} {h : Heap} : ∀ (ns : List Int) (vs : List Value), WellAll P h vs (ns.map WData.int) → IntsAre vs ns := by
  intro ns
  induction ns with
  | nil =>
    intro vs w
    rw [List.map_nil] at w
    cases w
    exact .nil
  | cons n ns ih =>
    intro vs w
    rw [List.map_cons] at w
    cases w with
    | cons a b =>
      cases a
      exact .cons _ _ (ih _ b)
theorem script_of {l : OpenLaw} {n : Nat} (hn : l.most = some n) {P : Params} {h : Heap} {args : List WData} {vals : List Value}
    (hpre : l.row.toRowW.claim.pre args = true) (hwl : WellAll P h vals args) :
    ∃ a vs ns, vals = [Value.ref a] ∧ args = [WData.list (ns.map WData.int)] ∧ h.get? a = some { cls := .type "list", data := .seq vs.toArray } ∧ IntsAre vs ns ∧ ns.length ≤ n := by
  have hsh : WShape.hasAll [] args [.list .int] = true := (pre_splitW hpre).1
  have hc : l.pre.holds [] { args := args } = true := (pre_splitW hpre).2
  obtain ⟨d, r, rfl, h1, h2⟩ := hasAllW_cons hsh
  obtain rfl := hasAllW_nil h2
  obtain ⟨xs, rfl, h3⟩ := hasW_list h1
  obtain ⟨ns, rfl⟩ := items_int h3
  have hlen : ns.length ≤ n := by
    unfold OpenLaw.pre at hc
    have h4 : (WTm.not (.lt (.lit (.int (n : Int))) (.len (.arg 0)))).holds [] { args := [.list (ns.map .int)] } = true := by
      have h4 := (holds_andW hc).1
      rw [hn] at h4
      exact h4
    have h5 := condW_of h4 (w_not (w_lt w_lit (w_len_list (w_arg rfl))))
    rw [List.length_map] at h5
    refine Nat.le_of_not_lt fun q => ?_
    have q' : (n : Int) < ((ns.length : Nat) : Int) := by omega
    first
      | (rw [decide_eq_true q'] at h5; exact absurd h5 (by decide))
      | (simp at h5; omega)
  cases hwl with
  | cons w1 w2 =>
    cases w2
    cases w1 with
    | list ho hall => exact ⟨_, _, ns, rfl, rfl, ho, ints_of_wellAll ns _ hall, hlen⟩
theorem post_true (l : OpenLaw) (args : List WData) : l.row.toRowW.claim.post args (.bool true) args = true :=
  postW_of (r := l.row.toRowW) (X := (true == true))
    (show WShape.has [] (.bool true) .bool = true by first | rfl | decide | simp [WShape.has, WShape.arms, WShape.armsAll])
    (show (WTm.eq .res (.lit (.bool true))).value [] { args := args, res := some (.bool true), after := args } = some (.bool (true == true)) from w_eq_bool (w_res rfl) w_lit) rfl
section
variable {prog : Program} {w : World} {A : Around} {E : Value → Shared → Prop} {s : Shared} {K : Frag}
end
end Att
namespace L2
open PySem PySem.Spec PyProof.Rows
theorem vals_ints : ∀ {vs : List Value} {ns : List Int}, IntsAre vs ns → Vals (ns.map V.int) vs
  | _, _, .nil => .nil
  | _, _, .cons n t h => .cons ⟨t, rfl⟩ (vals_ints h)
def Only (H : Hp) : Prop := ∀ b, H b = none ∨ ∃ o xs, H b = some (.frz o (.lst xs))
theorem law_call {P : Program} {w : World} {K : PySem.W.Frag} {mg mb : Str → Option Value} {CX : CXT} {k : Nat} {fa a : Addr} {fd : FuncData} {x : Str} {sp : Sp} {s₁ : Shared} {vs : List Value} {ns : List Int}
    (KX : K.In s₁.heap) (hns : s₁.heap.Ns mainGlobals mg) (hb : s₁.heap.Ns builtinsNs mb) (hbb : ∀ x : Str, x ≠ "__name__" → mb x = bootBuiltins x) (hlim : s₁.heap.NoLimit) (hg : s₁.gens = #[])
    (ha : s₁.heap.get? a = some { cls := .type "list", data := .seq vs.toArray }) (hi : IntsAre vs ns) (hl : ns.length ≤ sizeLine) (hr : Room k callerA)
    (F : ∀ base : Heap, K.In base → base.Ns mainGlobals mg → FnOk P w K mg base CX k fa fd [x] sp) (hbind : ∀ (s : Shared) (u : Value), BindsTo s fd ⟨[u], []⟩ [(x, u)])
    (hsp : ∀ H : Hp, Only H → SqL K H a (ns.map V.int) → sp [.ref a] H (fun v _ => v = .bl true) fun _ _ _ => False)
    (hCX : ∀ H e s', CX [] H s₁ (fun _ _ _ => False) e s' → False) :
    codeAny (model P w) callerA (.call (.ref fa) ⟨[.ref a], []⟩) (fun r s' => r = .ok (.ret (.bool true)) ∧ OldK s₁.heap s'.heap ∧ s'.os = s₁.os ∧ AllBare s'.gens) s₁ := by
  have rv := vals_ints hi
  have lenV := hi.length
  have core : ∀ H : Hp, Only H → SqL K H a (ns.map V.int) → HOk P w H s₁.heap → (∀ b, H b ≠ none → b = a) → (H a ≠ none → K.lookup a = none) →
      codeAny (model P w) callerA (.call (.ref fa) ⟨[.ref a], []⟩) (fun r s' => r = .ok (.ret (.bool true)) ∧ OldK s₁.heap s'.heap ∧ s'.os = s₁.os ∧ AllBare s'.gens) s₁ := by
    intro H hO hS hok hA hK
    have base_of : ∀ {b : Addr} {o : Obj}, s₁.heap.get? b = some o → H b = none → (hidT s₁.heap H).get? b = some o := fun e n => hidT_get e n
    have noA : ∀ {b : Addr} {o : Obj} {es : Array DictEntry} {ep : Nat}, s₁.heap.get? b = some o → o.data = .dict es ep → H b = none := fun {b o es ep} e d => by
      cases q : H b with
      | none => rfl
      | some u =>
        have e' : b = a := hA b (by rw [q]; simp)
        subst e'
        rw [ha] at e; cases e
        have d' : Data.seq vs.toArray _ = Data.dict es ep := d
        cases d'
    have nsK : ∀ {b : Addr} {m : Str → Option Value}, s₁.heap.Ns b m → (hidT s₁.heap H).Ns b m := fun {b m} ⟨o, es, ep, e, d, r⟩ => ⟨o, es, ep, base_of e (noA e d), d, r⟩
    have hKb : K.In (hidT s₁.heap H) := fun b o e => base_of (KX b o e) (by
      cases q : H b with
      | none => rfl
      | some u =>
        have e' : b = a := hA b (by rw [q]; simp)
        subst e'
        rw [hK (by rw [q]; simp)] at e; cases e)
    have hM : Mod K mg (hidT s₁.heap H) := ⟨hKb, nsK hns, ⟨mb, nsK hb, hbb⟩, let ⟨mc, h1, h2⟩ := hlim; ⟨mc, nsK h1, h2⟩⟩
    have e0 : Env0 P w K mg (hidT s₁.heap H) callerA [] s₁ H := ⟨rfl, hM, fun b o e => of_hidT e, Nat.le_of_eq (hidT_size _ _), trivial, fun b hb => absurd (show b ∈ ([] : List Addr) from hb) (by simp), hok, .of_eq hg⟩
    refine codeAny_mono ((F _ hKb (nsK hns)).run callerA [] s₁ H ⟨[.ref a], []⟩ [.ref a] [.ref a] _ _ hr e0 (hbind s₁ (.ref a)) (.cons rfl .nil) (hsp H hO hS)) fun r s' h => ?_
    cases r with
    | error e => exact (hCX H e s' h).elim
    | ok fl =>
      cases fl with
      | next => exact False.elim h
      | brk => exact False.elim h
      | cont => exact False.elim h
      | ret u =>
        obtain ⟨v, H', os, bare, un, hok', r', q⟩ := h
        have q' : v = .bl true := q
        subst q'
        obtain rfl : u = Value.bool true := r'
        refine ⟨rfl, OldK.of_keep fun b o e => ?_, os, bare⟩
        cases q : H b with
        | none => exact un.keep b o e q (by intro z; exact absurd (show b ∈ ([] : List Addr) from z) (by simp)) (by simp)
        | some u =>
          rcases hO b with z | ⟨ob, xs, z⟩
          · rw [q] at z; cases z
          · have z2 := un.frzs b ob _ z
            obtain ⟨e1, _⟩ := hok b _ z
            obtain ⟨e2, _⟩ := hok' b _ z2
            rw [e] at e1; cases e1
            exact e2
  cases hk : K.lookup a with
  | some o =>
    have e := KX a o hk
    rw [ha] at e
    cases e
    refine core (fun _ => none) (fun _ => .inl rfl) (.inr ⟨_, vs.toArray, _, hk, rfl, rfl, rfl, by rw [List.size_toArray, lenV]; exact hl, by simpa using rv⟩) (fun b u z => by have z' : (none : Option HO) = some u := z; cases z') (fun b z => absurd rfl z) fun z => absurd rfl z
  | none =>
    refine core (fun b => if b = a then some (.frz { cls := .type "list", data := .seq vs.toArray } (.lst (ns.map V.int))) else none) (fun b => ?_) (.inl (.inr ⟨{ cls := .type "list", data := .seq vs.toArray }, if_pos rfl⟩)) (fun b u z => ?_) (fun b z => ?_) fun _ => hk
    · by_cases hb : b = a
      · exact .inr ⟨_, _, if_pos hb⟩
      · exact .inl (if_neg hb)
    · by_cases hb : b = a
      · have z' := (if_pos hb).symm.trans z
        cases z'
        subst hb
        exact ⟨ha, by rw [List.length_map]; exact hl, vs, _, rv, ha⟩
      · have z' := (if_neg hb).symm.trans z
        cases z'
    · by_cases hb : b = a
      · exact hb
      · exact absurd (if_neg hb) z
end L2
namespace L2
open PySem PySem.Spec PyProof.Rows
end L2
namespace L2
open PySem PySem.Spec PyProof.Rows
def inClass (s : Stmt) (j : Nat) : Stmt := match s with
  | .ClassDef _ _ _ body _ _ _ _ _ _ _ => body.getD j (.Pass ⟨0, 0, 0, 0⟩)
  | _ => .Pass ⟨0, 0, 0, 0⟩
def defArgs (s : Stmt) : Arguments := match s with
  | .FunctionDef _ a _ _ _ _ _ _ _ _ => a
  | _ => { posonlyargs := [], args := [], vararg := none, kwonlyargs := [], kw_defaults := [], kwarg := none, defaults := [] }
def defBody (s : Stmt) : List Stmt := match s with
  | .FunctionDef _ _ b _ _ _ _ _ _ _ => b
  | _ => []
def defScope (s : Stmt) : Scope := match s with
  | .FunctionDef _ _ _ _ _ _ sc _ _ _ => sc
  | _ => { kind := .function, names := [], isGenerator := false, isCoroutine := false }
abbrev CX0 : CXT := fun _ _ _ _ _ _ => False
abbrev E0 : XK := fun _ _ _ => False
theorem pass0 {X : Cx} : Passes CX0 X E0 := fun _ _ _ _ _ _ _ h => h.elim
structure Fun (K : PySem.W.Frag) (x qual : Str) (st : Stmt) (f : Addr) (fd : FuncData) : Prop where
  ex : ∃ (oc : Value) (od : Option Addr) (kV doc pm : Value) (an : Option Addr) (cdv ct : Value) (osl : Array (Option Value)),
    fd = PySem.W.fnOf x qual (defArgs st) (defBody st) (defScope st) .none kV doc pm an cdv ct ∧ K.lookup f = some ⟨oc, od, .func fd, osl⟩ ∧ PySem.W.codeIn K cdv qual = true
  kp : PySem.W.keepIn K (.ref f) = true
section
variable {P : Program} {w : World} {K : PySem.W.Frag} {mg : Str → Option Value} {base : Heap}
theorem Fun.ok {x qual : Str} {st : Stmt} {f : Addr} {fd : FuncData} {N ps : List Str} {k : Nat} {sp : Sp} (F : Fun K x qual st f fd) (S : FnScope N ps (defScope st)) (len : ∀ vs H Q E, sp vs H Q E → vs.length = ps.length)
    (hbody : ∀ (cdv : Value) (A : Around) (outer : List Env) (s : Shared) (H : Hp) (vs : List V) (Q : VK) (E : XK), Room k (A.deeper (envOfC qual (defScope st) s.heap.objs.size f cdv)) → sp vs H Q E →
      ∃ t, PSs (cxOf CX0 P w K mg base N qual (defScope st) f cdv A outer s H E).nox (defBody st) t ∧ t { nx := fun _ H' => Q .non H', rt := Q } (start N vs) H) : FnOk P w K mg base CX0 (k + 1) f fd ps sp := by
  obtain ⟨oc, od, kV, doc, pm, an, cdv, ct, osl, rfl, lk, hcd⟩ := F.ex
  refine fn_of lk hcd S len fun A outer s H vs Q E hr hsp => ?_
  obtain ⟨t, h, q⟩ := hbody cdv A outer s H vs Q E hr hsp
  exact ⟨t, h.nox, q⟩
theorem Fun.binds {x qual : Str} {st : Stmt} {f : Addr} {fd : FuncData} {ps : List Str} (F : Fun K x qual st f fd)
    (h : ∀ (kV doc pm : Value) (an : Option Addr) (cdv ct : Value) (us : List Value), us.length = ps.length → bindArgs (PySem.W.fnOf x qual (defArgs st) (defBody st) (defScope st) .none kV doc pm an cdv ct) ⟨us, []⟩ = pure (ps.zip us)) : Binds K fd ps [] := by
  obtain ⟨oc, od, kV, doc, pm, an, cdv, ct, osl, rfl, lk, hcd⟩ := F.ex
  exact .all (h kV doc pm an cdv ct)
theorem fun_mk {x qual : Str} {st : Stmt} {f : Addr} {oc : Value} {od an : Option Addr} {osl : Array (Option Value)} {kV doc pm cdv ct : Value} (l : K.lookup f = some ⟨oc, od, .func (PySem.W.fnOf x qual (defArgs st) (defBody st) (defScope st) .none kV doc pm an cdv ct), osl⟩)
    (c : PySem.W.codeIn K cdv qual = true) (k : PySem.W.keepIn K (.ref f) = true) : Fun K x qual st f (PySem.W.fnOf x qual (defArgs st) (defBody st) (defScope st) .none kV doc pm an cdv ct) := ⟨⟨oc, od, kV, doc, pm, an, cdv, ct, osl, rfl, l, c⟩, k⟩
end
section
variable {X : Cx}
theorem pv (i : Nat) {x : Str} {pos : Pos} (hN : X.N[i]? = some x := by rfl) (hv : Vis X.env.scope x := by first | exact Or.inl rfl | exact Or.inr (Or.inl rfl) | exact Or.inr (Or.inr rfl)) (hd : (x == ("__debug__" : Str)) = false := by decide)
    (hcd : (x == ("__classdict__" : Str)) = false := by decide) : PE X (.Name x pos) (tVar i) := pe_var hN hv hd hcd
end
def Same (H H' : Hp) : Prop := ∀ b o, H b = some o → H' b = some o
theorem Same.refl (H : Hp) : Same H H := fun _ _ h => h
theorem Same.trans {H H1 H2 : Hp} (a : Same H H1) (b : Same H1 H2) : Same H H2 := fun c o h => b c o (a c o h)
theorem Same.free {H H' : Hp} (e : Same H H') {l : Addr} (h : H' l = Option.none) : H l = Option.none := by
  cases q : H l with
  | none => rfl
  | some o =>
    rw [e l o q] at h
    cases h
theorem Same.seq {K : PySem.W.Frag} {H H' : Hp} {a : Addr} {xs : List V} (e : Same H H') (h : SqL K H a xs) : SqL K H' a xs := by
  rcases h with (h | ⟨o, h⟩) | h
  · exact .inl (.inl (e _ _ h))
  · exact .inl (.inr ⟨o, e _ _ h⟩)
  · exact .inr h
end L2
set_option Elab.async false
set_option linter.all false
set_option maxRecDepth 100000
namespace L2
open PySem PySem.Spec PyProof.Rows
section
variable {κ : Type} [DecidableEq κ]
def valV (kvs : List (κ × V)) (k : κ) : Option V := (kvs.find? fun kv => decide (kv.1 = k)).map (·.2)
def putK (kvs : List (κ × V)) (k : κ) (v : V) : List (κ × V) :=
  if (kvs.any fun kv => decide (kv.1 = k)) = true then kvs.map (fun kv => if kv.1 = k then (kv.1, v) else kv) else kvs ++ [(k, v)]
def dropK (kvs : List (κ × V)) (k : κ) : List (κ × V) := kvs.filter fun kv => decide (kv.1 ≠ k)
theorem valV_pos {p : κ × V} {r : List (κ × V)} {k : κ} (e : p.1 = k) : valV (p :: r) k = some p.2 := by simp [valV, List.find?_cons, e]
theorem valV_neg {p : κ × V} {r : List (κ × V)} {k : κ} (e : ¬ p.1 = k) : valV (p :: r) k = valV r k := by simp [valV, List.find?_cons, e]
theorem valV_any (k : κ) : ∀ kvs : List (κ × V), (kvs.any fun kv => decide (kv.1 = k)) = (valV kvs k).isSome
  | [] => rfl
  | p :: r => by
    rw [List.any_cons]
    by_cases e : p.1 = k
    · simp only [valV_pos e, decide_eq_true e, Bool.true_or, Option.isSome_some]
    · rw [valV_neg e, decide_eq_false e, Bool.false_or]; exact valV_any k r
theorem valV_map (k j : κ) (y : V) : ∀ kvs : List (κ × V), valV (kvs.map fun kv => if kv.1 = k then (kv.1, y) else kv) j = (valV kvs j).map fun x => if j = k then y else x
  | [] => rfl
  | p :: r => by
    have ih := valV_map k j y r
    rw [List.map_cons]
    by_cases h : p.1 = k
    · rw [if_pos h]
      by_cases e : p.1 = j
      · rw [valV_pos (p := (p.1, y)) e, valV_pos e, Option.map_some, if_pos (e.symm.trans h)]
      · rw [valV_neg (p := (p.1, y)) e, valV_neg e, ih]
    · rw [if_neg h]
      by_cases e : p.1 = j
      · rw [valV_pos (p := p) e, valV_pos e, Option.map_some, if_neg (fun z => h (e.trans z))]
      · rw [valV_neg (p := p) e, valV_neg e, ih]
theorem valV_snoc (k j : κ) (y : V) : ∀ kvs : List (κ × V), valV kvs k = none → valV (kvs ++ [(k, y)]) j = if j = k then some y else valV kvs j
  | [], _ => by
    by_cases e : k = j
    · rw [if_pos e.symm]; exact valV_pos (p := (k, y)) e
    · rw [if_neg (fun z => e z.symm)]; exact valV_neg (p := (k, y)) e
  | p :: r, hn => by
    rw [List.cons_append]
    have hk : ¬ p.1 = k := fun z => by rw [valV_pos z] at hn; cases hn
    rw [valV_neg hk] at hn
    have ih := valV_snoc k j y r hn
    by_cases e : p.1 = j
    · rw [valV_pos e, valV_pos e, if_neg (fun z => hk (e.trans z))]
    · rw [valV_neg e, valV_neg e, ih]
theorem valV_put (kvs : List (κ × V)) (k j : κ) (y : V) : valV (putK kvs k y) j = if j = k then some y else valV kvs j := by
  unfold putK
  by_cases a : (kvs.any fun kv => decide (kv.1 = k)) = true
  · rw [if_pos a, valV_map]
    rw [valV_any] at a
    by_cases e : j = k
    · obtain ⟨x, hx⟩ := Option.isSome_iff_exists.mp a
      rw [if_pos e, e, hx, Option.map_some, if_pos rfl]
    · rw [if_neg e]
      cases valV kvs j with
      | none => rfl
      | some x => rw [Option.map_some, if_neg e]
  · rw [if_neg a]
    refine valV_snoc k j y kvs ?_
    rw [valV_any] at a
    cases q : valV kvs k with
    | none => rfl
    | some x => rw [q] at a; exact (a rfl).elim
theorem length_putK (kvs : List (κ × V)) (k : κ) (v : V) : (putK kvs k v).length ≤ kvs.length + 1 := by
  unfold putK
  split
  · rw [List.length_map]; omega
  · rw [List.length_append, List.length_cons, List.length_nil]; omega
theorem RelO.isSome_eq {o : Option V} {u : Option Value} (r : RelO o u) : o.isSome = u.isSome := by
  cases o with
  | none => cases u with
    | none => rfl
    | some _ => exact (show False from r).elim
  | some _ => cases u with
    | none => exact (show False from r).elim
    | some _ => rfl
theorem RelO.getD {o : Option V} {u : Option Value} {d : V} {d' : Value} (r : RelO o u) (rd : RelV d d') : RelV (o.getD d) (u.getD d') := by
  cases o with
  | none => cases u with
    | none => exact rd
    | some _ => exact (show False from r).elim
  | some _ => cases u with
    | none => exact (show False from r).elim
    | some _ => exact r
theorem KV.val {kvs : List (κ × V)} {vs : List (κ × Value)} (r : KV kvs vs) (k : κ) : RelO (valV kvs k) (valueAt vs k) := by
  unfold KV at r
  induction r with
  | nil => exact True.intro
  | @cons p q ps qs h t ih =>
    obtain ⟨h1, h2⟩ := h
    by_cases e : p.1 = k
    · have e' : q.1 = k := h1.symm.trans e
      have b : valueAt (q :: qs) k = some q.2 := by simp [valueAt, List.find?_cons, e']
      rw [valV_pos e, b]; exact h2
    · have e' : ¬ q.1 = k := fun z => e (h1.trans z)
      have b : valueAt (q :: qs) k = valueAt qs k := by simp [valueAt, List.find?_cons, e']
      rw [valV_neg e, b]; exact ih
theorem KV.any {kvs : List (κ × V)} {vs : List (κ × Value)} (r : KV kvs vs) (k : κ) : (kvs.any fun kv => decide (kv.1 = k)) = vs.any fun kv => decide (kv.1 = k) := by
  unfold KV at r
  induction r with
  | nil => rfl
  | cons h t ih => rw [List.any_cons, List.any_cons, ih, h.1]
theorem KV.repl {kvs : List (κ × V)} {vs : List (κ × Value)} (r : KV kvs vs) (k : κ) {y : V} {u : Value} (ry : RelV y u) :
    KV (kvs.map fun kv => if kv.1 = k then (kv.1, y) else kv) (vs.map fun kv => if kv.1 = k then (kv.1, u) else kv) := by
  unfold KV at r ⊢
  induction r with
  | nil => exact .nil
  | @cons p q ps qs h t ih =>
    rw [List.map_cons, List.map_cons]
    refine .cons ?_ ih
    obtain ⟨h1, h2⟩ := h
    by_cases e : p.1 = k
    · rw [if_pos e, if_pos (h1.symm.trans e)]; exact ⟨h1, ry⟩
    · rw [if_neg e, if_neg (fun z => e (h1.trans z))]; exact ⟨h1, h2⟩
theorem KV.put {kvs : List (κ × V)} {vs : List (κ × Value)} (r : KV kvs vs) (k : κ) {y : V} {u : Value} (ry : RelV y u) : KV (putK kvs k y) (stored vs k u) := by
  unfold putK stored
  rw [r.any k]
  by_cases e : (vs.any fun kv => decide (kv.1 = k)) = true
  · rw [if_pos e, if_pos e]; exact r.repl k ry
  · rw [if_neg e, if_neg e]; exact Paired.snoc r ⟨rfl, ry⟩
theorem KV.drop {kvs : List (κ × V)} {vs : List (κ × Value)} (r : KV kvs vs) (k : κ) : KV (dropK kvs k) (without vs k) := by
  unfold KV at r ⊢
  unfold dropK without
  induction r with
  | nil => exact .nil
  | @cons p q ps qs h t ih =>
    obtain ⟨h1, h2⟩ := h
    rw [List.filter_cons, List.filter_cons]
    by_cases e : p.1 = k
    · have a : ¬ decide (p.1 ≠ k) = true := by simp [e]
      have b : ¬ decide (q.1 ≠ k) = true := by simp [h1.symm.trans e]
      rw [if_neg a, if_neg b]; exact ih
    · have e' : ¬ q.1 = k := fun z => e (h1.trans z)
      have a : decide (p.1 ≠ k) = true := by simp [e]
      have b : decide (q.1 ≠ k) = true := by simp [e']
      rw [if_pos a, if_pos b]; exact .cons ⟨h1, h2⟩ ih
theorem KV.length {kvs : List (κ × V)} {vs : List (κ × Value)} (r : KV kvs vs) : kvs.length = vs.length := Paired.length r
theorem dropK_le (kvs : List (κ × V)) (k : κ) : (dropK kvs k).length ≤ kvs.length := List.length_filter_le _ _
end
theorem kV_is {P : Program} {w : World} {k : Key} {u : Value} (r : RelV (kV k) u) : (mixKind P w).is k u = true := by
  cases k with
  | inl i => obtain ⟨t, e⟩ := (show ∃ t, u = Value.int i t from r); subst e; exact mixKind_int P w i t
  | inr x => obtain ⟨t, e⟩ := (show ∃ t, u = Value.str x t from r); subst e; exact mixKind_str P w x t
theorem items_are {P : Program} {w : World} : ∀ {ks : List Key} {us : List Value}, Vals (ks.map kV) us → ItemsAre (mixKind P w) ks us
  | [], _, r => by rw [List.map_nil] at r; cases r; exact .nil
  | k :: ks, _, r => by
    rw [List.map_cons] at r
    cases r with
    | cons h t => exact .cons (kV_is h) (items_are t)
abbrev KT (H : Hp) : List (List Key × V) → List (List Key × Addr × Value) → Prop := Paired fun p q => p.1 = q.1 ∧ H q.2.1 = some (.tup (p.1.map kV)) ∧ RelV p.2 q.2.2
theorem KT.val {H : Hp} {kvs : List (List Key × V)} {xs : List (List Key × Addr × Value)} (r : KT H kvs xs) (k : List Key) : RelO (valV kvs k) ((atKey xs k).map (·.2)) := by
  induction r with
  | nil => exact True.intro
  | @cons p q ps qs h t ih =>
    obtain ⟨h1, _, h2⟩ := h
    by_cases e : p.1 = k
    · have e' : q.1 = k := h1.symm.trans e
      have b : atKey (q :: qs) k = some q.2 := by simp [atKey, List.find?_cons, e']
      rw [valV_pos e, b]; exact h2
    · have e' : ¬ q.1 = k := fun z => e (h1.trans z)
      have b : atKey (q :: qs) k = atKey qs k := by simp [atKey, List.find?_cons, e']
      rw [valV_neg e, b]; exact ih
theorem KT.repl {H : Hp} {kvs : List (List Key × V)} {xs : List (List Key × Addr × Value)} (r : KT H kvs xs) (k : List Key) {y : V} {u : Value} (ry : RelV y u) :
    KT H (kvs.map fun kv => if kv.1 = k then (kv.1, y) else kv) (xs.map (putAt k u)) := by
  induction r with
  | nil => exact .nil
  | @cons p q ps qs h t ih =>
    rw [List.map_cons, List.map_cons]
    refine .cons ?_ ih
    obtain ⟨h1, h2, h3⟩ := h
    unfold putAt
    by_cases e : p.1 = k
    · rw [if_pos e, if_pos (h1.symm.trans e)]; exact ⟨h1, h2, ry⟩
    · rw [if_neg e, if_neg (fun z => e (h1.trans z))]; exact ⟨h1, h2, h3⟩
theorem KT.put {H : Hp} {kvs : List (List Key × V)} {xs : List (List Key × Addr × Value)} (r : KT H kvs xs) (k : List Key) {b : Addr} {y : V} {u : Value} (hb : H b = some (.tup (k.map kV))) (ry : RelV y u) :
    KT H (putK kvs k y) (storedH xs k b u) := by
  have e : (kvs.any fun kv => decide (kv.1 = k)) = (atKey xs k).isSome := by
    rw [valV_any, (r.val k).isSome_eq, Option.isSome_map]
  unfold putK storedH
  rw [e]
  by_cases q : (atKey xs k).isSome = true
  · rw [if_pos q, if_pos q]; exact r.repl k ry
  · rw [if_neg q, if_neg q]; exact Paired.snoc r ⟨rfl, hb, ry⟩
theorem KT.keeps {H H' : Hp} {kvs : List (List Key × V)} {xs : List (List Key × Addr × Value)} (r : KT H kvs xs) (ht : ∀ b ys, H b = some (.tup ys) → H' b = some (.tup ys)) : KT H' kvs xs :=
  Paired.mapP r fun _ _ z => ⟨z.1, ht _ _ z.2.1, z.2.2⟩
section
variable {P : Program} {w : World} {H : Hp} {h : Heap} {a : Addr}
theorem rd_of {u : HO} (ok : HOk P w H h) (e : Rd H a u) : ObjOk P w H h a u := e.ok ok
theorem dk_rd {kvs : List (Key × V)} (ok : HOk P w H h) (e : Rd H a (.dK kvs)) : kvs.length ≤ sizeLine ∧ (a == sysModules) = false ∧ ∃ vs, KV kvs vs ∧ h.DictOf (mixKind P w) a vs :=
  show ObjOk P w H h a (.dK kvs) from rd_of ok e
theorem dk_of {kvs : List (Key × V)} (ok : HOk P w H h) (e : H a = some (.dK kvs)) : kvs.length ≤ sizeLine ∧ (a == sysModules) = false ∧ ∃ vs, KV kvs vs ∧ h.DictOf (mixKind P w) a vs := dk_rd ok (.inl e)
theorem key_of {ks : List Key} (ok : HOk P w H h) (e : H a = some (.tup (ks.map kV))) : (tupleKind (mixKind P w)).is h ks a := by
  obtain ⟨_, its, r, o, h1, h2, n, h3⟩ := (show ObjOk P w H h a (.tup (ks.map kV)) from ok a _ e)
  exact ⟨o, its.toArray, n, h1, h2, h3, by simpa using items_are r⟩
theorem dt_rd {kvs : List (List Key × V)} (ok : HOk P w H h) (e : Rd H a (.dT kvs)) : kvs.length ≤ sizeLine ∧ (a == sysModules) = false ∧
    ∃ xs, KT H kvs xs ∧ h.DictOfH (tupleKind (mixKind P w)) a xs := by
  obtain ⟨z, y, xs, r, o, es, ep, h1, h2, h3, h4, h5⟩ := (show ObjOk P w H h a (.dT kvs) from rd_of ok e)
  refine ⟨z, y, xs, r, o, es, ep, h1, h2, h3, h4, fun x hx => ?_, h5⟩
  have all : ∀ {l : List (List Key × V)} {m : List (List Key × Addr × Value)}, KT H l m → ∀ x ∈ m, (tupleKind (mixKind P w)).is h x.1 x.2.1 := by
    intro l m q
    induction q with
    | nil => intro x hx; exact nomatch hx
    | @cons p q ps qs hq t ih =>
      intro x hx
      rcases List.mem_cons.mp hx with e | hx
      · subst e
        exact key_of ok (by rw [← hq.1]; exact hq.2.1)
      · exact ih x hx
  exact all r x hx
theorem dt_of {kvs : List (List Key × V)} (ok : HOk P w H h) (e : H a = some (.dT kvs)) : kvs.length ≤ sizeLine ∧ (a == sysModules) = false ∧
    ∃ xs, KT H kvs xs ∧ h.DictOfH (tupleKind (mixKind P w)) a xs := dt_rd ok (.inl e)
end
def DGet (H : Hp) (a : Addr) (y : V) (r : Option V) : Prop :=
  (∃ kvs k, Rd H a (.dK kvs) ∧ y = kV k ∧ r = valV kvs k) ∨ ∃ kvs k b, Rd H a (.dT kvs) ∧ y = .ref b ∧ H b = some (.tup (k.map kV)) ∧ r = valV kvs k
def DPut (H : Hp) (a : Addr) (y v : V) (H' : Hp) : Prop :=
  (∃ kvs k, H a = some (.dK kvs) ∧ y = kV k ∧ kvs.length < sizeLine ∧ H' = upd H a (.dK (putK kvs k v))) ∨
  ∃ kvs k b, H a = some (.dT kvs) ∧ y = .ref b ∧ H b = some (.tup (k.map kV)) ∧ kvs.length < sizeLine ∧ H' = upd H a (.dT (putK kvs k v))
theorem DGet.k {H : Hp} {a : Addr} {kvs : List (Key × V)} {k : Key} (e : H a = some (.dK kvs)) : DGet H a (kV k) (valV kvs k) := .inl ⟨kvs, k, .inl e, rfl, rfl⟩
theorem DGet.t {H : Hp} {a b : Addr} {kvs : List (List Key × V)} {k : List Key} (e : H a = some (.dT kvs)) (eb : H b = some (.tup (k.map kV))) : DGet H a (.ref b) (valV kvs k) := .inr ⟨kvs, k, b, .inl e, rfl, eb, rfl⟩
theorem DPut.k {H : Hp} {a : Addr} {kvs : List (Key × V)} {k : Key} {v : V} (e : H a = some (.dK kvs)) (hl : kvs.length < sizeLine) : DPut H a (kV k) v (upd H a (.dK (putK kvs k v))) := .inl ⟨kvs, k, e, rfl, hl, rfl⟩
theorem DPut.t {H : Hp} {a b : Addr} {kvs : List (List Key × V)} {k : List Key} {v : V} (e : H a = some (.dT kvs)) (eb : H b = some (.tup (k.map kV))) (hl : kvs.length < sizeLine) :
    DPut H a (.ref b) v (upd H a (.dT (putK kvs k v))) := .inr ⟨kvs, k, b, e, rfl, eb, hl, rfl⟩
section
variable {X : Cx} {pins : List (Addr × Obj)} {σ : St} {H : Hp} {s : Shared} {a : Addr} {y v : V} {u r : Value} {o : Option V} {A : Around} {E : Value → Shared → Prop}
theorem Inv.big (I : Inv X pins σ H s) : sysModules < s.heap.objs.size := by
  have h : mainGlobals < s.heap.objs.size := (I.mod.glob.keeps I.bk).lt
  exact Nat.lt_trans (by decide) h
theorem d_getItem {Q : Value → Shared → Prop} (hu : A.units + 1 < cLine) (I : Inv X pins σ H s) (g : DGet H a y (some v)) (ry : RelV y u) (h : ∀ w' s', Inv X pins σ H s' → RelV v w' → Q w' s') :
    wpAny (model X.prog X.w) A (getItem (.ref a) u) Q E s := by
  rcases g with ⟨kvs, k, e, ey, l⟩ | ⟨kvs, k, b, e, ey, eb, l⟩
  · subst ey
    obtain ⟨z, hd, vs, rel, dd⟩ := dk_rd I.hok e
    obtain ⟨w', hw, rw'⟩ := RelO.some_of (v := v) (o := valueAt vs k) (by rw [l]; exact rel.val k)
    exact wpAny_getItem_of (kV_is ry) dd.mapOf hw (h w' _ (I.tok _) rw')
  · subst ey
    cases (show u = Value.ref b from ry)
    obtain ⟨z, hd, xs, rel, dd⟩ := dt_rd I.hok e
    obtain ⟨w', hw, rw'⟩ := RelO.some_of (v := v) (o := (atKey xs k).map (·.2)) (by rw [l]; exact rel.val k)
    obtain ⟨p, hp, hp2⟩ := Option.map_eq_some_iff.mp hw
    refine wpAny_getItem_heap (tupleKind_room_in1 hu) (key_of I.hok eb) dd hp ?_
    rw [hp2]
    exact h w' _ (I.tok _) rw'
theorem d_in {Q : Value → Shared → Prop} (hu : A.units + 1 < cLine) (I : Inv X pins σ H s) (g : DGet H a y o) (ry : RelV y u) (h : ∀ s', Inv X pins σ H s' → Q (.bool o.isSome) s') :
    wpAny (model X.prog X.w) A (compareOp .In u (.ref a)) Q E s := by
  rcases g with ⟨kvs, k, e, ey, l⟩ | ⟨kvs, k, b, e, ey, eb, l⟩
  · subst ey
    obtain ⟨z, hd, vs, rel, dd⟩ := dk_rd I.hok e
    refine wpAny_in_of (kV_is ry) hd dd.mapOf ?_
    rw [← (rel.val k).isSome_eq, ← l]
    exact h _ (I.tok _)
  · subst ey
    cases (show u = Value.ref b from ry)
    obtain ⟨z, hd, xs, rel, dd⟩ := dt_rd I.hok e
    refine wpAny_in_heap (tupleKind_room_in1 hu) (key_of I.hok eb) hd dd ?_
    have q := (rel.val k).isSome_eq
    rw [Option.isSome_map] at q
    rw [← q, ← l]
    exact h _ (I.tok _)
theorem d_notIn {Q : Value → Shared → Prop} (hu : A.units + 1 < cLine) (I : Inv X pins σ H s) (g : DGet H a y o) (ry : RelV y u) (h : ∀ s', Inv X pins σ H s' → Q (.bool (!o.isSome)) s') :
    wpAny (model X.prog X.w) A (compareOp .NotIn u (.ref a)) Q E s := by
  rcases g with ⟨kvs, k, e, ey, l⟩ | ⟨kvs, k, b, e, ey, eb, l⟩
  · subst ey
    obtain ⟨z, hd, vs, rel, dd⟩ := dk_rd I.hok e
    refine wpAny_notIn_of (kV_is ry) hd dd.mapOf ?_
    rw [← (rel.val k).isSome_eq, ← l]
    exact h _ (I.tok _)
  · subst ey
    cases (show u = Value.ref b from ry)
    obtain ⟨z, hd, xs, rel, dd⟩ := dt_rd I.hok e
    refine wpAny_notIn_heap (tupleKind_room_in1 hu) (key_of I.hok eb) hd dd ?_
    have q := (rel.val k).isSome_eq
    rw [Option.isSome_map] at q
    rw [← q, ← l]
    exact h _ (I.tok _)
theorem d_write {h' : Heap} {t' : Nat} {ob : HO} (I : Inv X pins σ H s) (mu : Mut (H a)) (hs : Heap.SameBut a s.heap h') (he : ∃ q, h'.get? a = some q) (new : ObjOk X.prog X.w (upd H a ob) h' a ob) :
    Inv X pins σ (upd H a ob) { s with heap := h', toks := t' } :=
  I.write (x := a) (e := a) mu (.inl rfl) (fun b q hb z => (hs.2 b hb).trans z) he new
theorem dk_new {P : Program} {w : World} {H' : Hp} {h' : Heap} {kvs : List (Key × V)} {vs : List (Key × Value)} (z : kvs.length ≤ sizeLine) (hd : (a == sysModules) = false) (rel : KV kvs vs) (dd : h'.DictOf (mixKind P w) a vs) :
    ObjOk P w H' h' a (.dK kvs) := ⟨z, hd, vs, rel, dd⟩
theorem d_setItem {H' : Hp} {Q : Unit → Shared → Prop} (hu : A.units + 1 < cLine) (I : Inv X pins σ H s) (g : DPut H a y v H') (ry : RelV y u) (rv : RelV v r) (h : ∀ s', Inv X pins σ H' s' → Q () s') :
    wpAny (model X.prog X.w) A (setItem (.ref a) u r) Q E s := by
  rcases g with ⟨kvs, k, e, ey, l, eH⟩ | ⟨kvs, k, b, e, ey, eb, l, eH⟩
  · subst ey eH
    obtain ⟨z, hd, vs, rel, dd⟩ := dk_of I.hok e
    have hz : vs.length ≤ sizeLine := by rw [← rel.length]; exact z
    have hl : (putK kvs k v).length ≤ sizeLine := by have := length_putK kvs k v; omega
    refine wpAny_setItem_pairs (hsz := hz) (kV_is ry) dd fun h' dd' hs => h _ ?_
    have he : ∃ q, h'.get? a = some q := let ⟨q, _, _, hq, _⟩ := dd'; ⟨q, hq⟩
    exact d_write I (by rw [e]; exact True.intro) hs he (dk_new hl hd (rel.put k rv) dd')
  · subst ey eH
    cases (show u = Value.ref b from ry)
    obtain ⟨z, hd, xs, rel, dd⟩ := dt_of I.hok e
    have hz : xs.length ≤ sizeLine := by rw [← Paired.length rel]; exact z
    have hl : (putK kvs k v).length ≤ sizeLine := by have := length_putK kvs k v; omega
    refine wpAny_setItem_heap (hsz := hz) (tupleKind_room_in1 hu) (key_of I.hok eb) dd fun h' dd' hs => h _ ?_
    obtain ⟨q, es, ep, hq, h2, h3, h4, _, h5⟩ := dd'
    refine d_write I (by rw [e]; exact True.intro) hs ⟨q, hq⟩ ⟨hl, hd, _, (rel.put k eb rv).keeps fun c ys ec => ?_, q, es, ep, hq, h2, h3, h4, h5⟩
    rw [upd_ne (ne_of ec e (fun z => nomatch z))]
    exact ec
end
section
variable {X : Cx} {pins : List (Addr × Obj)} {σ : St} {H : Hp} {s : Shared} {a : Addr} {kvs : List (Key × V)} {k : Key} {u : Value} {A : Around} {E : Value → Shared → Prop}
theorem d_pop {v : V} {more : List Value} {Q : Value → Shared → Prop} (I : Inv X pins σ H s) (e : H a = some (.dK kvs)) (ry : RelV (kV k) u) (l : valV kvs k = some v) (hm : more = [] ∨ ∃ x, more = [x])
    (h : ∀ w' s', Inv X pins σ (upd H a (.dK (dropK kvs k))) s' → RelV v w' → Q w' s') : wpAny (model X.prog X.w) A (call (.builtin "dict.pop") (.ref a :: u :: more)) Q E s := by
  obtain ⟨z, hd, vs, rel, dd⟩ := dk_of I.hok e
  obtain ⟨w', hw, rw'⟩ := RelO.some_of (v := v) (o := valueAt vs k) (by rw [← l]; exact rel.val k)
  have hp : (keyPart u).isSome = true := by
    cases k with
    | inl i => obtain ⟨t, q⟩ := (show ∃ t, u = Value.int i t from ry); subst q; rfl
    | inr x => obtain ⟨t, q⟩ := (show ∃ t, u = Value.str x t from ry); subst q; rfl
  have ha : argsOk "dict.pop" ⟨.ref a :: u :: more, []⟩ := by
    rcases hm with q | ⟨x, q⟩
    · subst q; exact PySem.F.args_dict_pop_2 _ _
    · subst q; exact PySem.F.args_dict_pop_3 _ _ _
  refine call_meetsIn PySem.F.slot_dict_pop dd.typeIs PySem.F.entry_dict_pop ha (meets_dict_pop_there (mixKind X.prog X.w) a (kV_is ry) more hm hp)
    ⟨vs, w', dd, by rw [← rel.length]; exact z, hw, fun h' dd' hs => h w' _ ?_ rw'⟩
  have he : ∃ q, h'.get? a = some q := let ⟨q, _, _, hq, _⟩ := dd'; ⟨q, hq⟩
  exact d_write I (by rw [e]; exact True.intro) hs he (dk_new (Nat.le_trans (dropK_le kvs k) z) hd (rel.drop k) dd')
theorem d_len {Q : Value → Shared → Prop} (I : Inv X pins σ H s) (e : Rd H a (.dK kvs)) (h : ∀ t s', Inv X pins σ H s' → Q (.int kvs.length t) s') : wpAny (model X.prog X.w) A (call (.builtin "len") [.ref a]) Q E s := by
  obtain ⟨z, hd, vs, rel, dd⟩ := dk_rd I.hok e
  refine call_len_dict hd dd (by rw [← rel.length]; rw [sizeLine_eq] at z; omega) ?_
  rw [← rel.length]
  exact h _ _ (I.tok _)
end
def NoSl (i : Expr) : Prop := ∀ ov iv, subscripted i false ov iv = operate [ov, iv] (getItem ov iv)
theorem subD_of {prog : Program} {w : World} {A : Around} {E : Value → Shared → Prop} {s : Shared} {env : Env} {value slice : Expr} {pos : Pos} {T id : String} {Q : Value → Shared → Prop}
    (hl : typeLookup (.type T) "__getitem__" = pure (some (.builtin id))) (hs : NoSl slice)
    (h : wpAny (model prog w) A (eval value env) (fun o s₁ => wpAny (model prog w) A (eval slice env) (fun i s₂ => s₂.TypeIs o T ∧ wpAny (model prog w) A (getItem o i) Q E s₂) E s₁) E s) :
    wpAny (model prog w) A (eval (.Subscript value slice pos) env) Q E s := by
  refine Subscript_ (wpAny_mono h (fun o s₁ h₁ => wpAny_mono h₁ (fun i s₂ h₂ => ?_) fun _ _ x => x) fun _ _ x => x)
  obtain ⟨hT, h₂⟩ := h₂
  unfold subscriptTail
  refine wpAny_bind ?_
  rw [getitemInPython_of_ne hT.not_modules]
  refine wpAny_bind (wpAny_specialOf hT hl ?_)
  have fin : wpAny (model prog w) A (subscripted slice false o i) (fun r s₃ => wpAny (model prog w) A (letTemporaryGo value o r >>= fun _ => pure r) Q E s₃) E s₂ := by
    rw [hs o i]
    exact wpAny_operating (wpAny_mono h₂ (fun r s₃ h₃ => wpAny_bind (wpAny_letTemporaryGo (wpAny_pure h₃))) fun _ _ x => x)
  first
    | exact wpAny_pure (wpAny_bind fin)
    | exact wpAny_bind (wpAny_pure (wpAny_bind fin))
    | exact wpAny_bind fin
theorem dict_typeIs {X : Cx} {pins : List (Addr × Obj)} {σ : St} {H : Hp} {s : Shared} {a : Addr} {y : V} {o : Option V} (I : Inv X pins σ H s) (g : DGet H a y o) : s.TypeIs (.ref a) "dict" := by
  rcases g with ⟨kvs, k, e, _, _⟩ | ⟨kvs, k, b, e, _, _, _⟩
  · obtain ⟨_, _, vs, _, dd⟩ := dk_rd I.hok e
    exact dd.typeIs
  · obtain ⟨_, _, xs, _, dd⟩ := dt_rd I.hok e
    exact dd.typeIs
def tDGet (td ty : TE) : TE := fun σ H Q => td σ H fun x H1 => ty σ H1 fun y H2 => ∃ a v, x = .ref a ∧ DGet H2 a y (some v) ∧ Q v H2
def tDIn (ty td : TE) : TE := fun σ H Q => ty σ H fun y H1 => td σ H1 fun x H2 => ∃ a o, x = .ref a ∧ DGet H2 a y o ∧ Q (.bl o.isSome) H2
def tDNotIn (ty td : TE) : TE := fun σ H Q => ty σ H fun y H1 => td σ H1 fun x H2 => ∃ a o, x = .ref a ∧ DGet H2 a y o ∧ Q (.bl (!o.isSome)) H2
def sDPut (td ty tv : TE) : TS := fun D σ H => tv σ H fun v H1 => td σ H1 fun x H2 => ty σ H2 fun y H3 => ∃ a H4, x = .ref a ∧ DPut H3 a y v H4 ∧ D.nx σ H4
section
variable {X : Cx} {o i e value : Expr} {pos pos' tpos : Pos} {td ty tv : TE}
theorem pe_dget (hu : X.A.units + 1 < cLine) (ho : PE X o td) (hi : PE X i ty) (hs : NoSl i) : PE X (.Subscript o i pos) (tDGet td ty) := by
  intro pins s σ H Q I h
  refine subD_of PySem.F.slot_dict_getitem.lookup hs (thn (ho pins s σ H _ I h) fun u s1 ⟨x, H1, I1, rx, q1⟩ => thn (hi pins s1 σ H1 _ I1 q1) fun iv s2 ⟨y, H2, I2, ry, a, v, ex, g, q2⟩ => ?_)
  subst ex
  obtain rfl : u = Value.ref a := rx
  exact ⟨dict_typeIs I2 g, d_getItem hu I2 g ry fun w' s3 I3 rw' => ⟨v, H2, I3, rw', q2⟩⟩
theorem pc_din (hu : X.A.units + 1 < cLine) (hi : PE X i ty) (ho : PE X o td) : PC X .In i o (tDIn ty td) := by
  intro pins s σ H Q I h
  refine thn (hi pins s σ H _ I h) fun iv s1 ⟨y, H1, I1, ry, q1⟩ => thn (ho pins s1 σ H1 _ I1 q1) fun u s2 ⟨x, H2, I2, rx, a, ov, ex, g, q2⟩ => ?_
  subst ex
  obtain rfl : u = Value.ref a := rx
  exact d_in hu I2 g ry fun s3 I3 => ⟨.bl ov.isSome, H2, I3, rfl, q2⟩
theorem pc_dnotin (hu : X.A.units + 1 < cLine) (hi : PE X i ty) (ho : PE X o td) : PC X .NotIn i o (tDNotIn ty td) := by
  intro pins s σ H Q I h
  refine thn (hi pins s σ H _ I h) fun iv s1 ⟨y, H1, I1, ry, q1⟩ => thn (ho pins s1 σ H1 _ I1 q1) fun u s2 ⟨x, H2, I2, rx, a, ov, ex, g, q2⟩ => ?_
  subst ex
  obtain rfl : u = Value.ref a := rx
  exact d_notIn hu I2 g ry fun s3 I3 => ⟨.bl (!ov.isSome), H2, I3, rfl, q2⟩
theorem ps_dput (hu : X.A.units + 1 < cLine) (ho : PE X o td) (hi : PE X i ty) (hv : PE X value tv) (hs : swapsWith value (some (.Subscript o i pos')) pos.line X.env = pure false) :
    PS X (.Assign [.Subscript o i pos'] value pos) (sDPut td ty tv) := by
  intro pins s σ H D I h
  refine wpAny_Assign_Subscript (thn (hv pins s σ H _ I h) fun r s1 ⟨v, H1, I1, rv, q1⟩ => thn (ho pins s1 σ H1 _ I1 q1) fun u s2 ⟨x, H2, I2, rx, q2⟩ => thn (hi pins s2 σ H2 _ I2 q2) fun iv s3 ⟨y, H3, I3, ry, a, H4, ex, g, q3⟩ => ?_) hs
  subst ex
  obtain rfl : u = Value.ref a := rx
  exact d_setItem hu I3 g ry rv fun s4 I4 => ⟨σ, H4, I4, q3⟩
end
theorem dk_empty {P : Program} {w : World} {H : Hp} (h : Heap) (hb : sysModules < h.objs.size) : ObjOk P w H (h.push { cls := .type "dict", data := .dict #[] }) h.objs.size (.dK []) :=
  ⟨Nat.zero_le _, beq_eq_false_iff_ne.mpr (Ne.symm (Nat.ne_of_lt hb)), [], .nil, Heap.DictOf.new h⟩
def tDNewK : TE := fun _ H Q => ∀ p, H p = none → Q (.ref p) (upd H p (.dK []))
section
variable {X : Cx} {pos : Pos}
theorem pe_dnewK : PE X (.Dict [] [] pos) tDNewK := fun pins s σ H Q I h =>
  wpAny_Dict_empty ⟨.ref s.heap.objs.size, _, I.laid (a := s.heap.objs.size) (o := .dK []) (t' := s.toks) (fun _ _ q => Heap.get?_push_of_some _ q) (Nat.le_refl _) (dk_empty s.heap I.big), rfl, h _ (I.hok.fresh (Nat.le_refl _))⟩
end
structure M1 (X : Cx) (o : Expr) (m : Str) (apos : Pos) (e : Expr) (cpos : Pos) : Prop where
  base : attributeBase o m X.env (eval o X.env) = eval o X.env
  few : ((backTo cpos (starEach [e] X.env)).all (fun x => !x.1) && (backToKw cpos (keywordEach [] X.env)).all (fun x => x.1.isSome)
    && decide (([e] : List Expr).length + ([] : List Keyword).length + (if ([] : List Keyword).isEmpty then 0 else 1) < 30)) = true
  line : (apos.endLine == cpos.line) = true
  trees : backTo cpos (starEach [e] X.env) = [(false, eval e X.env)]
def IsD (H : Hp) (a : Addr) : Prop := (∃ kvs, Rd H a (.dK kvs)) ∨ ∃ kvs, Rd H a (.dT kvs)
theorem isD_at {X : Cx} {pins : List (Addr × Obj)} {σ : St} {H : Hp} {s : Shared} {a : Addr} (I : Inv X pins σ H s) (d : IsD H a) :
    s.TypeIs (.ref a) "dict" ∧ (∀ b, Value.ref a = .ref b → ∃ ob, s.heap.get? b = some ob ∧ ob.dict = none) ∧ (a == sysModules) = false := by
  rcases d with ⟨kvs, e⟩ | ⟨kvs, e⟩
  · obtain ⟨_, hd, vs, _, dd⟩ := dk_rd I.hok e
    refine ⟨dd.typeIs, fun b q => ?_, hd⟩
    cases q
    obtain ⟨ob, _, _, h1, h2, _⟩ := dd
    exact ⟨ob, h1, h2.2.1⟩
  · obtain ⟨_, hd, xs, _, dd⟩ := dt_rd I.hok e
    refine ⟨dd.typeIs, fun b q => ?_, hd⟩
    cases q
    obtain ⟨ob, _, _, h1, h2, _⟩ := dd
    exact ⟨ob, h1, h2.2.1⟩
section
variable {X : Cx} {pins : List (Addr × Obj)} {σ : St} {H : Hp} {s : Shared} {a : Addr} {y d : V} {u r : Value} {o : Option V} {A : Around} {E : Value → Shared → Prop}
theorem d_get1 {Q : Value → Shared → Prop} (hu : A.units + 1 < cLine) (I : Inv X pins σ H s) (g : DGet H a y o) (ry : RelV y u) (h : ∀ w' s', Inv X pins σ H s' → RelV (o.getD .non) w' → Q w' s') :
    wpAny (model X.prog X.w) A (call (.builtin "dict.get") [.ref a, u]) Q E s := by
  rcases g with ⟨kvs, k, e, ey, l⟩ | ⟨kvs, k, b, e, ey, eb, l⟩
  · subst ey
    obtain ⟨z, hd, vs, rel, dd⟩ := dk_rd I.hok e
    refine call_meetsIn PySem.F.slot_dict_get dd.typeIs PySem.F.entry_dict_get (PySem.F.args_dict_get_2 _ _) (meets_dict_get (mixKind X.prog X.w) a (kV_is ry) hd) ⟨_, dd.mapOf, h _ _ (I.tok _) ?_⟩
    rw [l]
    exact (rel.val k).getD rfl
  · subst ey
    cases (show u = Value.ref b from ry)
    obtain ⟨z, hd, xs, rel, dd⟩ := dt_rd I.hok e
    refine call_meetsIn PySem.F.slot_dict_get dd.typeIs PySem.F.entry_dict_get (PySem.F.args_dict_get_2 _ _) (meetsH_dict_get (tupleKind (mixKind X.prog X.w)) a b hd) ⟨tupleKind_room_in1 hu, k, xs, key_of I.hok eb, dd, h _ _ (I.tok _) ?_⟩
    rw [l]
    exact (rel.val k).getD rfl
end
def tDGet1 (td ty : TE) : TE := fun σ H Q => td σ H fun x H1 => ∃ a, x = .ref a ∧ IsD H1 a ∧ ty σ H1 fun y H2 => ∃ o, DGet H2 a y o ∧ Q (o.getD .non) H2
def tDPop1 (td ty : TE) : TE := fun σ H Q => td σ H fun x H1 => ∃ a, x = .ref a ∧ IsD H1 a ∧ ty σ H1 fun y H2 => ∃ kvs k v, H2 a = some (.dK kvs) ∧ y = kV k ∧ valV kvs k = some v ∧ Q v (upd H2 a (.dK (dropK kvs k)))
section
variable {X : Cx} {o e f : Expr} {apos cpos : Pos} {td ty tx : TE}
theorem pe_dget1 (hu : X.A.units + 1 < cLine) (ho : PE X o td) (he : PE X e ty) (m : M1 X o "get" apos e cpos) : PE X (.Call (.Attribute o "get" apos) [e] [] cpos) (tDGet1 td ty) := by
  intro pins s σ H Q I h
  refine wpAny_Call_method m.base m.few m.line PySem.F.plainAttrs_dict PySem.F.slot_dict_get PySem.F.type_dict_get (thn (ho pins s σ H _ I h) fun u s1 ⟨x, H1, I1, rx, a, ex, d, q1⟩ => ?_)
  subst ex
  obtain rfl : u = Value.ref a := rx
  obtain ⟨t1, t2, _⟩ := isD_at I1 d
  refine ⟨t1, t2, ?_⟩
  rw [m.trees]
  refine Calls.callWith_builtin rfl (Calls.evalArgs_plain (Calls.spliced_cons (thn (he pins s1 σ H1 _ I1 q1) fun iv s2 ⟨y, H2, I2, ry, ov, g, q2⟩ => Calls.spliced_nil ?_)))
  exact d_get1 hu I2 g ry fun w' s3 I3 rw' => ⟨_, H2, I3, rw', q2⟩
theorem pe_dpop1 (ho : PE X o td) (he : PE X e ty) (m : M1 X o "pop" apos e cpos) : PE X (.Call (.Attribute o "pop" apos) [e] [] cpos) (tDPop1 td ty) := by
  intro pins s σ H Q I h
  refine wpAny_Call_method m.base m.few m.line PySem.F.plainAttrs_dict PySem.F.slot_dict_pop PySem.F.type_dict_pop (thn (ho pins s σ H _ I h) fun u s1 ⟨x, H1, I1, rx, a, ex, d, q1⟩ => ?_)
  subst ex
  obtain rfl : u = Value.ref a := rx
  obtain ⟨t1, t2, _⟩ := isD_at I1 d
  refine ⟨t1, t2, ?_⟩
  rw [m.trees]
  refine Calls.callWith_builtin rfl (Calls.evalArgs_plain (Calls.spliced_cons (thn (he pins s1 σ H1 _ I1 q1) fun iv s2 ⟨y, H2, I2, ry, kvs, k, v, ea, ey, l, q2⟩ => Calls.spliced_nil ?_)))
  subst ey
  exact d_pop I2 ea ry l (.inl rfl) fun w' s3 I3 rw' => ⟨v, _, I3, rw', q2⟩
end
section
variable {X : Cx} {pins : List (Addr × Obj)} {σ : St} {H : Hp} {s : Shared} {a : Addr} {kvs : List (Key × V)} {A : Around} {E : Value → Shared → Prop}
end
section
variable {X : Cx} {pins : List (Addr × Obj)} {σ : St} {H : Hp} {s : Shared} {a : Addr} {y : V} {u : Value} {A : Around} {E : Value → Shared → Prop}
end
end L2
namespace L2
open PySem PySem.Spec PyProof.Rows
section
variable {X : Cx}
end
section
variable {κ : Type} [DecidableEq κ]
theorem valV_not {kvs : List (κ × V)} {k : κ} (h : valV kvs k = none) : ¬ k ∈ kvs.map (·.1) := by
  intro m
  obtain ⟨p, hp, e⟩ := List.mem_map.mp m
  have q : (kvs.any fun kv => decide (kv.1 = k)) = true := List.any_eq_true.mpr ⟨p, hp, decide_eq_true e⟩
  rw [valV_any, h] at q
  exact absurd q (by simp)
theorem nd_snoc : ∀ {l : List κ} {k : κ}, l.Nodup → ¬ k ∈ l → (l ++ [k]).Nodup
  | [], k, _, _ => by simp
  | a :: r, k, h, hk => by
    obtain ⟨h1, h2⟩ := List.nodup_cons.mp h
    show (a :: (r ++ [k])).Nodup
    refine List.nodup_cons.mpr ⟨fun m => ?_, nd_snoc h2 fun m => hk (List.mem_cons.mpr (Or.inr m))⟩
    rcases List.mem_append.mp m with q | q
    · exact h1 q
    · exact hk (List.mem_cons.mpr (Or.inl (List.mem_singleton.mp q).symm))
end
end L2
set_option Elab.async false
set_option linter.all false
set_option maxRecDepth 100000
namespace L2
open PySem PySem.Spec PyProof.Rows
def cxComp (X : Cx) (scope : Scope) (cl : List (Str × Addr)) (N : List Str) (C : Addr) (ex : List Addr) (s₀ : Shared) (H₀ : Hp) : Cx where
  prog := X.prog
  w := X.w
  K := X.K
  mg := X.mg
  base := X.base
  A := X.A
  N := N
  s₀ := s₀
  H₀ := H₀
  env := compEnvC scope cl C X.env
  outer := X.stack
  stack := X.stack
  ex := ex
  fn := fun _ => false
  calm := X.calm
  pn := X.pn
  xe := fun _ _ => False
theorem calm_comp {X : Cx} {scope : Scope} {cl : List (Str × Addr)} {N : List Str} {C : Addr} {ex : List Addr} {s₀ : Shared} {H₀ : Hp} (c : Calm X) : Calm (cxComp X scope cl N C ex s₀ H₀) := c
structure CompScope (X : Cx) (scope : Scope) (tn cn : List Str) (caps : List Nat) : Prop where
  kind : scope.kind = .function
  nocell : ∀ y ∈ scope.names, y.2 ≠ .cell
  names : ∀ y ∈ scope.names, y.2 = .local → scope.names.lookup y.1 = some .local
  caught : ∀ y ∈ scope.names, y.2 = .free → X.env.kindOf y.1 = some .cell ∨ X.env.kindOf y.1 = some .free
  free : ∀ y ∈ cn, scope.names.lookup y = some .free
  slots : caps.map (fun j => X.N[j]?) = cn.map some
theorem CompScope.of {X : Cx} {scope osc : Scope} {tn cn : List Str} {caps : List Nat} (ho : X.env.scope = osc) (kind : scope.kind = .function) (nocell : ∀ y ∈ scope.names, y.2 ≠ .cell)
    (names : ∀ y ∈ scope.names, y.2 = .local → scope.names.lookup y.1 = some .local) (caught : ∀ y ∈ scope.names, y.2 = .free → osc.names.lookup y.1 = some .cell ∨ osc.names.lookup y.1 = some .free) (free : ∀ y ∈ cn, scope.names.lookup y = some .free)
    (slots : caps.map (fun j => X.N[j]?) = cn.map some) : CompScope X scope tn cn caps :=
  ⟨kind, nocell, names, fun y hy hf => by show X.env.scope.names.lookup y.1 = _ ∨ X.env.scope.names.lookup y.1 = _; rw [ho]; exact caught y hy hf, free, slots⟩
def capσ (σ : St) (caps : List Nat) : St := caps.map fun j => (σ[j]?).getD none
theorem closureFor_acc (env : Env) : ∀ (names : List (Str × NameKind)) (cs : List (Str × Addr)), (∀ x ∈ names, x.2 = .free → ∃ c, env.cells.lookup x.1 = some c) → (∀ y c, cs.lookup y = some c → env.cells.lookup y = some c) →
    ∃ cl : List (Str × Addr), (forIn names cs fun (x : Str × NameKind) (r : List (Str × Addr)) => (if (x.2 == NameKind.free) = true then do let a ← cellOf env x.1; pure (ForInStep.yield ((x.1, a) :: r)) else pure (ForInStep.yield r) : Sem (ForInStep (List (Str × Addr))))) = pure cl ∧
      (∀ y c, cl.lookup y = some c → env.cells.lookup y = some c) ∧ (∀ x ∈ names, x.2 = .free → ∃ c, cl.lookup x.1 = some c) ∧ ∀ y c, cs.lookup y = some c → ∃ c', cl.lookup y = some c'
  | [], cs, _, h2 => ⟨cs, by simp, h2, fun x h => absurd h (by simp), fun y c h => ⟨c, h⟩⟩
  | (n, k) :: r, cs, h1, h2 => by
    by_cases hk : (k == NameKind.free) = true
    · obtain ⟨c, hc⟩ := h1 (n, k) List.mem_cons_self (by simpa using hk)
      have h2' : ∀ y d, ((n, c) :: cs).lookup y = some d → env.cells.lookup y = some d := fun y d h => by
        rw [List.lookup_cons] at h
        split at h
        · rename_i e
          have e' : y = n := by simpa using e
          cases h
          rw [e']; exact hc
        · exact h2 y d h
      obtain ⟨cl, e, p1, p2, p3⟩ := closureFor_acc env r ((n, c) :: cs) (fun x hx => h1 x (List.mem_cons_of_mem _ hx)) h2'
      refine ⟨cl, ?_, p1, fun x hx hf => ?_, fun y d h => ?_⟩
      · rw [List.forIn_cons]
        simp only [hk, if_true, cellOf, hc, pure_bind]
        exact e
      · rcases List.mem_cons.mp hx with e1 | e1
        · subst e1
          exact p3 n c (by rw [List.lookup_cons]; simp)
        · exact p2 x e1 hf
      · by_cases hy : (y == n) = true
        · exact p3 y c (by rw [List.lookup_cons, hy])
        · exact p3 y d (by rw [List.lookup_cons]; simp only [Bool.not_eq_true] at hy; rw [hy]; exact h)
    · obtain ⟨cl, e, p1, p2, p3⟩ := closureFor_acc env r cs (fun x hx => h1 x (List.mem_cons_of_mem _ hx)) h2
      refine ⟨cl, ?_, p1, fun x hx hf => ?_, p3⟩
      · rw [List.forIn_cons]
        simp only [hk, if_false, pure_bind, Bool.false_eq_true]
        exact e
      · rcases List.mem_cons.mp hx with e1 | e1
        · subst e1
          exact absurd (by simpa using hf) hk
        · exact p2 x e1 hf
theorem closureFor_some {scope : Scope} {env : Env} (h : ∀ x ∈ scope.names, x.2 = .free → ∃ c, env.cells.lookup x.1 = some c) :
    ∃ cl : List (Str × Addr), closureFor scope env = pure cl ∧ (∀ y c, cl.lookup y = some c → env.cells.lookup y = some c) ∧ ∀ x ∈ scope.names, x.2 = .free → ∃ c, cl.lookup x.1 = some c := by
  obtain ⟨cl, e, p1, p2, _⟩ := closureFor_acc env scope.names [] h (fun y c h => by simp at h)
  refine ⟨cl, ?_, p1, p2⟩
  unfold closureFor
  simp only [bind_pure]
  first
    | exact e
    | (rw [← e]; rfl)
    | (rw [← e]; congr 1; funext x r; obtain ⟨n, k⟩ := x; by_cases hk : (k == NameKind.free) = true <;> simp [hk])
theorem lookup_relabel_free {env : Env} : ∀ {names : List (Str × NameKind)} {x : Str}, names.lookup x = some .free →
    (names.map fun (n, k) => if (k == NameKind.free && env.scope.kind == .function && env.kindOf n == some .cell) then (n, NameKind.cell) else (n, k)).lookup x = some .cell ∨
    (names.map fun (n, k) => if (k == NameKind.free && env.scope.kind == .function && env.kindOf n == some .cell) then (n, NameKind.cell) else (n, k)).lookup x = some .free
  | [], _, h => by simp at h
  | (n, k) :: r, x, h => by
    have ih := @lookup_relabel_free env r x
    show List.lookup x ((if (k == NameKind.free && env.scope.kind == .function && env.kindOf n == some .cell) = true then (n, NameKind.cell) else (n, k)) :: _) = _ ∨ List.lookup x ((if (k == NameKind.free && env.scope.kind == .function && env.kindOf n == some .cell) = true then (n, NameKind.cell) else (n, k)) :: _) = _
    cases hx : x == n with
    | true =>
      simp only [List.lookup_cons, hx] at h
      cases h
      by_cases hc : (NameKind.free == NameKind.free && env.scope.kind == .function && env.kindOf n == some .cell) = true
      · rw [if_pos hc]; simp [List.lookup_cons, hx]
      · rw [if_neg hc]; simp [List.lookup_cons, hx]
    | false =>
      simp only [List.lookup_cons, hx] at h
      by_cases hc : (k == NameKind.free && env.scope.kind == .function && env.kindOf n == some .cell) = true
      · rw [if_pos hc]; simp only [List.lookup_cons, hx]; exact ih h
      · rw [if_neg hc]; simp only [List.lookup_cons, hx]; exact ih h
theorem relabel_inv {env : Env} : ∀ {names : List (Str × NameKind)} {x : Str}, (∀ y ∈ names, y.2 ≠ .cell) →
    ((names.map fun (n, k) => if (k == NameKind.free && env.scope.kind == .function && env.kindOf n == some .cell) then (n, NameKind.cell) else (n, k)).lookup x = some .cell ∨
    (names.map fun (n, k) => if (k == NameKind.free && env.scope.kind == .function && env.kindOf n == some .cell) then (n, NameKind.cell) else (n, k)).lookup x = some .free) → names.lookup x = some .free
  | [], _, _, h => by simp at h
  | (n, k) :: r, x, hn, h => by
    have ih := @relabel_inv env r x (fun y hy => hn y (List.mem_cons_of_mem _ hy))
    have h : List.lookup x ((if (k == NameKind.free && env.scope.kind == .function && env.kindOf n == some .cell) = true then (n, NameKind.cell) else (n, k)) :: _) = _ ∨ List.lookup x ((if (k == NameKind.free && env.scope.kind == .function && env.kindOf n == some .cell) = true then (n, NameKind.cell) else (n, k)) :: _) = _ := h
    cases hx : x == n with
    | true =>
      simp only [List.lookup_cons, hx]
      by_cases hc : (k == NameKind.free && env.scope.kind == .function && env.kindOf n == some .cell) = true
      · have : (k == NameKind.free) = true := by
          simp only [Bool.and_eq_true] at hc; exact hc.1.1
        have : k = .free := by simpa using this
        rw [this]
      · rw [if_neg hc] at h
        simp only [List.lookup_cons, hx] at h
        rcases h with h | h
        · exact absurd (Option.some.inj h) (hn (n, k) List.mem_cons_self)
        · rw [Option.some.inj h]
    | false =>
      simp only [List.lookup_cons, hx]
      by_cases hc : (k == NameKind.free && env.scope.kind == .function && env.kindOf n == some .cell) = true
      · rw [if_pos hc] at h; simp only [List.lookup_cons, hx] at h; exact ih h
      · rw [if_neg hc] at h; simp only [List.lookup_cons, hx] at h; exact ih h
section
variable {X : Cx} {scope : Scope} {tn cn : List Str} {caps : List Nat} {pins : List (Addr × Obj)} {σ : St} {H : Hp} {s : Shared} {fp : List Addr} {cl : List (Str × Addr)} {ob : Obj}
theorem comp_ok (S : CompScope X scope tn cn caps) (I : Inv X pins σ H s) (hcl : ∀ y c, cl.lookup y = some c → X.env.cells.lookup y = some c) (hcl2 : ∀ x ∈ scope.names, x.2 = .free → ∃ c, cl.lookup x.1 = some c)
    (hf : ∀ b ∈ fp, FpOk X pins H b) (hfp : ∀ b ∈ fp, b < s.heap.objs.size) (N : List Str) :
    (cxComp X scope cl N (s.heap.push ob).objs.size (s.heap.objs.size :: fp) { s with heap := s.heap.push ob } H).Ok := by
  have hC : (s.heap.push ob).objs.size = s.heap.objs.size + 1 := by rw [Heap.size_push]
  refine ⟨I.ok.mod, S.kind, I.ok.glob, I.ok.blt, Nat.le_refl _, fun x y c h1 h2 => I.ok.inj x y c (hcl x c h1) (hcl y c h2), fun x hx => ?_, fun x c h => absurd h (by simp [cxComp]), I.ok.hd, I.ok.frames, .inl rfl, fun b hb => ?_,
    fun b o e => ⟨Heap.get?_push_of_some _ (I.bs b o e).1, (I.bs b o e).2⟩, ?_, fun b o e hb => ?_, fun b hb z => ?_, ?_, I.stkFree⟩
  · exact hcl2 (x, .free) (PySem.mem_of_lookup (relabel_inv S.nocell hx)) rfl
  · rcases List.mem_cons.mp (show b ∈ s.heap.objs.size :: fp from hb) with e | hb
    · subst e
      refine ⟨fun z => ?_, fun x c e z => ?_⟩
      · have z' : s.heap.objs.size = (s.heap.push ob).objs.size := z
        omega
      · obtain ⟨v, q⟩ := I.cell x c (hcl x c e)
        exact absurd q.lt (by rw [z]; exact Nat.lt_irrefl _)
    · refine ⟨fun z => ?_, fun x c e => (hf b hb).2.2.2.2.1 x c (hcl x c e)⟩
      have z' : b = (s.heap.push ob).objs.size := z
      have h1 := hfp b hb
      rw [z', hC] at h1
      exact Nat.lt_irrefl _ (Nat.lt_of_succ_lt h1)
  · show X.base.objs.size ≤ (s.heap.push ob).objs.size
    have h1 := I.ok.bsz
    have h2 := I.sz
    omega
  · rcases List.mem_cons.mp (show b ∈ s.heap.objs.size :: fp from hb) with e1 | hb
    · subst e1
      exact absurd (Heap.lt_size (I.bk _ o e)) (Nat.lt_irrefl _)
    · rcases (hf b hb).2.2.2.1 with z | z
      · exact I.ok.noex b o e z
      · have h1 := I.ok.bsz
        have h2 := Heap.lt_size e
        exact Nat.lt_irrefl _ (Nat.lt_of_lt_of_le h2 (Nat.le_trans h1 z))
  · have z' := I.stkSub b z
    rcases List.mem_cons.mp (show b ∈ s.heap.objs.size :: fp from hb) with e1 | hb
    · subst e1
      rcases List.mem_cons.mp z' with z1 | z1
      · exact absurd I.lt (by rw [← z1]; exact Nat.lt_irrefl _)
      · exact I.nofs (Nat.le_refl _) z1
    · rcases List.mem_cons.mp z' with z1 | z1
      · exact (hf b hb).2.1 z1
      · exact (hf b hb).2.2.1 z1
  · exact I.stack.of_keeps fun b o e _ => ⟨o, Heap.get?_push_of_some _ e, rfl⟩
theorem comp_inv (S : CompScope X scope tn cn caps) (I : Inv X pins σ H s) (hcl : ∀ y c, cl.lookup y = some c → X.env.cells.lookup y = some c) (hcl2 : ∀ x ∈ scope.names, x.2 = .free → ∃ c, cl.lookup x.1 = some c)
    (hf : ∀ b ∈ fp, FpOk X pins H b) (hfp : ∀ b ∈ fp, b < s.heap.objs.size) (hob : ∀ v, ob.data ≠ .cell v) (hfr : ob.isFreed = false) {h1 : Heap} {m0 : Str → Option Value} {tk : Nat} (hn : h1.Ns (s.heap.push ob).objs.size m0)
    (hk : ∀ b o, (s.heap.push ob).get? b = some o → h1.get? b = some o) :
    Inv (cxComp X scope cl (tn ++ cn) (s.heap.push ob).objs.size (s.heap.objs.size :: fp) { s with heap := s.heap.push ob } H) (X.pn ++ pins ++ [(s.heap.objs.size, ob)]) (List.replicate tn.length none ++ capσ σ caps) H { s with heap := h1, toks := tk } := by
  have hC : (s.heap.push ob).objs.size = s.heap.objs.size + 1 := by rw [Heap.size_push]
  have hk' : ∀ b o, s.heap.get? b = some o → h1.get? b = some o := fun b o e => hk b o (Heap.get?_push_of_some _ e)
  have hlen : caps.length = cn.length := by have := congrArg List.length S.slots; simpa using this
  refine ⟨comp_ok S I hcl hcl2 hf hfp _, rfl, I.bare, Un.kept hk, ⟨m0, hn, fun i x v e1 e2 e3 => ?_⟩, fun x c e => ?_, I.hok.fresh (by rw [hC]; exact Nat.le_succ _), fun x c e => I.freeC x c (hcl x c e), fun p hp => ?_, I.hok.kept hk', ?_⟩
  · have e1 : (tn ++ cn)[i]? = some x := e1
    by_cases hi : i < tn.length
    · rw [List.getElem?_append_left (by simpa using hi), List.getElem?_replicate, if_pos hi] at e2
      cases e2
    · have hi' : tn.length ≤ i := Nat.le_of_not_lt hi
      rw [List.getElem?_append_right (by simpa using hi'), List.length_replicate] at e2
      rw [List.getElem?_append_right hi'] at e1
      have hx : x ∈ cn := List.mem_of_getElem? e1
      have hsl : (caps.map fun j => X.N[j]?)[i - tn.length]? = (cn.map some)[i - tn.length]? := by rw [S.slots]
      rw [List.getElem?_map, List.getElem?_map, e1] at hsl
      unfold capσ at e2
      rw [List.getElem?_map] at e2
      cases hj : caps[i - tn.length]? with
      | none => rw [hj] at e2; cases e2
      | some j =>
        rw [hj] at hsl e2
        have hN : X.N[j]? = some x := Option.some.inj hsl
        have e2 : (σ[j]?).getD none = some v := Option.some.inj e2
        have hσ : σ[j]? = some (some v) := by
          cases q : σ[j]? with
          | none => rw [q] at e2; cases e2
          | some y => rw [q] at e2; rw [← e2]; rfl
        have hkx := S.caught (x, .free) (PySem.mem_of_lookup (S.free x hx)) rfl
        obtain ⟨m, _, hl⟩ := I.loc
        obtain ⟨u, r, l⟩ := hl j x v hN hσ (by rcases hkx with z | z; exact .inr (.inl z); exact .inr (.inr z))
        refine ⟨u, r, ?_⟩
        rcases l with ⟨k, _⟩ | ⟨k, c, e, z⟩
        · rcases hkx with z | z
          · rw [show X.env.kindOf x = _ from k] at z; cases z
          · rw [show X.env.kindOf x = _ from k] at z; cases z
        · obtain ⟨c', ec⟩ := hcl2 (x, .free) (PySem.mem_of_lookup (S.free x hx)) rfl
          have e' := hcl x c' ec
          rw [e] at e'
          cases e'
          obtain ⟨oc, ho, hd⟩ := z
          exact .inr ⟨lookup_relabel_free (S.free x hx), c, ec, oc, hk' c oc ho, hd⟩
  · obtain ⟨v, oc, ho, hd⟩ := I.cell x c (hcl x c e)
    exact ⟨v, oc, hk' c oc ho, hd⟩
  · have hp : p ∈ X.pn ++ pins ++ [(s.heap.objs.size, ob)] := (List.mem_append.mp hp).elim (fun z => List.mem_append_left _ (List.mem_append_left _ z)) id
    rcases List.mem_append.mp hp with hp | hp
    · obtain ⟨e, n, ne, nf, d⟩ := I.pin p hp
      refine ⟨hk' _ _ e, n, fun z => ?_, fun z => ?_, d⟩
      · have z' : p.1 = (s.heap.push ob).objs.size := z
        have h1 := Heap.lt_size e
        rw [z', hC] at h1
        exact Nat.lt_irrefl _ (Nat.lt_of_succ_lt h1)
      · rcases List.mem_cons.mp (I.stkSub p.1 z) with z1 | z1
        · exact ne z1
        · exact nf z1
    · have e : p = (s.heap.objs.size, ob) := by simpa using hp
      subst e
      refine ⟨hk _ _ (Heap.get?_push_size _ hfr), I.hok.fresh (Nat.le_refl _), fun z => ?_, fun z => ?_, hob⟩
      · have z' : s.heap.objs.size = (s.heap.push ob).objs.size := z
        omega
      · rcases List.mem_cons.mp (I.stkSub s.heap.objs.size z) with z1 | z1
        · exact absurd I.lt (by rw [← z1]; exact Nat.lt_irrefl _)
        · exact I.nofs (Nat.le_refl _) z1
  · show (List.replicate tn.length none ++ capσ σ caps).length = (tn ++ cn).length
    unfold capσ
    simp [hlen]
theorem comp_fin {N : List Str} {σ0 : St} {H' : Hp} {s' : Shared} {C : Addr} {s3 : Shared} {its : List Value} {n : Nat} {ys : List V} (I : Inv X pins σ H s) (hf : ∀ b ∈ fp, FpOk X pins H b) (hfp : ∀ b ∈ fp, b < s.heap.objs.size) (hC : s.heap.objs.size < C)
    (hs3 : ∀ b o, s.heap.get? b = some o → s3.heap.get? b = some o) (hos : s3.os = s.os)
    (I' : Inv (cxComp X scope cl N C (s.heap.objs.size :: fp) s3 H) (X.pn ++ pins ++ [(s.heap.objs.size, { cls := .type "list", data := .seq its.toArray n })]) σ0 H' s') (rv : Vals ys its) (hz : ys.length ≤ sizeLine) :
    Inv X pins σ (upd H' s.heap.objs.size (.lst ys)) s' ∧ H' s.heap.objs.size = none ∧ FpOk X pins (upd H' s.heap.objs.size (.lst ys)) C ∧ ∃ m, s'.heap.Ns C m := by
  have pD := I'.pin (s.heap.objs.size, { cls := .type "list", data := .seq its.toArray n }) (by show _ ∈ X.pn ++ (X.pn ++ pins ++ [_]); simp)
  have hD : H' s.heap.objs.size = none := pD.2.1
  have base : Un (frs X.stack) (s.heap.objs.size :: fp) H H' s3.heap s'.heap := I'.base
  have old : ∀ b o, s.heap.get? b = some o → b ≠ s.heap.objs.size := fun b o e => Nat.ne_of_lt (Heap.lt_size e)
  have nex : ∀ b o, s.heap.get? b = some o → b ∉ fp → b ∉ s.heap.objs.size :: fp := fun b o e h z => by
    rcases List.mem_cons.mp z with z | z
    · exact old b o e z
    · exact h z
  have oldT : ∀ b u, H b = some u → b ≠ s.heap.objs.size := fun b u e => Nat.ne_of_lt (I.hok.lt e)
  refine ⟨I.call' (ch := fp) (I'.os.trans hos) ⟨fun b o e n hb hx => base.keep b o (hs3 b o e) n hb (nex b o e hx), fun b o e n hb hx => base.slot b o (hs3 b o e) n hb (nex b o e hx), fun b o e n hx => ?_, fun b o e hx => base.there b o (hs3 b o e) (nex b o e hx),
    fun b xs e => ?_, fun b o u e => ?_, fun b ps e => ?_⟩ (fun a o e => ?_) I'.bare fun b hb => ?_, hD, I.fpOk (Nat.le_of_lt hC) ?_, ?_⟩
  · rw [upd_ne (old b o e)]; exact base.free b o (hs3 b o e) n (nex b o e hx)
  · rw [upd_ne (oldT b _ e)]; exact base.tups b xs e
  · rw [upd_ne (oldT b _ e)]; exact base.frzs b o u e
  · rw [upd_ne (oldT b _ e)]; exact base.tbls b ps e
  · by_cases ha : a = s.heap.objs.size
    · subst ha
      rw [upd_same] at e
      cases e
      exact ⟨hz, its, n, rv, pD.1⟩
    · rw [upd_ne ha] at e
      exact (I'.hok a o e).stay (fun _ _ _ q => q) (fun c q => by rw [upd_ne (ne_of_none q hD)]; exact q) fun c xs q => by rw [upd_ne (ne_of_none q hD)]; exact q
  · have q := hf b hb
    exact ⟨q.2.2.2.1, q.2.1, q.2.2.2.2.1, q.2.2.2.2.2⟩
  · rw [upd_ne (Nat.ne_of_gt hC)]; exact I'.free
  · obtain ⟨m, hn, _⟩ := I'.loc
    exact ⟨m, hn⟩
end
def PTs (X : Cx) (ifs : List Expr) (t : TT) : Prop :=
  ∀ (pins : List (Addr × Obj)) (s : Shared) (σ : St) (H : Hp) (Q : Bool → Hp → Prop), Inv X pins σ H s → t σ H Q →
    wpAny (model X.prog X.w) X.A (forIn ifs true fun c r => if r = true then do let ok ← isTrue c X.env (eval c X.env); pure (ForInStep.yield ok) else pure (ForInStep.yield r)) (TP X pins σ Q) X.xe s
def tYes : TT := fun _ H Q => Q true H
theorem pts_nil {X : Cx} : PTs X [] tYes := fun _ _ _ H _ I h => wpAny_tests_nil ⟨H, I, h⟩
theorem pts_one {X : Cx} {c : Expr} {t : TT} (h : PT X c t) : PTs X [c] t := fun pins s σ H Q I hw => wpAny_tests_one (h pins s σ H Q I hw)
theorem compLoop_own {prog : Program} {w : World} {A : Around} {R : Result → Shared → Prop} {s : Shared} {elt target iter : Expr} {ifs : List Expr} {scope : Scope} {pos : Pos} {it acc : Value} {env : Env} (I : Nat → Shared → Prop)
    (turn : ∀ n s, I n s → wpAny (model prog w) A (pyNext it) (fun r s₁ => match r with
      | none => R (.ok .next) s₁
      | some v => wpAny (model prog w) A (letOwnedTupleGo target it v) (fun _ s₁' => wpAny (model prog w) A (assign target env v) (fun _ s₂ =>
          wpAny (model prog w) A (forIn ifs true fun c r => if r = true then do let ok ← isTrue c env (eval c env); pure (ForInStep.yield ok) else pure (ForInStep.yield r)) (fun ok s₃ =>
            if ok = true then wpAny (model prog w) A (eval elt env) (fun x s₄ =>
              wpAny (model prog w) A (call (.builtin "list.append") [acc, x]) (fun _ s₅ => ∃ m, m < n ∧ I m s₅) (fun _ _ => False) s₄) (fun _ _ => False) s₃
            else ∃ m, m < n ∧ I m s₃) (fun _ _ => False) s₂) (fun _ _ => False) s₁') (fun _ _ => False) s₁) (fun _ _ => False) s)
    (n : Nat) (h : I n s) :
    codeAny (model prog w) A (.compLoop (.ListComp elt [⟨target, iter, ifs, 0⟩] scope pos) 0 it acc env) R s := by
  refine codeAny_loop rfl I (fun n s hI => ?_) n h
  show wpAny _ A ((compTurn (.ListComp elt [⟨target, iter, ifs, 0⟩] scope pos) 0 it acc env).onRaise (fun x => do noteFrame x env; theTreesLotGoes x)) _ _ s
  refine wpAny_noted ?_
  rw [compTurn_list]
  refine wpAny_bind (wpAny_standAt (wpAny_bind (wpAny_mono (turn n s hI) (fun r s₁ h₁ => ?_) fun _ _ h' => h'.elim)))
  cases r with
  | none => exact wpAny_pure h₁
  | some v =>
    refine wpAny_bind (wpAny_mono h₁ (fun _ s₁' h₁' => ?_) fun _ _ h' => h'.elim)
    refine wpAny_bind (wpAny_mono h₁' (fun _ s₂ h₂ => wpAny_bind (wpAny_mono h₂ (fun ok s₃ h₃ => ?_) fun _ _ h' => h'.elim)) fun _ _ h' => h'.elim)
    cases ok with
    | false => exact wpAny_pure ⟨rfl, h₃⟩
    | true =>
      exact wpAny_bind (wpAny_bind (wpAny_mono h₃ (fun x s₄ h₄ => wpAny_bind (wpAny_mono h₄ (fun _ s₅ h₅ => wpAny_pure (wpAny_pure ⟨rfl, h₅⟩)) fun _ _ h' => h'.elim)) fun _ _ h' => h'.elim))
def CompW (J : It) (g : TG) (tt : TT) (te : TE) (σ0 : St) (W : Nat → Nat → List V → Hp → Prop) (F : List V → Hp → Prop) : Prop :=
  ∀ i m ys H, W i m ys H → (J.stop i H ∧ ys.length ≤ sizeLine ∧ F ys H) ∨ (J.go i H ∧ ∃ N : List V → Hp → Prop, (∀ ys' H', N ys' H' → ∃ m', m' < m ∧ W (i + 1) m' ys' H') ∧
    ∀ x H', J.yld i H x H' → g x σ0 H' fun σ2 H2 => (σ2.length = σ0.length ∧ ∀ (j : Nat) (v : V), σ0[j]? = some (some v) → σ2[j]? = some (some v)) ∧
      tt σ2 H2 fun b H3 => if b = true then te σ2 H3 fun y H4 => ys.length ≤ sizeLine ∧ N (ys ++ [y]) H4 else N ys H3)
section
variable {X : Cx} {scope : Scope} {tn cn : List Str} {caps : List Nat}
theorem comp_block {tg iter elt : Expr} {ifs : List Expr} {pos : Pos} {g : TG} {tt : TT} {te : TE} {pins : List (Addr × Obj)} {σ : St} {H : Hp} {s : Shared} {it : Addr} {fp : List Addr} {tnn : Nat → Heap → Prop} {J : It} {cl : List (Str × Addr)}
    {W : Nat → Nat → List V → Hp → Prop} {F : List V → Hp → Prop} {m0 : Nat} {E : Value → Shared → Prop} {RR : Value → Addr → Result → Shared → Prop}
    (S : CompScope X scope tn cn caps) (hc : Calm X) (hcl : ∀ y c, cl.lookup y = some c → X.env.cells.lookup y = some c) (hcl2 : ∀ x ∈ scope.names, x.2 = .free → ∃ c, cl.lookup x.1 = some c)
    (hg : ∀ C ex s₀ H₀, PG (cxComp X scope cl (tn ++ cn) C ex s₀ H₀) tg g) (ht : ∀ C ex s₀ H₀, PTs (cxComp X scope cl (tn ++ cn) C ex s₀ H₀) ifs tt) (he : ∀ C ex s₀ H₀, PE (cxComp X scope cl (tn ++ cn) C ex s₀ H₀) elt te)
    (I : Inv X pins σ H s) (T : Turn X.prog X.w X.K tg J fp it tnn) (st : tnn 0 s.heap) (hf : ∀ b ∈ fp, FpOk X pins H b) (hW : CompW J g tt te (List.replicate tn.length none ++ capσ σ caps) W F) (w0 : W 0 m0 [] H)
    (hRR : ∀ D C s' H' ys m, H' D = none → F ys H' → Inv X pins σ (upd H' D (.lst ys)) s' → FpOk X pins (upd H' D (.lst ys)) C → s'.heap.Ns C m → RR (.ref D) C (.ok .next) s') :
    wpAny (model X.prog X.w) X.A (newList []) (fun acc s₃ => wpAny (model X.prog X.w) X.A (newFunctionEnv scope X.env.globals cl [] X.env.qual none .none (some X.env)) (fun cenv s₄ =>
      codeAny (model X.prog X.w) X.A (.compStart (.ListComp elt [⟨tg, iter, ifs, 0⟩] scope pos) 0 (.ref it) acc { cenv with scope := relabel scope X.env }) (RR acc cenv.locals) s₄) E s₃) E s := by
  have hfp : ∀ b ∈ fp, b < s.heap.objs.size := fun b hb => let ⟨o, e, _⟩ := T.obj 0 s.heap st b hb; Heap.lt_size e
  refine wpAny_newObj_type (wpAny_newFunctionEnv S.nocell (by intro y hy; simp at hy) (fun h₁ hns₁ hsb₁ => ?_) S.kind)
  dsimp only at hns₁ hsb₁ ⊢
  have hk : ∀ b o, (s.heap.push { cls := .type "list", dict := none, data := .seq ([] : List Value).toArray }).get? b = some o → h₁.get? b = some o := fun b o e =>
    hsb₁.extBut b o (Nat.ne_of_lt (Heap.lt_size e)) (Heap.get?_push_of_some _ e)
  have I1 := comp_inv (tk := s.toks + ([] : List (Str × Value)).length) S I hcl hcl2 hf hfp (ob := { cls := .type "list", dict := none, data := .seq ([] : List Value).toArray }) (fun v z => by cases z) rfl hns₁ hk
  have hC : (s.heap.push { cls := .type "list", dict := none, data := .seq ([] : List Value).toArray }).objs.size = s.heap.objs.size + 1 := by rw [Heap.size_push]
  generalize hCe : (s.heap.push { cls := .type "list", dict := none, data := .seq ([] : List Value).toArray }).objs.size = C at *
  have st1 : tnn 0 h₁ := T.keep 0 _ _ st fun b hb o e => hk b o (Heap.get?_push_of_some _ e)
  have hE : ∀ b o, s.heap.get? b = some o → ({ s with heap := s.heap.push { cls := .type "list", dict := none, data := .seq ([] : List Value).toArray } } : Shared).heap.get? b = some o := fun b o e => Heap.get?_push_of_some _ e
  generalize hs3 : ({ s with heap := s.heap.push { cls := .type "list", dict := none, data := .seq ([] : List Value).toArray } } : Shared) = s3 at *
  have hos : s3.os = s.os := by rw [← hs3]
  have hfp0 : ∀ b ∈ fp, H b = none := fun b hb => (hf b hb).1
  have stat : ∀ {its : List Value} {n : Nat} {H' : Hp}, (∀ b ∈ fp, H' b = none) → ∀ b ∈ fp, FpOk (cxComp X scope cl (tn ++ cn) C (s.heap.objs.size :: fp) s3 H) (X.pn ++ pins ++ [(s.heap.objs.size, { cls := .type "list", data := .seq its.toArray n })]) H' b := fun {its n H'} hn b hb => by
    have q := hf b hb
    have hlt := hfp b hb
    refine ⟨hn b hb, fun z => ?_, fun z => ?_, .inl (List.mem_cons_of_mem _ hb), fun x c e => q.2.2.2.2.1 x c (hcl x c e), fun p hp z => ?_⟩
    · have z' : b = C := z
      rw [z', hC] at hlt
      exact Nat.lt_irrefl _ (Nat.lt_of_succ_lt hlt)
    · rcases List.mem_cons.mp (I.stkSub b z) with z1 | z1
      · exact q.2.1 z1
      · exact q.2.2.1 z1
    · have hp : p ∈ X.pn ++ pins ++ [(s.heap.objs.size, _)] := (List.mem_append.mp hp).elim (fun z => List.mem_append_left _ (List.mem_append_left _ z)) id
      rcases List.mem_append.mp hp with hp | hp
      · exact q.2.2.2.2.2 p hp z
      · have e := List.mem_singleton.mp hp
        rw [e] at z
        have z' : s.heap.objs.size = b := z
        rw [← z'] at hlt
        exact Nat.lt_irrefl _ hlt
  have loop : ∀ s₄ : Shared, s₄ = { s with heap := h₁, toks := s.toks + ([] : List (Str × Value)).length } →
      codeAny (model X.prog X.w) X.A (.compLoop (.ListComp elt [⟨tg, iter, ifs, 0⟩] scope pos) 0 (.ref it) (.ref s.heap.objs.size) (compEnvC scope cl C X.env)) (RR (.ref s.heap.objs.size) C) s₄ := by
    rintro s₄ rfl
    refine compLoop_own (fun n s' => ∃ i ys its k H', Inv (cxComp X scope cl (tn ++ cn) C (s.heap.objs.size :: fp) s3 H) (X.pn ++ pins ++ [(s.heap.objs.size, { cls := .type "list", data := .seq (List.toArray its) k })]) (List.replicate tn.length none ++ capσ σ caps) H' s' ∧
      tnn i s'.heap ∧ (∀ b ∈ fp, H' b = none) ∧ Vals ys its ∧ W i n ys H') ?_ m0 ⟨0, [], [], 0, H, I1, st1, hfp0, .nil, w0⟩
    rintro n s5 ⟨i, ys, its, k, H5, I5, st5, fr5, rv5, w5⟩
    rcases hW i n ys H5 w5 with ⟨stop, hz, f5⟩ | ⟨go, Nw, hNw, step⟩
    · refine wpAny_mono (T.done (cxComp X scope cl (tn ++ cn) C (s.heap.objs.size :: fp) s3 H) rfl rfl rfl (calm_comp hc) i _ s5 _ H5 (fun _ _ => False) I5 (stat fr5) st5 stop) (fun r s6 h6 => ?_) fun _ _ z => z
      obtain ⟨hr, I6⟩ := h6
      subst hr
      obtain ⟨J1, J2, J3, m, J4⟩ := comp_fin I hf hfp (by omega) hE hos I6 rv5 hz
      exact hRR _ _ _ _ _ m J2 f5 J1 J3 J4
    · refine wpAny_mono (T.item (cxComp X scope cl (tn ++ cn) C (s.heap.objs.size :: fp) s3 H) rfl rfl rfl (calm_comp hc) i _ s5 _ H5 (fun _ _ => False) I5 (stat fr5) st5 go) (fun r s6 h6 => ?_) fun _ _ z => z
      obtain ⟨u, hr, h6⟩ := h6
      subst hr
      refine wpAny_mono h6 (fun _ s7 h7 => ?_) fun _ _ z => z
      obtain ⟨x, H7, I7, r7, y7, st7, fr7⟩ := h7
      have I7' := I7.pinned (stat fr7) (T.obj _ _ st7)
      refine wpAny_mono (hg C (s.heap.objs.size :: fp) s3 H _ s7 _ H7 x u _ I7' r7 (step x H7 y7)) (fun _ s8 h8 => ?_) fun _ _ z => z
      obtain ⟨σ8, H8, I8, ⟨hl8, hk8⟩, q8⟩ := h8
      have back : ∀ {H9 : Hp} {s9 : Shared}, Inv (cxComp X scope cl (tn ++ cn) C (s.heap.objs.size :: fp) s3 H) (X.pn ++ pins ++ [(s.heap.objs.size, { cls := .type "list", data := .seq (List.toArray its) k })] ++ pinsAt fp s7.heap) σ8 H9 s9 →
          tnn (i + 1) s9.heap ∧ (∀ b ∈ fp, H9 b = none) := fun {H9 s9} I9 => by
        refine ⟨T.keep _ _ _ st7 fun b hb o e => (I9.pin (b, o) (List.mem_append_right _ (List.mem_append_right _ (mem_pinsAt hb e)))).1, fun b hb => ?_⟩
        obtain ⟨o, e, d⟩ := T.obj _ _ st7 b hb
        exact (I9.pin (b, o) (List.mem_append_right _ (List.mem_append_right _ (mem_pinsAt hb e)))).2.1
      refine wpAny_mono (ht C (s.heap.objs.size :: fp) s3 H _ s8 σ8 H8 _ I8 q8) (fun ok s9 h9 => ?_) fun _ _ z => z
      obtain ⟨H9, I9, q9⟩ := h9
      cases ok with
      | false =>
        rw [if_neg (by decide)] at q9 ⊢
        obtain ⟨m', hm, w9⟩ := hNw _ _ q9
        obtain ⟨b1, b2⟩ := back I9
        exact ⟨m', hm, i + 1, ys, its, k, H9, I9.unpinned.weak hl8.symm hk8, b1, b2, rv5, w9⟩
      | true =>
        rw [if_pos rfl] at q9 ⊢
        refine wpAny_mono (he C (s.heap.objs.size :: fp) s3 H _ s9 σ8 H9 _ I9 q9) (fun yv s10 h10 => ?_) fun _ _ z => z
        obtain ⟨y, H10, I10, r10, hz10, n10⟩ := h10
        obtain ⟨m', hm, w10⟩ := hNw _ _ n10
        obtain ⟨b1, b2⟩ := back I10
        have pD := I10.pin (s.heap.objs.size, { cls := .type "list", data := .seq (List.toArray its) k }) (List.mem_append_right _ (List.mem_append_left _ (List.mem_append_right _ (List.mem_singleton.mpr rfl))))
        refine wpAny_list_append_plain (hsz := by rw [List.size_toArray, ← rv5.length]; exact hz10) ⟨k, pD.1⟩ fun h11 hl11 hs11 => ?_
        obtain ⟨k', e11⟩ := hl11
        have I10' : Inv (cxComp X scope cl (tn ++ cn) C (s.heap.objs.size :: fp) s3 H) (X.pn ++ pins) σ8 H10 s10 := I10.pins_of fun p hp => I10.pin p (List.mem_append_right _ (List.mem_append_left _ (List.mem_append_left _ hp)))
        have I11 := I10'.turned (t' := s10.toks) (h' := h11) (it := s.heap.objs.size) (fun b o hb e => hs11.extBut b o hb e) pD.2.1 pD.2.2.1 (.inl List.mem_cons_self) (fun x c e z => ?_) (fun p hp z => ?_)
        · refine ⟨m', hm, i + 1, ys ++ [y], its ++ [yv], k', H10, ?_, ?_, b2, rv5.append (.cons r10 .nil), w10⟩
          · refine (I11.pins_of fun p hp => ?_).weak hl8.symm hk8
            rcases List.mem_append.mp hp with hp | hp
            · exact I11.pin p (List.mem_append_right _ hp)
            · have e := List.mem_singleton.mp hp
              subst e
              refine ⟨?_, pD.2.1, pD.2.2.1, pD.2.2.2.1, fun v z => by cases z⟩
              show h11.get? s.heap.objs.size = _
              rw [e11]
              simp
          · refine T.keep _ _ _ b1 fun b hb o e => hs11.extBut b o (fun z => ?_) e
            have h1 := hfp b hb
            rw [z] at h1
            exact Nat.lt_irrefl _ h1
        · obtain ⟨v, q⟩ := I.cell x c (hcl x c e)
          exact absurd q.lt (by rw [z]; exact Nat.lt_irrefl _)
        · have hp : p ∈ X.pn ++ pins := (List.mem_append.mp hp).elim (fun z => List.mem_append_left _ z) id
          exact absurd (Heap.lt_size (I.pin p hp).1) (by rw [z]; exact Nat.lt_irrefl _)
  exact codeAny_compStart_list (loop _ rfl) (T.self X.A 0 _ _ _ st1 (loop _ rfl))
def tComp (wi : TI) (k : Nat) (caps : List Nat) (g : TG) (tt : TT) (te : TE) : TE := fun σ H Q => wi σ H fun J H1 => ∃ W : Nat → Nat → List V → Hp → Prop, (∃ m, W 0 m [] H1) ∧
  CompW J g tt te (List.replicate k none ++ capσ σ caps) W fun ys H' => ∀ D, H' D = none → Q (.ref D) (upd H' D (.lst ys))
theorem pe_comp {tg iter elt : Expr} {ifs : List Expr} {pos : Pos} {wi : TI} {g : TG} {tt : TT} {te : TE} (S : CompScope X scope tn cn caps) (hc : Calm X) (hi : PI X tg iter wi)
    (hg : ∀ cl C ex s₀ H₀, PG (cxComp X scope cl (tn ++ cn) C ex s₀ H₀) tg g) (ht : ∀ cl C ex s₀ H₀, PTs (cxComp X scope cl (tn ++ cn) C ex s₀ H₀) ifs tt) (he : ∀ cl C ex s₀ H₀, PE (cxComp X scope cl (tn ++ cn) C ex s₀ H₀) elt te)
    (hs : ∀ x, foldedSetIterable iter X.env x = pure x := by intro _; rfl) : PE X (.ListComp elt [⟨tg, iter, ifs, 0⟩] scope pos) (tComp wi tn.length caps g tt te) := by
  intro pins s σ H Q I h
  obtain ⟨cl, hcl0, hcl, hcl2⟩ := closureFor_some (scope := scope) (env := X.env) fun x hx hf => I.ok.has x.1 (S.caught x hx hf)
  rw [eval_ListComp]
  refine wpAny_comprehension_free (use := none) rfl hs hcl0 S.kind S.names (thn (hi pins s σ H _ I h) fun v s1 h1 => thn h1 fun itv s2 h2 => ?_)
  obtain ⟨it, fp, tnn, J, H2, e, I2, T, st2, f2, W, ⟨m0, w0⟩, turn⟩ := h2
  subst e
  refine comp_block (RR := fun acc C => compPost (model X.prog X.w) X.A X.xe none (EP X pins σ Q) acc C) S hc hcl hcl2 (hg cl) (ht cl) (he cl) I2 T st2 f2 turn w0 ?_
  intro D C s' H' ys m hD f I' fC hn
  refine ⟨m, hn, fun h' hs' => ?_⟩
  have I'' := I'.turned (t' := s'.toks) (h' := h') (it := C) (fun b o hb e => hs'.extBut b o hb e) fC.1 fC.2.1 fC.2.2.2.1 fC.2.2.2.2.1 fC.2.2.2.2.2
  exact ⟨.ref D, _, I'', rfl, f D hD⟩
def sComp (i : Nat) (wi : TI) (k : Nat) (caps : List Nat) (g : TG) (tt : TT) (te : TE) : TS := fun D σ H => wi σ H fun J H1 => ∃ W : Nat → Nat → List V → Hp → Prop, (∃ m, W 0 m [] H1) ∧
  CompW J g tt te (List.replicate k none ++ capσ σ caps) W fun ys H' => ∀ p, H' p = none → D.nx (σ.set i (some (.ref p))) (upd H' p (.lst ys))
end
structure SrcIs (J : It) (H : Hp) (xs : List V) : Prop where
  go : ∀ i, i < xs.length → J.go i H
  yld : ∀ i x H', i < xs.length → J.yld i H x H' → H' = H ∧ xs[i]? = some x
  stop : J.stop xs.length H
theorem src_list {K : PySem.W.Frag} {H : Hp} {a : Addr} {xs : List V} (h : SqL K H a xs) : SrcIs (Itl K a) H xs :=
  ⟨fun i hi => ⟨xs, xs[i], h, by simp [hi]⟩, fun i x H' _ y => ⟨y.1, y.2 xs h⟩, ⟨xs, h, Nat.le_refl _⟩⟩
theorem keeps_name {x : V} {cs : St} : ((some x :: cs : St).length = (none :: cs : St).length) ∧ ∀ (j : Nat) (v : V), (none :: cs : St)[j]? = some (some v) → (some x :: cs : St)[j]? = some (some v) := by
  refine ⟨by simp, fun j v h => ?_⟩
  cases j with
  | zero => simp at h
  | succ j => simpa using h
theorem comp_pure {J : It} {H : Hp} {xs : List V} {tt : TT} {te : TE} {cs : St} {F : List V → Hp → Prop} (S : SrcIs J H xs) (p : V → Bool) (f : V → V) (htt : ∀ x ∈ xs, ∀ Q : Bool → Hp → Prop, Q (p x) H → tt (some x :: cs) H Q)
    (hte : ∀ x ∈ xs, p x = true → ∀ Q : VK, Q (f x) H → te (some x :: cs) H Q) (hn : xs.length ≤ sizeLine) (hF : F ((xs.filter p).map f) H) :
    ∃ W : Nat → Nat → List V → Hp → Prop, (∃ m, W 0 m [] H) ∧ CompW J (gName 0) tt te (none :: cs) W F := by
  refine ⟨fun i m ys H' => m = xs.length - i ∧ i ≤ xs.length ∧ H' = H ∧ ys = ((xs.take i).filter p).map f, ⟨xs.length, by simp, Nat.zero_le _, rfl, by simp⟩, ?_⟩
  rintro i m ys H' ⟨rfl, hi, rfl, rfl⟩
  have hlen : (((xs.take i).filter p).map f).length ≤ sizeLine := by
    rw [List.length_map]
    refine Nat.le_trans (List.length_filter_le _ _) ?_
    rw [List.length_take]
    omega
  by_cases hlt : i < xs.length
  · refine .inr ⟨S.go i hlt, fun ys' H'' => H'' = H' ∧ ys' = ((xs.take (i + 1)).filter p).map f, fun ys' H'' h => ⟨xs.length - (i + 1), by omega, rfl, hlt, h.1, h.2⟩, fun x H'' y => ?_⟩
    obtain ⟨rfl, hx⟩ := S.yld i x H'' hlt y
    have hm : x ∈ xs := List.mem_of_getElem? hx
    have htk : xs.take (i + 1) = xs.take i ++ [x] := by
      rw [List.take_add_one, hx]; rfl
    show _ ∧ _
    refine ⟨keeps_name, ?_⟩
    refine htt x hm _ ?_
    cases hp : p x with
    | true =>
      rw [if_pos rfl]
      refine hte x hm hp _ ⟨hlen, rfl, ?_⟩
      rw [htk, List.filter_append, List.map_append]
      simp [hp]
    | false =>
      rw [if_neg (by decide)]
      refine ⟨rfl, ?_⟩
      rw [htk, List.filter_append, List.map_append]
      simp [hp]
  · have e : i = xs.length := by omega
    subst e
    refine .inl ⟨S.stop, hlen, ?_⟩
    rw [List.take_length]
    exact hF
theorem cxK {CX : CXT} {P : Program} {w : World} {K : PySem.W.Frag} {mg : Str → Option Value} {base : Heap} {N : List Str} {qual : Str} {scope : Scope} {f : Addr} {cd : Value} {A : Around} {outer : List Env} {s : Shared} {H : Hp} {E : XK} : (cxOf CX P w K mg base N qual scope f cd A outer s H E).K = K := rfl
theorem cxA {CX : CXT} {P : Program} {w : World} {K : PySem.W.Frag} {mg : Str → Option Value} {base : Heap} {N : List Str} {qual : Str} {scope : Scope} {f : Addr} {cd : Value} {A : Around} {outer : List Env} {s : Shared} {H : Hp} {E : XK} : (cxOf CX P w K mg base N qual scope f cd A outer s H E).A = A.deeper (envOfC qual scope s.heap.objs.size f cd) := rfl
theorem cxKc {X : Cx} {scope : Scope} {cl : List (Str × Addr)} {N : List Str} {C : Addr} {ex : List Addr} {s₀ : Shared} {H₀ : Hp} : (cxComp X scope cl N C ex s₀ H₀).K = X.K := rfl
theorem cxAc {X : Cx} {scope : Scope} {cl : List (Str × Addr)} {N : List Str} {C : Addr} {ex : List Addr} {s₀ : Shared} {H₀ : Hp} : (cxComp X scope cl N C ex s₀ H₀).A = X.A := rfl
end L2
set_option Elab.async false
set_option linter.all false
set_option maxRecDepth 100000
namespace L2
open PySem PySem.Spec PyProof.Rows
def chr1 (c : Nat) : V := .str ⟨#[c]⟩
def Its (x : Str) : It := ⟨fun i _ => i < x.cps.size, fun i H v H' => H' = H ∧ ∃ c, x.cps[i]? = some c ∧ v = chr1 c, fun i _ => x.cps.size ≤ i⟩
def iStr (tl : TE) : TI := fun σ H R => tl σ H fun v H1 => ∃ x, v = .str x ∧ R (Its x) H1
section
variable {X : Cx}
def tSlS (te : TE) (tl th : TO) : TE := fun σ H Q => te σ H fun x H1 => tl σ H1 fun l H2 => th σ H2 fun u H3 => ∃ z, x = .str z ∧ z.length ≤ sizeLine ∧ Q (.str (Txt.slice z l u)) H3
def figs : Str := "0123456789"
def rIndex : V → List V → Hp → VK → Prop := fun x vs H Q => ∃ c, x = .str figs ∧ vs = [chr1 c] ∧ 48 ≤ c ∧ c ≤ 57 ∧ Q (.int ((c - 48 : Nat) : Int)) H
end
end L2
set_option Elab.async false
set_option linter.all false
set_option maxRecDepth 100000
namespace L2
open PySem PySem.Spec PyProof.Rows
mutual
inductive Den (K : PySem.W.Frag) (H : Hp) : V → PyData → Prop
  | non : Den K H .non .none
  | bl (b : Bool) : Den K H (.bl b) (.bool b)
  | int (i : Int) : Den K H (.int i) (.int i)
  | str (x : Str) : Den K H (.str x) (.str x)
  | lst {a : Addr} {xs : List V} {ds : List PyData} : SqL K H a xs → DenAll K H xs ds → Den K H (.ref a) (.list ds)
  | tup {a : Addr} {xs : List V} {ds : List PyData} : SqT K H a xs → DenAll K H xs ds → Den K H (.ref a) (.tuple ds)
inductive DenAll (K : PySem.W.Frag) (H : Hp) : List V → List PyData → Prop
  | nil : DenAll K H [] []
  | cons {x : V} {xs : List V} {d : PyData} {ds : List PyData} : Den K H x d → DenAll K H xs ds → DenAll K H (x :: xs) (d :: ds)
end
section
variable {X : Cx} {pins : List (Addr × Obj)} {σ : St} {H : Hp} {s : Shared}
mutual
theorem Den.reads (I : Inv X pins σ H s) : ∀ {x : V} {d : PyData} {u : Value}, Den X.K H x d → RelV x u → ∃ as, Reads s.heap u d as
  | _, _, _, .non, r => by cases r; exact ⟨_, Reads.none⟩
  | _, _, _, .bl b, r => by cases r; exact ⟨_, Reads.bool b⟩
  | _, _, _, .int i, r => by obtain ⟨t, rfl⟩ := r; exact ⟨_, Reads.int i t⟩
  | _, _, _, .str x, r => by obtain ⟨t, rfl⟩ := r; exact ⟨_, Reads.str x t⟩
  | _, _, _, .lst h hs, r => by
    cases r
    obtain ⟨its, rv, p, hz⟩ := I.list h
    obtain ⟨as, q⟩ := DenAll.reads I hs rv
    obtain ⟨o, ho, hc, n, hd⟩ := p.isList
    exact ⟨_, reads_list_at ho hc hd (by simpa using q)⟩
  | _, _, _, .tup h hs, r => by
    cases r
    obtain ⟨its, rv, p, hz⟩ := I.tuple h
    obtain ⟨as, q⟩ := DenAll.reads I hs rv
    obtain ⟨o, ho, hc, n, hd⟩ := (show s.heap.IsTuple _ _ from p)
    exact ⟨_, reads_tuple_at ho hc hd (by simpa using q)⟩
theorem DenAll.reads (I : Inv X pins σ H s) : ∀ {xs : List V} {ds : List PyData} {us : List Value}, DenAll X.K H xs ds → Vals xs us → ∃ as, ReadsAll s.heap us ds as
  | _, _, _, .nil, r => by cases r; exact ⟨_, ReadsAll.nil⟩
  | _, _, _, .cons h hs, r => by
    cases r with
    | cons r rr =>
      obtain ⟨as, q⟩ := Den.reads I h r
      obtain ⟨bs, p⟩ := DenAll.reads I hs rr
      exact ⟨_, ReadsAll.cons q p⟩
end
def rEqD (K : PySem.W.Frag) (neg : Bool) : R2 := fun x y H Q => ∃ d e, Den K H x d ∧ Den K H y e ∧ SeqAt.shaped d = true ∧ SeqAt.shaped e = true ∧ Q (.bl (if neg then !PyData.eqv d e else PyData.eqv d e)) H
theorem op_eqD (hu : X.A.units + 64 < cLine) : OpR X (compareOp .Eq) (rEqD X.K false) := by
  intro pins s σ H x y v u Q I rx ry h
  obtain ⟨d, e, hd, he, sd, se, q⟩ := h
  obtain ⟨as, ra⟩ := hd.reads I rx
  obtain ⟨bs, rb⟩ := he.reads I ry
  exact eq_dataH ra rb sd se hu (fin_bl I q rfl)
theorem op_neD (hu : X.A.units + 64 < cLine) : OpR X (compareOp .NotEq) (rEqD X.K true) := by
  intro pins s σ H x y v u Q I rx ry h
  obtain ⟨d, e, hd, he, sd, se, q⟩ := h
  obtain ⟨as, ra⟩ := hd.reads I rx
  obtain ⟨bs, rb⟩ := he.reads I ry
  exact ne_dataH ra rb sd se hu (fin_bl I q rfl)
end
section
variable {X : Cx}
theorem call_isinst : CallR X (.builtin "isinstance") (fun xs H Q => ∃ x n t b, xs = [x, .ty n] ∧ TyOf X.K H x t ∧ PySem.W.kitOne X.K t (.type n) = some b ∧ Q (.bl b) H) := by
  intro pins s σ H xs us Q I r h
  obtain ⟨x, n, t, b, rfl, ty, e, q⟩ := h
  obtain ⟨u, v, rfl, ru, rv⟩ := vals2 r
  cases rv
  exact isinst_ok I ru ty e fun tk => ⟨.bl b, H, I.tok _, rfl, q⟩
end
end L2
set_option Elab.async false
set_option linter.all false
set_option maxRecDepth 100000
namespace L2
open PySem PySem.Spec PyProof.Rows
namespace RevF
end RevF
section
variable {X : Cx}
def tJoinRev (K : PySem.W.Frag) (ts te : TE) : TE := fun σ H Q => ts σ H fun x H1 => ∃ sep : Str, x = .str sep ∧ te σ H1 fun y H2 => ∃ (l : Addr) (ys : List Str), y = .ref l ∧ SqL K H2 l (ys.map V.str) ∧ JoinOk sep ys.reverse = true ∧ Q (.str (Txt.join sep ys.reverse)) H2
end
end L2
set_option Elab.async false
set_option linter.all false
set_option maxRecDepth 100000
namespace L2
open PySem PySem.Spec PyProof.Rows
section
variable {X : Cx}
end
end L2
set_option Elab.async false
set_option linter.all false
set_option maxRecDepth 100000
namespace L2
open PySem PySem.Spec PyProof.Rows
theorem vis_of {X : Cx} {sc : Scope} {x : Str} (h : Vis sc x) (e : X.env.scope = sc := by rfl) : Vis X.env.scope x := e ▸ h
theorem gl_of {X : Cx} {sc : Scope} {x : Str} (h : sc.names.lookup x = some .globalImplicit) (e : X.env.scope = sc := by rfl) : Gl X x := by
  show X.env.scope.names.lookup x = _
  rw [e]
  exact h
theorem loc_of {X : Cx} {sc : Scope} {x : Str} (h : sc.names.lookup x = some .local ∨ sc.names.lookup x = some .cell) (e : X.env.scope = sc := by rfl) : Loc X.env.scope x := e ▸ h
def plainE : Expr → Bool
  | .Starred _ _ => false
  | _ => true
def plainAll : List Expr → Bool
  | [] => true
  | e :: r => plainE e && plainAll r
theorem stp {e : Expr} {es : List Expr} {env : Env} (h : plainE e = true) : starEach (e :: es) env = (false, eval e env) :: starEach es env := by
  cases e <;> first | rfl | cases h
theorem st1 {e : Expr} {env : Env} (h : plainE e = true) : starEach [e] env = [(false, eval e env)] := by
  rw [stp h]; rfl
theorem st2 {e d : Expr} {env : Env} (h : plainE e = true) (h2 : plainE d = true) : starEach [e, d] env = [(false, eval e env), (false, eval d env)] := by
  rw [stp h, st1 h2]
theorem anp {env : Env} {pos : Pos} : ∀ {es : List Expr}, plainAll es = true → (backTo pos (starEach es env)).any (·.1) = false
  | [], _ => rfl
  | e :: r, h => by
    have h' : (plainE e && plainAll r) = true := h
    rw [Bool.and_eq_true] at h'
    rw [stp h'.1]
    show (false || (backTo pos (starEach r env)).any (·.1)) = false
    rw [anp h'.2]
    rfl
end L2
set_option Elab.async false
set_option linter.all false
set_option maxRecDepth 100000
namespace HT
open PySem PyProof.Rows
section
variable {prog : Program} {w : World} {A : Around} {E : Value → Shared → Prop} {s : Shared}
end
end HT
namespace L2
open PySem PySem.Spec PyProof.Rows
section
variable {X : Cx}
def rSlA (K : PySem.W.Frag) : V → Option Int → Option Int → Hp → VK → Prop := fun x lo hi H Q => ∃ a xs, x = .ref a ∧ SqT K H a xs ∧
  ((HT.sIx xs.length 0 lo = 0 ∧ HT.sIx xs.length xs.length hi = xs.length) → Q (.ref a) H) ∧
  (¬ (HT.sIx xs.length 0 lo = 0 ∧ HT.sIx xs.length xs.length hi = xs.length) → ∀ p, H p = none → Q (.ref p) (upd H p (.tup (cutV xs lo hi))))
theorem op_mulB : OpR X (binaryOp .Mult) (rI IntMulOk fun i j => .int (i * j)) := opI fun _ _ _ _ _ _ _ hc q => mul_int q hc
end
def Bits (i : Int) : Prop := Builtin.Int.intBits i ≤ 2 ^ 20
theorem bits_abs {i : Int} (h : Bits i) : i.natAbs < 2 ^ (2 ^ 20) := by
  unfold Bits Builtin.Int.intBits at h
  split at h
  · rename_i h0
    have : i = 0 := by simpa using h0
    rw [this]
    exact Nat.pow_pos (by decide)
  · rename_i h0
    have h0' : i.natAbs ≠ 0 := by
      intro z
      apply h0
      have : i = 0 := by omega
      rw [this]; rfl
    exact (Nat.log2_lt h0').mp (by omega)
theorem bits_zero : Bits 0 := by unfold Bits; decide +kernel
theorem mulOk_near {i j c d : Int} (hc : Bits c) (hd : Bits d) (h1 : (i - c).natAbs ≤ 1000000) (h2 : (j - d).natAbs ≤ 1000000) : IntMulOk i j := by
  have key : ∀ {i c : Int}, Bits c → (i - c).natAbs ≤ 1000000 → Builtin.Int.intBits i ≤ 2 ^ 20 + 1 := by
    intro i c hc h
    have hb := bits_abs hc
    have hlt : i.natAbs < 2 ^ (2 ^ 20 + 1) := by
      rw [Nat.pow_succ]
      have h20 : 1000000 ≤ 2 ^ 20 := by decide
      have hle : 2 ^ 20 ≤ 2 ^ (2 ^ 20) := Nat.pow_le_pow_right (by decide) (by decide)
      have : i.natAbs ≤ c.natAbs + (i - c).natAbs := by omega
      generalize 2 ^ (2 ^ 20) = B at *
      omega
    unfold Builtin.Int.intBits
    split
    · exact Nat.zero_le _
    · rename_i h0
      have h0' : i.natAbs ≠ 0 := by
        intro z
        apply h0
        have : i = 0 := by omega
        rw [this]; rfl
      have := (Nat.log2_lt h0').mpr hlt
      omega
  exact IntMulOk.of_le (key hc h1) (key hd h2) (by decide)
theorem weight_mem : ∀ {ns : List Int} {m : Nat}, PySem.W.WData.weightAll (ns.map PySem.W.WData.int) ≤ m → ∀ i ∈ ns, Builtin.Int.intBits i ≤ m
  | [], _, _, i, h => absurd h (by simp)
  | n :: r, m, hw, i, h => by
    have hw : Builtin.Int.intBits n + 1 + PySem.W.WData.weightAll (r.map PySem.W.WData.int) ≤ m := hw
    rcases List.mem_cons.mp h with e | e
    · rw [e]; omega
    · exact weight_mem (by omega) i e
theorem attach_callB {l : PySem.W.OpenLaw} {n : Nat} {q : Program} {loose : List Str} {XP : (Str → Option Value) → Heap → Prop} {YP : World → Heap → Prop} {d : DefRec}
    (hn : l.most = some n) (hdf : d.params.defaults = [])
    (call : ∀ (w : World) (s₀ s₁ : Shared) (mg mb : Str → Option Value) (fa : Addr) (o : Obj) (pm cd doc : Value) (a : Addr) (vs : List Value) (ns : List Int),
      PySem.W.Ground q loose [] XP w s₀ mg mb s₁.heap → YP w s₁.heap →
      s₁.heap.get? fa = some o → o.data = .func (Calls.docDef d.name d.params d.body d.scope pm cd doc) → s₁.heap.CodeRec cd d.name → mg d.name = some (.ref fa) →
      s₁.heap.get? a = some { cls := .type "list", data := .seq vs.toArray } → IntsAre vs ns → ns.length ≤ n → (∀ i ∈ ns, Bits i) → s₁.gens = #[] →
      codeAny (model l.prog w) callerA (.call (.ref fa) ⟨[.ref a], []⟩) (fun r s' => r = .ok (.ret (.bool true)) ∧ OldK s₁.heap s'.heap ∧ s'.os = s₁.os ∧ AllBare s'.gens) s₁) :
    PySem.W.WalkO q loose XP YP l.row.toRowW d [] (fun f vs => PySem.call f vs) := by
  intro w s₀ s₁ mg mb G Y fa o pm cd doc dV kV ho hd hcd hD hmg hg args vals as hpre hlay hrd hwl hlo
  obtain rfl : dV = .none := PySem.W.Dflts.none hD hdf
  obtain rfl : kV = .none := PySem.W.Dflts.noKw hD
  obtain ⟨a, vs, ns, rfl, rfl, hobj, hints, hlen⟩ := Att.script_of hn hpre hwl
  have hb : ∀ i ∈ ns, Bits i := by
    have h1 : (PySem.W.WData.layable (.list (ns.map PySem.W.WData.int)) && true) = true := hlay
    rw [Bool.and_true] at h1
    have h2 : (PySem.W.WData.canLay (.list (ns.map PySem.W.WData.int)) && decide (PySem.W.WData.depth (.list (ns.map PySem.W.WData.int)) ≤ 64) && decide (PySem.W.WData.weight (.list (ns.map PySem.W.WData.int)) ≤ 2 ^ 20)) = true := h1
    rw [Bool.and_eq_true] at h2
    exact weight_mem (of_decide_eq_true h2.2)
  refine PySem.W.enter_call (codeAny_mono (call w s₀ s₁ mg mb fa o pm cd doc a vs ns G Y ho (PySem.W.fd_plain hd) hcd hmg hobj hints hlen hb hg) fun r s' hq => ?_)
  obtain ⟨rfl, h2, h3, h4⟩ := hq
  exact ⟨.inl ⟨.bool true, .bool true, [], rfl, fun _ => rfl, .bool true, Att.post_true l _, fun _ => ⟨List.Pairwise.nil, fun _ hm => (nomatch hm)⟩⟩, h2, h3, h4⟩
theorem walk_ofB {l : PySem.W.OpenLaw} {n k : Nat} {q : Program} {loose : List Str} {XP : (Str → Option Value) → Heap → Prop} {YP : World → Heap → Prop} {d : DefRec} {K : Params → PySem.W.Frag} {CX : World → CXT} {sp : World → Sp} {x : Str}
    (hn : l.most = some n) (hn2 : n ≤ sizeLine) (hdf : d.params.defaults = []) (hr : Room k callerA)
    (hY : ∀ (w : World) (h : Heap), YP w h → (K w.params).In h)
    (F : ∀ (w : World) (mg : Str → Option Value) (fa : Addr) (h : Heap), (K w.params).In h → h.Ns mainGlobals mg → mg d.name = some (.ref fa) →
      ∃ fd : FuncData, (∀ (s : Shared) (u : Value), BindsTo s fd ⟨[u], []⟩ [(x, u)]) ∧
        ∀ base : Heap, (K w.params).In base → base.Ns mainGlobals mg → FnOk l.prog w (K w.params) mg base (CX w) k fa fd [x] (sp w))
    (hsp : ∀ (w : World) (H : Hp) (a : Addr) (ns : List Int), ns.length ≤ n → (∀ i ∈ ns, Bits i) → Only H → SqL (K w.params) H a (ns.map V.int) → sp w [.ref a] H (fun v _ => v = .bl true) fun _ _ _ => False)
    (hCX : ∀ (w : World) (H : Hp) (s : Shared) (e : Value) (s' : Shared), CX w [] H s (fun _ _ _ => False) e s' → False) :
    PySem.W.WalkO q loose XP YP l.row.toRowW d [] (fun f vs => PySem.call f vs) := by
  refine attach_callB hn hdf fun w s₀ s₁ mg mb fa o pm cd doc a vs ns G Y ho hd hcd hmg hobj hints hlen hbits hg => ?_
  have KX := hY w _ Y
  obtain ⟨fd, hb, hF⟩ := F w mg fa _ KX G.T.g hmg
  exact law_call KX G.T.g G.T.b G.T.builtins G.T.nolimit hg hobj hints (Nat.le_trans hlen hn2) hr hF hb (fun H hO hS => hsp w H a ns hlen hbits hO hS) fun H e s' => hCX w H s₁ e s'
end L2
set_option Elab.async false
set_option linter.all false
set_option maxRecDepth 100000
namespace L2
open PySem PySem.Spec PyProof.Rows
def ForJ (J : It) (g : TG) (tb : TS) (D : Ends) (σ : St) (H1 : Hp) : Prop := ∃ W : Nat → Nat → St → Hp → Prop, (∃ m, W 0 m σ H1) ∧ ∀ i m σ H, W i m σ H →
  (J.stop i H ∧ D.nx σ H) ∨ (J.go i H ∧ ∃ N : St → Hp → Prop, (∀ σ' H', N σ' H' → ∃ m', m' < m ∧ W (i + 1) m' σ' H') ∧ ∀ x H', J.yld i H x H' → g x σ H' fun σ2 H2 => tb { D with nx := N, ct := N, bk := D.nx } σ2 H2)
theorem tFor_eq {wi : TI} {g : TG} {tb : TS} {D : Ends} {σ : St} {H : Hp} : tFor wi g tb D σ H = wi σ H fun J H1 => ForJ J g tb D σ H1 := rfl
theorem same_new {H : Hp} {p : Addr} {o : HO} (h : H p = none) : Same H (upd H p o) := fun b u e => by rw [upd_ne (ne_of_none e h)]; exact e
theorem same_upd {H H1 : Hp} {p : Addr} {o : HO} (h : Same H H1) (hp : H p = none) : Same H (upd H1 p o) := fun b u e => by rw [upd_ne (ne_of_none e hp)]; exact h b u e
theorem atI_int {cs : List Int} {i : Int} (h0 : 0 ≤ i) (h1 : i < cs.length) : atI (cs.map V.int) i = some (V.int (cs.getD i.toNat 0)) := by
  obtain ⟨j, rfl⟩ := Int.eq_ofNat_of_zero_le h0
  have hj : j < cs.length := by omega
  refine atI_nat ?_
  simp [hj]
theorem getD_in {cs : List Int} {j : Nat} (h : j < cs.length) : cs.getD j 0 ∈ cs := by
  simp [List.getD, h]
mutual
theorem eqv_self : ∀ d : PyData, d.canLay0 = true → PyData.eqv d d = true
  | .none, _ => rfl
  | .bool b, _ => by simp [PyData.eqv]
  | .int i, _ => by simp [PyData.eqv]
  | .str x, _ => by simp [PyData.eqv]
  | .list xs, h => by
    have h' : PyData.canLayAll0 xs = true := h
    show PyData.eqvAll xs xs = true
    exact eqvAll_self xs h'
  | .tuple xs, h => by
    have h' : PyData.canLayAll0 xs = true := h
    show PyData.eqvAll xs xs = true
    exact eqvAll_self xs h'
  | .dict _, h => by cases h
theorem eqvAll_self : ∀ ds : List PyData, PyData.canLayAll0 ds = true → PyData.eqvAll ds ds = true
  | [], _ => rfl
  | d :: r, h => by
    have h' : (PyData.canLay0 d && PyData.canLayAll0 r) = true := h
    rw [Bool.and_eq_true] at h'
    show (PyData.eqv d d && PyData.eqvAll r r) = true
    rw [eqv_self d h'.1, eqvAll_self r h'.2]
    rfl
end
end L2
set_option Elab.async false
set_option linter.all false
set_option maxRecDepth 100000
namespace HT
open PySem PyProof.Rows
section
variable {prog : Program} {w : World} {A : Around} {E : Value → Shared → Prop} {s : Shared}
theorem draw_list {it t : Addr} {items : Array Value} (hne : t ≠ it) : ∀ (n i : Nat) (s : Shared) (Q : List Value → Shared → Prop), s.heap.IsListIter it t i → s.heap.IsList t items → i + n ≤ items.size →
    (∀ h', h'.IsListIter it t (i + n) → Heap.SameBut it s.heap h' → Q ((items.toList.drop i).take n) { s with heap := h' }) → wpAny (model prog w) A (draw (.ref it) n) Q E s
  | 0, i, s, Q, hit, _, _, hQ => by
    show wpAny _ _ (pure []) Q E s
    exact wpAny_pure (by simpa using hQ s.heap hit (Heap.SameBut.refl ..))
  | n + 1, i, s, Q, hit, ht, hle, hQ => by
    have hlt : i < items.size := by omega
    show wpAny _ _ (pyNext (.ref it) >>= _) Q E s
    refine wpAny_bind (wpAny_pyNext_list_item hit ht (x := items[i]) (by simp [hlt]) fun h₁ hit₁ hs₁ => ?_)
    refine wpAny_bind (wpAny_holding (draw_list hne n (i + 1) _ _ hit₁ (ht.extBut hs₁.extBut hne) (by omega) fun h₂ hit₂ hs₂ => wpAny_pure ?_))
    have hd : items.toList.drop i = items[i] :: items.toList.drop (i + 1) := by simp [List.drop_eq_getElem_cons, hlt]
    have := hQ h₂ (by rw [show i + (n + 1) = i + 1 + n by omega]; exact hit₂) (hs₁.trans hs₂)
    rw [hd, List.take_succ_cons] at this
    exact this
theorem unpackItems_list {t : Addr} {items : Array Value} {Q : List Value → Shared → Prop} (hh : A.handled = none) (ht : s.heap.IsList t items)
    (hQ : ∀ h', Heap.ExtBut s.heap.objs.size s.heap h' → Q items.toList { s with heap := h' }) : wpAny (model prog w) A (unpackItems (.ref t) items.size none) Q E s := by
  have hlt : t ≠ s.heap.objs.size := by obtain ⟨o, ho, _⟩ := ht; exact Nat.ne_of_lt (Heap.lt_size ho)
  unfold unpackItems
  refine wpAny_bind ?_
  unfold notIterableAtAll
  refine wpAny_bind (wpAny_specialOf ht.typeIs slot_list_iter.lookup ?_)
  refine wpAny_pure ?_
  simp only [Bool.false_eq_true, if_false]
  refine wpAny_bind (wpAny_holding (wpAny_pyIter_list ht ?_))
  have ht0 : (s.heap.push { cls := .type "list_iterator", data := .fields #[.ref t, .int 0 0] }).IsList t items := ht.at fun o e => Heap.get?_push_of_some _ e
  refine wpAny_bind (wpAny_holding (draw_list hlt items.size 0 _ _ ⟨_, Heap.get?_push_size _ rfl, rfl, rfl⟩ ht0 (by omega) fun h₁ hit₁ hs₁ => ?_))
  have hall : List.take items.size (List.drop 0 items.toList) = items.toList := by
    rw [List.drop_zero]; exact List.take_of_length_le (by simp)
  rw [hall]
  rw [if_neg (by simp)]
  have ht₁ : h₁.IsList t items := ht0.extBut hs₁.extBut hlt
  refine wpAny_bind (wpAny_holding (wpAny_pyNext_list_end hh hit₁ ht₁ (by simp) fun h₂ he₂ => ?_))
  simp only [Option.isSome_none, Bool.false_eq_true, if_false]
  refine wpAny_pure (hQ h₂ fun b o hb e => he₂ b o hb (hs₁.extBut b o hb (Heap.get?_push_of_some _ e)))
theorem assign_Tuple_list {env : Env} {elts : List Expr} {x1} {pos : Pos} {t : Addr} {items : Array Value} {Q : Unit → Shared → Prop} (hh : A.handled = none) (ht : s.heap.IsList t items)
    (hn : (assignEach elts env).length = items.size) (hstar : (assignEach elts env).findIdx? (·.1) = none)
    (h : ∀ h', Heap.ExtBut s.heap.objs.size s.heap h' → wpAny (model prog w) A (assignInOrder ((assignEach elts env).map (·.2)) items.toList) Q E { s with heap := h' }) :
    wpAny (model prog w) A (assign (.Tuple elts x1 pos) env (.ref t)) Q E s := by
  rw [assign_Tuple]
  refine wpAny_bind (wpAny_standAt ?_)
  unfold unpack
  rw [hn, hstar]
  exact wpAny_bind (wpAny_holding (unpackItems_list hh ht h))
end
end HT
namespace L2
open PySem PySem.Spec PyProof.Rows
section
variable {X : Cx} {pos : Pos}
def gTupL (K : PySem.W.Frag) (n : Nat) (t : TGs) : TG := fun v σ H Q => ∃ a xs, v = .ref a ∧ SqL K H a xs ∧ xs.length = n ∧ t xs σ H Q
theorem pg_tupL {es : List Expr} {k : Nat} {t : TGs} {n : Nat} (hc : X.calm = true) (h : PGs X es t)
    (hn : (assignEach es X.env).length = n := by rfl) (hst : (assignEach es X.env).findIdx? (·.1) = none := by rfl) : PG X (.Tuple es k pos) (gTupL X.K n t) := by
  intro pins s σ H v u Q I r hw
  obtain ⟨a, xs, e1, hq, hl, hw⟩ := hw
  subst e1
  cases r
  obtain ⟨its, rv, ht, hz⟩ := I.list hq
  refine HT.assign_Tuple_list (I.ok.hd hc) ht.isList (by simp [hn, ← hl, rv.length]) hst fun h' hx => ?_
  have I1 : Inv X pins σ H { s with heap := h' } := I.kept (t' := s.toks) fun b o e => hx b o (Nat.ne_of_lt (Heap.lt_size e)) e
  exact h pins _ σ H xs _ Q I1 (by simpa using rv) hw
def tRevT (K : PySem.W.Frag) (te : TE) : TE := fun σ H Q => te σ H fun x H1 => ∃ a xs, x = .ref a ∧ SqT K H1 a xs ∧ ∀ p, H1 p = none → Q (.ref p) (upd H1 p (.tup xs.reverse))
def rRep01 (K : PySem.W.Frag) : R2 := fun x y H Q => ∃ a xs k, x = .ref a ∧ y = .int k ∧ SqT K H a xs ∧ xs ≠ [] ∧ (k = 0 ∨ k = 1) ∧ (k = 1 → Q (.ref a) H) ∧ (k = 0 → ∀ p, H p = none → Q (.ref p) (upd H p (.tup [])))
end
end L2
set_option Elab.async false
set_option linter.all false
set_option maxRecDepth 100000
namespace L2
open PySem PySem.Spec PyProof.Rows
section
variable {X : Cx}
end
end L2
set_option Elab.async false
set_option linter.all false
set_option maxRecDepth 100000
namespace L2
open PySem PySem.Spec PyProof.Rows
section
variable {X : Cx} {K : PySem.W.Frag}
theorem pe_fldK {e : Expr} {f : Str} {pos : Pos} {ta : TE} (hK : X.K = K) (he : PE X e ta) (hb : attributeBase e f X.env (eval e X.env) = eval e X.env) : PE X (.Attribute e f pos) (tFld K ta f) := by
  subst hK
  exact pe_fld he hb
theorem ix_tupK (hK : X.K = K) : IxR X (rIxT K) := by subst hK; exact ix_tup
theorem call_len_seqK (hK : X.K = K) : CallR X (.builtin "len") (fun xs H Q => ∃ p ys, xs = [.ref p] ∧ (SqL K H p ys ∨ SqT K H p ys) ∧ Q (.int ys.length) H) := by subst hK; exact call_len_seq
end
end L2
set_option Elab.async false
set_option linter.all false
set_option maxRecDepth 100000
namespace L2
open PySem PyProof.Rows PySem.Calls
def XAt (B : Heap) (e : Addr) (cls : Value) (dx : Option Addr) (fl : Value) (h : Heap) : Prop :=
  ∃ (vs : Array Value) (sl : Array (Option Value)) (T : Addr) (oT : Obj) (ts : Array Value), h.get? e = some ⟨cls, dx, .fields vs, sl⟩ ∧ vs[2]? = some Value.none ∧ vs[1]? = some (.ref T) ∧ B.get? T = none ∧ T ≠ e ∧ h.get? T = some oT ∧ oT.data = .fields ts ∧ ts[3]? = some fl
structure Fly (B : Heap) (l : List Env) (e : Addr) (cls : Value) (dx : Option Addr) (fl : Value) (h : Heap) : Prop where
  st : B.StaysIn h
  new : B.get? e = none
  fr : h.FunFrames B l
  at_ : XAt B e cls dx fl h
section
variable {M : Model} {A : Around} {E : Value → Shared → Prop} {s : Shared} {B : Heap} {env : Env} {outer l : List Env} {L e : Addr} {cls : Value} {dx : Option Addr} {Q : Unit → Shared → Prop}
theorem place_laid {vs : Array Value} {sl : Array (Option Value)} {head : Value} {had : Bool} (hfr : A.frames = some (env :: outer)) (hf : env.frame = some L) (st : B.StaysIn s.heap) (hn : B.get? e = none) (fr : s.heap.FunFrames B (env :: outer))
    (he : s.heap.get? e = some ⟨cls, dx, .fields vs, sl⟩) (h2 : vs[2]? = some Value.none) (k : ∀ h', Fly B (env :: outer) e cls dx (rawInt L) h' → s.heap.UpToSlots h' → Q () { s with heap := h' }) :
    wpAny M A (frameOf env >>= fun a => entryPlaceOf L had >>= fun pl => EntryCells.newEntry head a .none (rawInt L) .none pl >>= fun b => setField (.ref e) 1 b) Q E s := by
  have sz2 : 2 < vs.size := (Array.getElem?_eq_some_iff.mp h2).1
  have nof : e ∉ (env :: outer).filterMap (·.frame) := fun hm => by
    obtain ⟨_, o, ho, hnf⟩ := fr.mem hm
    rw [he] at ho
    cases ho
    exact hnf vs rfl
  refine wpAny_bind (wpAny_frameOf_fun hfr fr hf fun h₁ hs => ?_)
  refine wpAny_bind (wpAny_entryPlaceOf fun pl hpl => ?_)
  unfold EntryCells.newEntry newFields
  refine wpAny_bind (wpAny_newObj_type ?_ (hpl.sizeOk5 _ _ _ _ _))
  have e1 : h₁.get? e = some ⟨cls, dx, .fields vs, sl⟩ := (hs.2.1 e nof).trans he
  have st1 : B.StaysIn h₁ := fun b o q => (hs.2.1 b fun hm => by rw [(fr.mem hm).1] at q; cases q).trans (st b o q)
  refine wpAny_setField (Heap.get?_push_of_some _ e1) rfl (Nat.lt_trans (by decide) sz2) (k _ ?_ ?_)
  all_goals have ne : h₁.objs.size ≠ e := Nat.ne_of_gt (Heap.lt_size e1)
  · refine ⟨fun b o q => ?_, hn, fr.of_keeps fun b o q nf => ?_, ⟨vs.setIfInBounds 1 (.ref h₁.objs.size), sl, h₁.objs.size, _, _, ?_, ?_, ?_, st1.fresh, ne, (Heap.get?_update_other _ _ (Ne.symm ne)).trans (Heap.get?_push_size h₁ rfl), rfl, ?_⟩⟩
    · rw [Heap.get?_update_other _ _ (fun z => by rw [← z, hn] at q; cases q)]
      exact Heap.get?_push_of_some _ (st1 b o q)
    · obtain ⟨sl', hb⟩ := hs.2.2 b o q
      refine ⟨{ o with slots := sl' }, ?_, rfl⟩
      rw [Heap.get?_update_other _ _ (fun z => by rw [← z, he] at q; cases q; exact nf vs rfl)]
      exact Heap.get?_push_of_some _ hb
    · exact Heap.get?_update_self _ (Heap.get?_push_of_some _ e1) rfl
    · rw [Array.getElem?_setIfInBounds_ne (by decide)]
      exact h2
    · simp [Nat.lt_trans (show 1 < 2 by decide) sz2]
    · first | (simp; done) | (rcases hpl with rfl | ⟨_, _, _, _, _, _, _, rfl⟩ <;> simp)
  · intro b o q nf
    obtain ⟨sl', hb⟩ := hs.2.2 b o q
    refine ⟨sl', ?_⟩
    rw [Heap.get?_update_other _ _ (fun z => by rw [← z, he] at q; cases q; exact nf vs rfl)]
    exact Heap.get?_push_of_some _ hb
theorem note_first {vs : Array Value} {sl : Array (Option Value)} (hfr : A.frames = some (env :: outer)) (hf : env.frame = some L) (st : B.StaysIn s.heap) (hn : B.get? e = none) (fr : s.heap.FunFrames B (env :: outer))
    (he : s.heap.get? e = some ⟨cls, dx, .fields vs, sl⟩) (h2 : vs[2]? = some Value.none) (h1 : vs[1]? = some Value.none) (k : ∀ h', Fly B (env :: outer) e cls dx (rawInt L) h' → s.heap.UpToSlots h' → Q () { s with heap := h' }) :
    wpAny M A (noteFrame (.ref e) env) Q E s := by
  unfold noteFrame
  simp only [hf]
  refine wpAny_bind (wpAny_field he rfl h1 ?_)
  rw [if_neg (by decide)]
  exact place_laid hfr hf st hn fr he h2 k
theorem note_more (hfr : A.frames = some (env :: outer)) (hf : env.frame = some L) (f : Fly B (env :: outer) e cls dx .none s.heap) (k : ∀ h', Fly B (env :: outer) e cls dx (rawInt L) h' → s.heap.UpToSlots h' → Q () { s with heap := h' }) :
    wpAny M A (noteFrame (.ref e) env) Q E s := by
  obtain ⟨st, hn, fr, vs, sl, T, oT, ts, he, h2, h1, nT, ne, hT, dT, t3⟩ := f
  unfold noteFrame
  simp only [hf]
  refine wpAny_bind (wpAny_field he rfl h1 ?_)
  rw [if_pos (by simp)]
  refine wpAny_bind (wpAny_field hT dT t3 ?_)
  rw [if_neg (by simp [rawInt])]
  refine wpAny_bind (wpAny_setField hT dT (Array.getElem?_eq_some_iff.mp t3).1 ?_)
  have other : ∀ b o, b ≠ T → s.heap.get? b = some o → (s.heap.update T (Obj.mapFields (·.setIfInBounds 3 Value.none))).get? b = some o := fun b o hb z => by
    rw [Heap.get?_update_other _ _ (Ne.symm hb)]
    exact z
  have noT : ∀ b o, s.heap.get? b = some o → (∀ ws, o.data ≠ .fields ws) → b ≠ T := fun b o q nf z => by
    rw [z, hT] at q
    cases q
    exact nf ts dT
  refine place_laid (s := { s with heap := _ }) hfr hf (fun b o q => other b o (fun z => by rw [z, nT] at q; cases q) (st b o q)) hn (fr.of_keeps fun b o q nf => ⟨o, other b o (noT b o q nf) q, rfl⟩) (other e _ (Ne.symm ne) he) h2 fun h' f' u => k h' f' fun b o q nf => ?_
  exact u b o (other b o (noT b o q nf) q) nf
theorem land {fl : Value} (f : Fly B l e cls dx fl s.heap) (k : ∀ h', Fly B l e cls dx .none h' → s.heap.UpToSlots h' → Q () { s with heap := h' }) : wpAny M A (setFlight (.ref e) none) Q E s := by
  obtain ⟨st, hn, fr, vs, sl, T, oT, ts, he, h2, h1, nT, ne, hT, dT, t3⟩ := f
  unfold setFlight
  refine wpAny_bind (wpAny_field he rfl h1 ?_)
  rw [if_pos (by simp)]
  have sz := (Array.getElem?_eq_some_iff.mp t3).1
  have other : ∀ b o, b ≠ T → s.heap.get? b = some o → (s.heap.update T (Obj.mapFields (·.setIfInBounds 3 Value.none))).get? b = some o := fun b o hb z => by
    rw [Heap.get?_update_other _ _ (Ne.symm hb)]
    exact z
  have noT : ∀ b o, s.heap.get? b = some o → (∀ ws, o.data ≠ .fields ws) → b ≠ T := fun b o q nf z => by
    rw [z, hT] at q
    cases q
    exact nf ts dT
  refine wpAny_setField hT dT sz (k _ ⟨fun b o q => other b o (fun z => by rw [z, nT] at q; cases q) (st b o q), hn, fr.of_keeps fun b o q nf => ⟨o, other b o (noT b o q nf) q, rfl⟩, vs, sl, T, _, _, other e _ (Ne.symm ne) he, h2, h1, nT, ne, Heap.get?_update_self _ hT (Obj.isFreed_of_fields (Obj.data_mapFields dT _)), Obj.data_mapFields dT _, ?_⟩ fun b o q nf => ⟨o.slots, other b o (noT b o q nf) q⟩)
  simp [sz]
theorem Fly.tail {fl : Value} {h : Heap} (f : Fly B (env :: outer) e cls dx fl h) : Fly B outer e cls dx fl h := ⟨f.st, f.new, f.fr.2.2, f.at_⟩
theorem leave_first {vs : Array Value} {sl : Array (Option Value)} (hfr : A.frames = some (env :: outer)) (hf : env.frame = some L) (st : B.StaysIn s.heap) (hn : B.get? e = none) (fr : s.heap.FunFrames B (env :: outer))
    (he : s.heap.get? e = some ⟨cls, dx, .fields vs, sl⟩) (h2 : vs[2]? = some Value.none) (h1 : vs[1]? = some Value.none) (k : ∀ h', Fly B outer e cls dx .none h' → s.heap.UpToSlots h' → Q () { s with heap := h' }) :
    wpAny M A (leaving env (.ref e)) Q E s := by
  unfold leaving
  exact wpAny_bind (note_first hfr hf st hn fr he h2 h1 fun h' f u => land f fun h2 f2 u2 => k h2 f2.tail (u.trans u2))
theorem leave_more (hfr : A.frames = some (env :: outer)) (hf : env.frame = some L) (f : Fly B (env :: outer) e cls dx .none s.heap) (k : ∀ h', Fly B outer e cls dx .none h' → s.heap.UpToSlots h' → Q () { s with heap := h' }) :
    wpAny M A (leaving env (.ref e)) Q E s := by
  unfold leaving
  exact wpAny_bind (note_more hfr hf f fun h' f u => land f fun h2 f2 u2 => k h2 f2.tail (u.trans u2))
end
end L2
set_option Elab.async false
set_option linter.all false
set_option maxRecDepth 100000
namespace L2
open PySem PySem.Spec PyProof.Rows
theorem ObjOk.some {P : Program} {w : World} {H : Hp} {h : Heap} {a : Addr} {o : HO} (x : ObjOk P w H h a o) : ∃ u, h.get? a = some u := by
  cases o with
  | lst xs => obtain ⟨_, _, _, _, e⟩ := x; exact ⟨_, e⟩
  | tup xs => obtain ⟨_, _, _, o, e, _⟩ := x; exact ⟨_, e⟩
  | dK kvs => obtain ⟨_, _, _, _, o, _, _, e, _⟩ := x; exact ⟨_, e⟩
  | dT kvs => obtain ⟨_, _, _, _, o, _, _, e, _⟩ := x; exact ⟨_, e⟩
  | set S n => obtain ⟨o, _, _, _, e, _⟩ := x; exact ⟨_, e⟩
  | ins C dx fs => obtain ⟨_, _, _, e, _⟩ := x; exact ⟨_, e⟩
  | own y => exact x
  | xd fs => obtain ⟨_, ⟨_, _, _, e, _⟩, _⟩ := x; exact ⟨_, e⟩
  | rng lo hi => obtain ⟨_, _, _, e⟩ := x; exact ⟨_, e⟩
  | frz ob u => obtain ⟨e, _⟩ := x; exact ⟨_, e⟩
  | tbl ps => exact ⟨_, x⟩
  | met f y => exact ⟨_, x⟩
  | ext φ => obtain ⟨_, e, _⟩ := x; exact e
structure UnB (fs : List Addr) (H H' : Hp) (h B : Heap) : Prop where
  keep : ∀ b o, h.get? b = some o → H b = none → b ∉ fs → B.get? b = some o
  free : ∀ b o, h.get? b = some o → H b = none → H' b = none
  there : ∀ b o, h.get? b = some o → b ∉ fs → ∃ o', B.get? b = some o'
  tups : ∀ b xs, H b = some (.tup xs) → H' b = some (.tup xs)
  frzs : ∀ b o u, H b = some (.frz o u) → H' b = some (.frz o u)
  tbls : ∀ b ps, H b = some (.tbl ps) → ∃ more, H' b = some (.tbl (ps ++ more))
theorem UnB.un {fs : List Addr} {H H' : Hp} {h B h3 : Heap} (u : UnB fs H H' h B) (st : B.StaysIn h3) (sl : ∀ b o, b ∈ fs → h.get? b = some o → ∃ sl, h3.get? b = some { o with slots := sl }) : Un fs [] H H' h h3 where
  keep := fun b o e n hb _ => st _ _ (u.keep b o e n hb)
  slot := fun b o e n hb _ => sl b o hb e
  free := fun b o e n _ => u.free b o e n
  there := fun b o e _ => by
    by_cases hb : b ∈ fs
    · obtain ⟨_, z⟩ := sl b o hb e
      exact ⟨_, z⟩
    · obtain ⟨o', z⟩ := u.there b o e hb
      exact ⟨o', st _ _ z⟩
  tups := u.tups
  frzs := u.frzs
  tbls := u.tbls
def CXE (P : Program) (w : World) : CXT := fun outer H s E e s' =>
  ∃ (ea : Addr) (cls : Value) (dx : Option Addr) (H' : Hp) (B : Heap), e = .ref ea ∧ s'.os = s.os ∧ AllBare s'.gens ∧ Fly B outer ea cls dx .none s'.heap ∧ HOk P w H' B ∧ UnB (frs outer) H H' s.heap B ∧
    (∀ b o, b ∈ frs outer → s.heap.get? b = some o → ∃ sl, s'.heap.get? b = some { o with slots := sl }) ∧ E cls dx H'
abbrev WXT := St → XK
structure XC (X : Cx) (WX : WXT) : Prop where
  pass : ∀ (pins : List (Addr × Obj)) (σ : St) (H : Hp) (s : Shared) (e : Value) (s' : Shared), Inv X pins σ H s → CXE X.prog X.w X.stack H s (WX σ) e s' → X.xe e s'
structure XW (X : Cx) (WX : WXT) : Prop extends XC X WX where
  raise : ∀ (pins : List (Addr × Obj)) (σ : St) (H : Hp) (s : Shared) (h' : Heap) (e : Addr) (cls : Value) (args : List Value), Inv X pins σ H s → Heap.MadeExcOf s.heap h' e cls args → WX σ cls none H → X.xe (.ref e) { s with heap := h' }
def noW : WXT := fun _ _ _ _ => False
theorem xc_no {X : Cx} : XC X noW := ⟨fun _ _ _ _ _ _ _ ⟨_, _, _, _, _, _, _, _, _, _, _, _, z⟩ => z.elim⟩
section
variable {P : Program} {w : World} {K : PySem.W.Frag} {mg : Str → Option Value} {base : Heap} {N : List Str} {qual : Str} {scope : Scope} {f : Addr} {cd : Value} {A : Around} {outer : List Env} {s₀ : Shared} {H₀ : Hp} {E : XK}
theorem hok_hide {H : Hp} {h : Heap} {l : List Addr} (ok : HOk P w H h) (fr : ∀ b ∈ l, H b = none) : HOk P w H (PySem.W.hideAll h l) := fun a o e =>
  (ok a o e).stay (fun b u hb q => PySem.W.hideAll_get _ q fun z => by
    have n := fr b z
    rcases hb with rfl | hb
    · rw [n] at e; cases e
    · rw [n] at hb; cases hb) (fun _ q => q) fun _ _ q => q
theorem xw_fn : XW (cxOf (CXE P w) P w K mg base N qual scope f cd A outer s₀ H₀ E) (fun _ => E) where
  raise := fun pins σ H s h' e cls args I mk hE => by
    have hst : (cxOf (CXE P w) P w K mg base N qual scope f cd A outer s₀ H₀ E).stack = envOfC qual scope s₀.heap.objs.size f cd :: outer := rfl
    have stF := I.stkFree
    have stS := I.stack
    rw [hst] at stF stS
    obtain ⟨t, he, _, _⟩ := mk.there
    have hn : (PySem.W.hideAll s.heap (frs (envOfC qual scope s₀.heap.objs.size f cd :: outer))).get? e = none := by
      cases q : (PySem.W.hideAll s.heap (frs (envOfC qual scope s₀.heap.objs.size f cd :: outer))).get? e with
      | none => rfl
      | some o => have := PySem.W.of_hideAll _ q; rw [mk.new] at this; cases this
    have fr0 : s.heap.FunFrames (PySem.W.hideAll s.heap (frs (envOfC qual scope s₀.heap.objs.size f cd :: outer))) (envOfC qual scope s₀.heap.objs.size f cd :: outer) :=
      PySem.W.funFrames_hide stS fun env he a ha => List.mem_filterMap.mpr ⟨env, he, ha⟩
    show wpAny (model P w) (A.deeper (envOfC qual scope s₀.heap.objs.size f cd)) (leaving (envOfC qual scope s₀.heap.objs.size f cd) (.ref e)) _ _ _
    refine leave_first (s := { s with heap := h' }) (B := PySem.W.hideAll s.heap (frs (envOfC qual scope s₀.heap.objs.size f cd :: outer))) (env := envOfC qual scope s₀.heap.objs.size f cd) (outer := outer) (L := s₀.heap.objs.size) I.ok.frames rfl (fun b o q => mk.keeps b o (PySem.W.of_hideAll _ q)) hn (fr0.of_keeps fun b o q _ => ⟨o, mk.keeps b o q, rfl⟩) he rfl rfl fun h2 fl up => ?_
    have nst : ∀ b o, s₀.heap.get? b = some o → b ∉ frs outer → b ∉ frs (envOfC qual scope s₀.heap.objs.size f cd :: outer) := fun b o q n z => by
      rcases List.mem_cons.mp (show b ∈ s₀.heap.objs.size :: frs outer from z) with z | z
      · exact absurd (Heap.lt_size q) (by rw [z]; exact Nat.lt_irrefl _)
      · exact n z
    refine ⟨e, cls, none, H, _, rfl, I.os, I.bare, fl, hok_hide I.hok stF, ⟨fun b o q n nf => PySem.W.hideAll_get _ (I.base.keep b o q n nf (fun z => nomatch z)) (nst b o q nf), fun b o q n => I.base.free b o q n (fun z => nomatch z), fun b o q nf => ?_, I.base.tups, I.base.frzs, I.base.tbls⟩, fun b o hb q => ?_, hE⟩
    · obtain ⟨o', q'⟩ := I.base.there b o q (fun z => nomatch z)
      exact ⟨o', PySem.W.hideAll_get _ q' (nst b o q nf)⟩
    · obtain ⟨_, o', q', nf⟩ := I.ok.funs.mem hb
      obtain rfl : o = o' := Option.some.inj ((show s₀.heap.get? b = some o from q).symm.trans q')
      obtain ⟨sl, z⟩ := I.base.slot b o q (I.ok.frf b hb) hb (fun z => nomatch z)
      exact up b { o with slots := sl } (mk.keeps _ _ z) nf
  pass := fun pins σ H s e s' I z => by
    obtain ⟨ea, cls, dx, H', B, rfl, os, bare, fl, hok, u, slo, hE⟩ := z
    have fl : Fly B (envOfC qual scope s₀.heap.objs.size f cd :: outer) ea cls dx .none s'.heap := fl
    show wpAny (model P w) (A.deeper (envOfC qual scope s₀.heap.objs.size f cd)) (leaving (envOfC qual scope s₀.heap.objs.size f cd) (.ref ea)) _ _ _
    refine leave_more (L := s₀.heap.objs.size) I.ok.frames rfl fl fun h2 fl2 up => ?_
    have nst : ∀ b o, s₀.heap.get? b = some o → b ∉ frs outer → b ∉ frs (envOfC qual scope s₀.heap.objs.size f cd :: outer) := fun b o q n z => by
      rcases List.mem_cons.mp (show b ∈ s₀.heap.objs.size :: frs outer from z) with z | z
      · exact absurd (Heap.lt_size q) (by rw [z]; exact Nat.lt_irrefl _)
      · exact n z
    refine ⟨ea, cls, dx, H', B, rfl, os.trans I.os, bare, fl2, hok, ⟨fun b o q n nf => u.keep b o (I.base.keep b o q n nf (fun z => nomatch z)) (I.base.free b o q n (fun z => nomatch z)) (nst b o q nf), fun b o q n => ?_, fun b o q nf => ?_, fun b xs q => u.tups b xs (I.base.tups b xs q), fun b o x q => u.frzs b o x (I.base.frzs b o x q), fun b ps q => ?_⟩, fun b o hb q => ?_, hE⟩
    · obtain ⟨o', q'⟩ := I.base.there b o q (fun z => nomatch z)
      exact u.free b o' q' (I.base.free b o q n (fun z => nomatch z))
    · obtain ⟨o', q'⟩ := I.base.there b o q (fun z => nomatch z)
      exact u.there b o' q' (nst b o q nf)
    · obtain ⟨m1, e1⟩ := I.base.tbls b ps q
      obtain ⟨m2, e2⟩ := u.tbls b _ e1
      exact ⟨m1 ++ m2, by rw [e2, Array.append_assoc]⟩
    · obtain ⟨_, o', q', nf⟩ := I.ok.funs.mem hb
      obtain rfl : o = o' := Option.some.inj ((show s₀.heap.get? b = some o from q).symm.trans q')
      obtain ⟨sl, z⟩ := I.base.slot b o q (I.ok.frf b hb) hb (fun z => nomatch z)
      obtain ⟨sl2, z2⟩ := slo b _ (show b ∈ s₀.heap.objs.size :: frs outer from List.mem_cons_of_mem _ hb) z
      exact up b { o with slots := sl2 } z2 nf
end
def tCallX (sp : Sp) (dvs : List V) (WX : WXT) (t : TA) : TE := fun σ H Q => t σ H fun vs H1 => sp (vs ++ dvs) H1 Q (WX σ)
def tMethX (C : Addr) (m : Str) (sp : Sp) (dvs : List V) (WX : WXT) (ta : TE) (t : TA) : TE := fun σ H Q => ta σ H fun x H1 => ∃ a dx fs, x = .ref a ∧ H1 a = some (.ins C dx fs) ∧ fs.lookup m = none ∧ t σ H1 fun vs H2 => sp (x :: (vs ++ dvs)) H2 Q (WX σ)
def tMakeX (C : Addr) (sp : Sp) (dvs : List V) (WX : WXT) (t : TA) : TE := fun σ H Q => t σ H fun vs H1 => ∀ x dx, H1 x = none → H1 dx = none → dx ≠ x →
  sp (.ref x :: (vs ++ dvs)) (upd (upd H1 dx (.own x)) x (.ins C dx [])) (fun v H2 => v = .non ∧ Q (.ref x) H2) (WX σ)
section
variable {X : Cx} {k : Nat} {f C : Addr} {fd : FuncData} {ps : List Str} {sp : Sp} {dvs : List V} {ds : List Value} {WX : WXT} {x m : Str} {p pos apos : Pos} {e o : Expr} {es : List Expr} {ta : TE} {t : TA}
theorem run_fnX {pins : List (Addr × Obj)} {σ : St} {H : Hp} {s : Shared} {Q : VK} {us : List Value} {vs : List V} (F : FnOk X.prog X.w X.K X.mg X.base (CXE X.prog X.w) k f fd ps sp) (hr : Room k X.A) (hb : Binds X.K fd ps ds) (hd : Vals dvs ds) (hx : XC X WX)
    (I : Inv X pins σ H s) (r : Vals vs us) (h : sp (vs ++ dvs) H Q (WX σ)) : wpAny (model X.prog X.w) X.A (call (.ref f) us) (EP X pins σ Q) X.xe s := by
  have r2 : Vals (vs ++ dvs) (us ++ ds) := r.append hd
  have hl : (us ++ ds).length = ps.length := by rw [← r2.length]; exact F.len _ _ _ _ h
  refine wpAny_call (codeAny_mono (F.run X.A X.stack s H ⟨us, []⟩ (us ++ ds) (vs ++ dvs) Q (WX σ) hr I.env0 (hb s us I.kIn hl) r2 h) fun r s' hq => ?_)
  cases r with
  | error e => exact hx.pass pins σ H s e s' I hq
  | ok fl => cases fl with
    | ret u => exact I.after hq
    | next => exact hq.elim
    | brk => exact hq.elim
    | cont => exact hq.elim
theorem pe_methX {pl : Sem Bool} (he : PE X o ta) (c : Cls X.K C) (hm : Meth X.K C m f) (F : FnOk X.prog X.w X.K X.mg X.base (CXE X.prog X.w) k f fd ps sp) (hr : Room k X.A) (hb : Binds X.K fd ps ds) (hd : Vals dvs ds) (hx : XC X WX) (ha : PA X (e :: es) t)
    (hst : starEach (e :: es) X.env = (false, eval e X.env) :: starEach es X.env := by rfl) (hpl : (backTo pos (starEach es X.env)).any (·.1) = false := by rfl)
    (ht : eval (.Call (.Attribute o m apos) (e :: es) [] pos) X.env = (eval o X.env >>= fun ov => standAt apos.atName >>= fun _ => holding [ov] (getMethod ov m pl) >>= fun r => callWith pos r.1 r.2 (backTo pos (starEach (e :: es) X.env)) (backToKw pos (keywordEach [] X.env))) := by rfl) :
    PE X (.Call (.Attribute o m apos) (e :: es) [] pos) (tMethX C m sp dvs WX ta t) := by
  intro pins s σ H Q I h
  refine PySem.W.methodCall_KW (pl := pl) (thn (he pins s σ H _ I h) fun u s1 ⟨x, H1, I1, rx, a, dx, fs, ex, ea, l, q⟩ => ?_) ht
  subst ex
  cases (show u = Value.ref a from rx)
  refine getmeth_ok I1 ea c hm l ?_
  exact PySem.W.callWith_K (first := [.ref a]) (h₀ := X.base) I.ok.mod.kin hm.kp (thn (ha pos pins s1 σ H1 _ I1 q) fun us s2 ⟨vs, H2, I2, r, q2⟩ => ⟨I2.kIn, run_fnX (us := .ref a :: us) (vs := .ref a :: vs) F hr hb hd hx I2 (.cons rfl r) q2⟩) hst hpl
structure ErrC (K : PySem.W.Frag) (C : Addr) : Prop where
  ex : PySem.W.excIn K C [.type "ValueError", .type "Exception", .type "BaseException", .type "object"] "ValueError.__new__" = true
def tRaise (WX : WXT) (C : Addr) (t : TA) : TS := fun D σ H => t σ H fun vs H1 => vs.length ≤ sizeLine ∧ WX σ (.ref C) none H1
theorem ps_raise {np cpos : Pos} (hx : XW X WX) (hc : X.calm = true) (hg : Gl X x) (hm : X.mg x = some (.ref C)) (er : ErrC X.K C) (ha : PA X (e :: es) t)
    (hdb : (x == ("__debug__" : Str)) = false := by decide) (he : starEach (e :: es) X.env = (false, eval e X.env) :: starEach es X.env := by rfl) (hpl : (backTo cpos (starEach es X.env)).any (·.1) = false := by rfl) :
    PS X (.Raise (some (.Call (.Name x np) (e :: es) [] cpos)) none pos) (tRaise WX C t) := by
  intro pins s σ H D I h
  have q := er.ex
  unfold PySem.W.excIn at q
  split at q
  · rename_i dd cd sl ho
    split at q
    · rename_i C' bm k0 k1 k2 k3 n k5 hm' hs
      simp only [Bool.and_eq_true, beq_iff_eq, Bool.not_eq_true'] at q
      obtain ⟨⟨⟨⟨⟨rfl, rfl⟩, hdel⟩, ht⟩, hok⟩, hni⟩ := q
      obtain ⟨nm, bs, mro, ns, qn, hd, sn, sub, ab, col, del⟩ := cd
      dsimp only at hm' hdel hok hni
      subst hm' hdel
      obtain rfl : sl = #[k0, k1, k2, k3, some (.builtin "ValueError.__new__"), k5] := by
        obtain ⟨l⟩ := sl
        simp only at hs
        rw [hs]
      have T := PySem.W.tail_of_in I.ok.mod.kin ht
      refine wpAny_Raise_call_subT (C := C') (nm := nm) (q := qn) (N := ns) (bs := bs) (bm := bm) (hdct := hd) (sn := sn) (sub := sub) (ab := ab) (col := col) (dd := dd) (k0 := k0) (k1 := k1) (k2 := k2) (k3 := k3) (k5 := k5) PySem.F.excBase_ValueError (mN := X.base.nsMap ns)
        (T.hasType PySem.F.excBase_ValueError.hasBase) (I.ok.hd hc) (by rw [he]; show (false || (backTo cpos (starEach es X.env)).any (·.1)) = false; rw [hpl]; rfl) (PySem.W.nsMap_none_of_in I.ok.mod.kin hok hni) (ld_glob I hg hm ⟨rfl, ?_⟩ hdb)
      rw [he]
      have hp := ha cpos pins s σ H _ I h
      rw [he] at hp
      refine Calls.evalArgs_plain (wpAny_mono hp (fun us s1 z => ?_) fun _ _ z => z)
      obtain ⟨vs, H1, I1, rv, hz, hw⟩ := z
      refine ⟨rfl, by rw [← rv.length]; exact hz, I1.kIn _ _ ho, (Heap.Ns.of_isNs (PySem.W.isNs_of_in I.ok.mod.kin hok)).keeps I1.bk, T.keeps I1.bk, fun h' ea mk => hx.raise pins σ H1 s1 h' ea _ _ I1 mk hw⟩
    · cases q
  · cases q
end
end L2
set_option Elab.async false
set_option linter.all false
set_option maxRecDepth 100000
namespace L2
open PySem PySem.Spec PyProof.Rows
structure MkO (C : Addr) (dx : Option Addr) (ob : Obj) : Prop where
  ex : ∃ (vs : Array Value) (sl : Array (Option Value)), ob = ⟨.ref C, dx, .fields vs, sl⟩ ∧ vs[2]? = some Value.none
def cxTry (X : Cx) (pins : List (Addr × Obj)) (E : Value → Shared → Prop) : Cx := { X with pn := X.pn ++ pins, xe := E }
def cxSuite (X : Cx) (pins : List (Addr × Obj)) (ea : Addr) (ob : Obj) : Cx := { X with A := X.A.mark (some (.ref ea)), calm := false, pn := X.pn ++ pins ++ [(ea, ob)], xe := fun _ _ => False }
section
variable {X : Cx} {pins pins' : List (Addr × Obj)} {σ : St} {H : Hp} {s : Shared} {E : Value → Shared → Prop} {ea : Addr} {ob : Obj}
theorem ok_try (ok : X.Ok) : (cxTry X pins E).Ok := ⟨ok.mod, ok.kind, ok.glob, ok.blt, ok.above, ok.inj, ok.has, ok.cab, ok.hd, ok.frames, ok.stk, ok.exf, ok.bs, ok.bsz, ok.noex, ok.exfs, ok.funs, ok.frf⟩
theorem ok_suite (ok : X.Ok) : (cxSuite X pins ea ob).Ok := ⟨ok.mod, ok.kind, ok.glob, ok.blt, ok.above, ok.inj, ok.has, ok.cab, (fun z => nomatch z), ok.frames, ok.stk, ok.exf, ok.bs, ok.bsz, ok.noex, ok.exfs, ok.funs, ok.frf⟩
theorem inv_try (I : Inv X pins σ H s) : Inv (cxTry X pins E) [] σ H s := ⟨ok_try I.ok, I.os, I.bare, I.base, I.loc, I.cell, I.free, I.freeC, fun p hp => I.pin p (by simpa [cxTry] using hp), I.hok, I.len⟩
theorem inv_untry (ok : X.Ok) (I : Inv (cxTry X pins E) pins' σ H s) : Inv X pins σ H s := ⟨ok, I.os, I.bare, I.base, I.loc, I.cell, I.free, I.freeC, fun p hp => I.pin p (List.mem_append_left _ hp), I.hok, I.len⟩
theorem inv_suite (I : Inv X pins σ H s) (he : s.heap.get? ea = some ob) (hn : H ea = none) (hl : ea ≠ X.env.locals) (hf : ea ∉ X.fs) (hc : ∀ v, ob.data ≠ .cell v) : Inv (cxSuite X pins ea ob) [] σ H s :=
  ⟨ok_suite I.ok, I.os, I.bare, I.base, I.loc, I.cell, I.free, I.freeC, fun p hp => by
    have hp : p ∈ X.pn ++ pins ++ [(ea, ob)] := by simpa [cxSuite] using hp
    rcases List.mem_append.mp hp with z | z
    · exact I.pin p z
    · cases List.mem_singleton.mp z
      exact ⟨he, hn, hl, hf, hc⟩, I.hok, I.len⟩
theorem inv_unsuite (ok : X.Ok) (I : Inv (cxSuite X pins ea ob) pins' σ H s) : Inv X pins σ H s := ⟨ok, I.os, I.bare, I.base, I.loc, I.cell, I.free, I.freeC, fun p hp => I.pin p (List.mem_append_left _ (List.mem_append_left _ hp)), I.hok, I.len⟩
theorem SP.untry {D : Ends} {f : Flow} (ok : X.Ok) (h : SP (cxTry X pins E) [] D f s) : SP X pins D f s := by
  cases f with
  | next => obtain ⟨σ', H', I, q⟩ := h; exact ⟨σ', H', inv_untry ok I, q⟩
  | brk => obtain ⟨σ', H', I, q⟩ := h; exact ⟨σ', H', inv_untry ok I, q⟩
  | cont => obtain ⟨σ', H', I, q⟩ := h; exact ⟨σ', H', inv_untry ok I, q⟩
  | ret u => obtain ⟨v, σ', H', I, r, q⟩ := h; exact ⟨v, σ', H', inv_untry ok I, r, q⟩
theorem SP.unsuite {D : Ends} {f : Flow} (ok : X.Ok) (h : SP (cxSuite X pins ea ob) [] D f s) : SP X pins D f s := by
  cases f with
  | next => obtain ⟨σ', H', I, q⟩ := h; exact ⟨σ', H', inv_unsuite ok I, q⟩
  | brk => obtain ⟨σ', H', I, q⟩ := h; exact ⟨σ', H', inv_unsuite ok I, q⟩
  | cont => obtain ⟨σ', H', I, q⟩ := h; exact ⟨σ', H', inv_unsuite ok I, q⟩
  | ret u => obtain ⟨v, σ', H', I, r, q⟩ := h; exact ⟨v, σ', H', inv_unsuite ok I, r, q⟩
def onlyRet (D : Ends) : Ends := { nx := fun _ _ => False, rt := D.rt }
end
def tTry (K : PySem.W.Frag) (C : Addr) (tb : WXT → TS) (th : Addr → Addr → Option Addr → TS) : TS := fun D σ H =>
  ∃ WE : WXT, tb WE D σ H ∧ ∀ σ' cls dx H', WE σ' cls dx H' → ∃ C', cls = .ref C' ∧ PySem.W.exmOne K (.ref C') (.ref C) = some true ∧ ∀ ea, H' ea = none → th ea C' dx D σ' H'
def tTryAs (K : PySem.W.Frag) (C : Addr) (i : Nat) (tb : WXT → TS) (th : Addr → Addr → Option Addr → TS) : TS := fun D σ H =>
  ∃ WE : WXT, tb WE D σ H ∧ ∀ σ' cls dx H', WE σ' cls dx H' → ∃ C', cls = .ref C' ∧ PySem.W.exmOne K (.ref C') (.ref C) = some true ∧ ∀ ea, H' ea = none → th ea C' dx (onlyRet D) (σ'.set i (some (.ref ea))) H'
section
variable {X : Cx} {x n : Str} {C : Addr} {body : List Stmt} {b₀ : Stmt} {suite : List Stmt} {np pos hpos : Pos} {tb : WXT → TS} {th : Addr → Addr → Option Addr → TS}
theorem looks_type {M : Model} {h : Heap} {a : Addr} {o : Obj} (e : h.get? a = some o) : PySem.W.Looks M h (typeOf (.ref a)) o.cls := (PySem.W.Looks.ld e).andThen .now
def Behind (X : Cx) (nm : Option Str) (hpos : Pos) (Q : Flow → Shared → Prop) (r : Result) (s : Shared) : Prop := match r with
  | .ok f => (match nm with
    | none => Q f s
    | some n => wpAny (model X.prog X.w) X.A (do bindName X.env n .none; unbindBehindTheSuite X.env n hpos) (fun _ s₃ => Q f s₃) X.xe s)
  | .error x => cameBackBy (model X.prog X.w) X.A X.env X.xe x s
theorem try_seen {pins pins' : List (Addr × Obj)} {σ : St} {H : Hp} {s s' : Shared} {e : Value} {WE : XK} {nm : Option Str} {Q : Flow → Shared → Prop} {EE : Value → Shared → Prop} {L : Addr} {outer : List Env} (hst : X.stack = X.env :: outer) (hf : X.env.frame = some L) (hg : Gl X x) (hm : X.mg x = some (.ref C)) (hdb : (x == ("__debug__" : Str)) = false) (ok : X.Ok)
    (I : Inv (cxTry X pins EE) pins' σ H s) (z : CXE X.prog X.w X.stack H s WE e s') (hW : ∀ cls dx H', WE cls dx H' → ∃ C', cls = .ref C' ∧ PySem.W.exmOne X.K (.ref C') (.ref C) = some true)
    (k : ∀ (ea C' : Addr) (dx : Option Addr) (H' : Hp) (s5 : Shared), e = .ref ea → WE (.ref C') dx H' → H' ea = none → (∀ (M : Model) (A : Around) (E : Value → Shared → Prop) (Q : Unit → Shared → Prop), (∀ ob s6, MkO C' dx ob → Inv (cxSuite X pins ea ob) [] σ H' s6 → Q () s6) → wpAny M A (setFlight (.ref ea) none) Q E s5) →
      codeAny (model X.prog X.w) (X.A.mark (some (.ref ea))) (.handlers (.ref ea) [.ExceptHandler none nm (b₀ :: suite) hpos] X.env) (Behind X nm hpos Q) s5) :
    wpAny (model X.prog X.w) X.A (noteFrame e X.env) (fun _ s₂ => wpAny (model X.prog X.w) X.A (setFlight e none) (fun _ s₃ => wpAny (model X.prog X.w) X.A (handleBy e X.env [.ExceptHandler (some (.Name x np)) nm (b₀ :: suite) hpos]) Q X.xe s₃) X.xe s₂) X.xe s' := by
  obtain ⟨ea, cls, dx, H', B, rfl, os, bare, fl, hok, u, slo, hE⟩ := z
  obtain ⟨C', rfl, hmt⟩ := hW cls dx H' hE
  have fl : Fly B (X.env :: outer) ea (.ref C') dx .none s'.heap := by rw [← hst]; exact fl
  have J : ∀ {h3 : Heap} {t3 : Nat}, B.StaysIn h3 → s'.heap.UpToSlots h3 → Inv X pins σ H' { s' with heap := h3, toks := t3 } := fun {h3 t3} st up => by
    refine inv_untry ok (Inv.call' I (s' := { s' with heap := h3, toks := t3 }) os (u.un st fun b o hb q => ?_) (hok.kept st) bare (fun b z => nomatch z))
    obtain ⟨_, o', q', nf⟩ := I.stack.mem hb
    rw [q] at q'
    cases q'
    obtain ⟨sl, q2⟩ := slo b o hb q
    exact up b { o with slots := sl } q2 nf
  have hn : H' ea = none := by
    cases q : H' ea with
    | none => rfl
    | some o => obtain ⟨_, z⟩ := (hok ea o q).some; rw [fl.new] at z; cases z
  refine note_more (by rw [ok.frames, hst]) hf fl fun h4 fl4 up4 => ?_
  refine land (s := { s' with heap := h4 }) fl4 fun h5 fl5 up5 => ?_
  have fin : ∀ {h6 : Heap} {t6 : Nat}, Fly B (X.env :: outer) ea (.ref C') dx .none h6 → h5.UpToSlots h6 → ∃ ob, MkO C' dx ob ∧ Inv (cxSuite X pins ea ob) [] σ H' { s' with heap := h6, toks := t6 } := fun {h6 t6} fl6 up6 => by
    have I6 := J (t3 := t6) fl6.st ((up4.trans up5).trans up6)
    obtain ⟨vs, sl, T, oT, ts, he, h2, h1, _⟩ := fl6.at_
    refine ⟨_, ⟨vs, sl, rfl, h2⟩, inv_suite I6 he hn (fun z => ?_) (fun z => ?_) (fun v z => by cases z)⟩
    · obtain ⟨m, ⟨o, es, ep, ho, hd, _⟩, _⟩ := I6.loc
      rw [← z] at ho
      have ho := (show h6.get? ea = some o from ho)
      rw [he] at ho
      cases ho
      cases hd
    · obtain ⟨_, o, ho, nf⟩ := I6.funs.mem z
      have ho := (show h6.get? ea = some o from ho)
      rw [he] at ho
      cases ho
      exact nf _ rfl
  refine wpAny_handleBy_cons (codeAny_handlers_test ?_) (by intro q; cases q)
  obtain ⟨ob5, _, I5⟩ := fin (t6 := s'.toks) fl5 (Heap.UpToSlots.refl _)
  refine ld_glob (X := cxSuite X pins ea ob5) I5 hg hm ?_ hdb
  obtain ⟨vs, sl, T, oT, ts, he, _⟩ := id fl5.at_
  refine (PySem.W.exm_one I5.kIn (looks_type he) hmt).here ?_
  refine k ea C' dx H' _ rfl hE hn fun M A E Q q => land (s := { s' with heap := h5 }) fl5 fun h6 fl6 up6 => ?_
  obtain ⟨ob6, m6, I6⟩ := fin (t6 := s'.toks) fl6 up6
  exact q ob6 _ m6 I6
theorem ps_try {L : Addr} {outer : List Env} (hst : X.stack = X.env :: outer) (hf : X.env.frame = some L) (hg : Gl X x) (hm : X.mg x = some (.ref C)) (hdb : (x == ("__debug__" : Str)) = false)
    (hb : ∀ pins EE WE, XC (cxTry X pins EE) WE → PSs (cxTry X pins EE) body (tb WE)) (hh : ∀ pins ea C' dx ob, MkO C' dx ob → PSs (cxSuite X pins ea ob) (b₀ :: suite) (th ea C' dx)) :
    PS X (.Try body [.ExceptHandler (some (.Name x np)) none (b₀ :: suite) hpos] [] [] pos) (tTry X.K C tb th) := by
  intro pins s σ H D I h
  obtain ⟨WE, h1, h2⟩ := h
  refine wpAny_Try_except (thn (hb pins _ WE ⟨fun pins' σ' H' s1 e s2 I' z => ?_⟩ [] s σ H D (inv_try I) h1) fun f s1 q => ?_)
  · refine try_seen hst hf hg hm hdb I.ok I' z (fun cls dx H' w => let ⟨C', e1, e2, _⟩ := h2 σ' cls dx H' w; ⟨C', e1, e2⟩) fun ea C' dx H2 s5 e5 w hn land => ?_
    obtain ⟨C2, e1, e2, h3⟩ := h2 σ' _ dx H2 w
    cases e1
    refine codeAny_handlers_suite (wpAny_noRaise (land _ _ _ _ fun ob s6 mk I6 => wpAny_noRaise ?_))
    exact wpAny_mono (hh pins ea C' dx ob mk [] s6 σ' H2 D I6 (h3 ea hn)) (fun f s7 q7 => SP.unsuite I.ok q7) fun _ _ z => z
  · have q := SP.untry I.ok q
    cases f with
    | next => exact wpAny_execs_nil q
    | brk => exact q
    | cont => exact q
    | ret u => exact q
end
end L2
set_option Elab.async false
set_option linter.all false
set_option maxRecDepth 100000
namespace L2
open PySem PySem.Spec PyProof.Rows
structure RoomM (k : Nat) (A : Around) : Prop where
  dp : A.depth + 3 * k + 5 < recursionLimit
  un : A.units + 16 * k + 200 < cLine
theorem Room.m {k : Nat} {A : Around} {e : Option Value} (r : Room k A) : RoomM k (A.mark e) := ⟨r.dp, r.un⟩
theorem RoomM.mono {j k : Nat} {A : Around} (r : RoomM k A) (h : j ≤ k) : RoomM j A := ⟨by have := r.dp; omega, by have := r.un; omega⟩
theorem RoomM.deeper {k : Nat} {A : Around} (r : RoomM (k + 1) A) (env : Env) : RoomM k (A.deeper env) :=
  ⟨by have := r.dp; show A.depth + 1 + 3 * k + 5 < _; omega, by have := r.un; show A.units + 3 + 16 * k + 200 < _; omega⟩
theorem RoomM.depth {k : Nat} {A : Around} (r : RoomM k A) : A.depth < recursionLimit := by have := r.dp; omega
theorem RoomM.units {k : Nat} {A : Around} (r : RoomM k A) : A.units + 64 < cLine := by have := r.un; omega
theorem RoomM.units0 {k : Nat} {A : Around} (r : RoomM k A) : A.units < cLine := by have := r.un; omega
structure FnOkM (P : Program) (w : World) (K : PySem.W.Frag) (mg : Str → Option Value) (base : Heap) (ea : Addr) (ob : Obj) (k : Nat) (f : Addr) (fd : FuncData) (ps : List Str) (sp : Sp) : Prop where
  len : ∀ vs H Q E, sp vs H Q E → vs.length = ps.length
  run : ∀ (A : Around) (outer : List Env) (s : Shared) (H : Hp) (args : Args) (us : List Value) (vs : List V) (Q : VK), RoomM k A → A.handled = some (.ref ea) → s.heap.get? ea = some ob → H ea = none → ea ∉ frs outer → Env0 P w K mg base A outer s H → BindsTo s fd args (ps.zip us) → Vals vs us → sp vs H Q E0 →
    codeAny (model P w) A (.call (.ref f) args) (CR CX0 outer P w H s Q E0) s
def cxM (P : Program) (w : World) (K : PySem.W.Frag) (mg : Str → Option Value) (base : Heap) (N : List Str) (qual : Str) (scope : Scope) (f : Addr) (cd : Value) (A : Around) (outer : List Env) (s : Shared) (H : Hp) (ea : Addr) (ob : Obj) : Cx :=
  { cxOf CX0 P w K mg base N qual scope f cd A outer s H E0 with calm := false, pn := [(ea, ob)], xe := fun _ _ => False }
theorem calm_m {P : Program} {w : World} {K : PySem.W.Frag} {mg : Str → Option Value} {base : Heap} {N : List Str} {qual : Str} {scope : Scope} {f : Addr} {cd : Value} {A : Around} {outer : List Env} {s : Shared} {H : Hp} {ea C : Addr} {dx : Option Addr} {ob : Obj} (mk : MkO C dx ob) (hh : A.handled = some (.ref ea)) :
    Calm (cxM P w K mg base N qual scope f cd A outer s H ea ob) := by
  obtain ⟨vs, sl, rfl, h2⟩ := mk.ex
  exact .inr ⟨ea, C, dx, vs, sl, hh, h2, List.mem_singleton.mpr rfl⟩
theorem fn_ofM {P : Program} {w : World} {K : PySem.W.Frag} {mg : Str → Option Value} {base : Heap} {k : Nat} {f : Addr} {name qual : Str} {params : Arguments} {body : List Stmt} {scope : Scope} {dV kV doc pm cdv ct oc : Value} {an od : Option Addr} {ea C : Addr} {dx : Option Addr} {ob : Obj}
    {osl : Array (Option Value)} {N ps : List Str} {sp : Sp} (mk : MkO C dx ob) (lk : K.lookup f = some ⟨oc, od, .func (PySem.W.fnOf name qual params body scope dV kV doc pm an cdv ct), osl⟩) (hcd : PySem.W.codeIn K cdv qual = true) (S : FnScope N ps scope)
    (len : ∀ vs H Q E, sp vs H Q E → vs.length = ps.length)
    (hbody : ∀ (A : Around) (outer : List Env) (s : Shared) (H : Hp) (vs : List V) (Q : VK), RoomM k (A.deeper (envOfC qual scope s.heap.objs.size f cdv)) → Calm (cxM P w K mg base N qual scope f cdv A outer s H ea ob) → A.handled = some (.ref ea) → sp vs H Q E0 →
      ∃ t, PSs (cxM P w K mg base N qual scope f cdv A outer s H ea ob) body t ∧ t { nx := fun _ H' => Q .non H', rt := Q } (start N vs) H) :
    FnOkM P w K mg base ea ob (k + 1) f (PySem.W.fnOf name qual params body scope dV kV doc pm an cdv ct) ps sp := by
  refine ⟨len, fun A outer s H args us vs Q hr hh hea hne hnf e0 hb r hsp => ?_⟩
  have hl := len _ _ _ _ hsp
  have KX : K.In s.heap := e0.mod.kin.keeps fun b o e => (e0.bs b o e).1
  have lim : s.heap.NoLimit := e0.mod.nolimit.keeps fun b o e => (e0.bs b o e).1
  refine codeAny_call_function hr.depth (KX _ _ lk) rfl S.co S.gen rfl (PySem.W.codeRec_of KX hcd) (hb _ _ _ _ ?_)
  refine wpAny_newFunctionEnv_cells S.kind (fun ⟨n, v⟩ hy => ?_) fun env he s1 x => ?_
  · rcases S.par n (List.of_mem_zip hy).1 with q | q
    · exact .inl q
    · exact .inr ⟨q, PySem.W.cellsFrom_some _ _ _ (.inl q)⟩
  subst he
  refine ⟨lim.keeps x.toInCall.keep, codeAny_func ?_⟩
  obtain ⟨t, ht, hq⟩ := hbody A outer s H vs Q (hr.deeper _) (calm_m mk hh) hh hsp
  have e1 : Env0 P w K mg base { A with handled := none } outer s H := ⟨e0.frames, e0.mod, e0.bs, e0.bsz, e0.funs, e0.frf, e0.hok, e0.bare⟩
  have I0 : Inv (cxOf CX0 P w K mg base N qual scope f cdv { A with handled := none } outer s H E0) [] (start N vs) H s1 := inv_start S rfl e1 hl r x
  have I : Inv (cxM P w K mg base N qual scope f cdv A outer s H ea ob) [] (start N vs) H s1 := by
    refine ⟨⟨I0.ok.mod, I0.ok.kind, I0.ok.glob, I0.ok.blt, I0.ok.above, I0.ok.inj, I0.ok.has, I0.ok.cab, (fun z => nomatch z), Around.frames_deeper e0.frames, I0.ok.stk, I0.ok.exf, I0.ok.bs, I0.ok.bsz, I0.ok.noex, I0.ok.exfs, I0.ok.funs, I0.ok.frf⟩, I0.os, I0.bare, I0.base, I0.loc, I0.cell, I0.free, I0.freeC, fun p hp => ?_, I0.hok, I0.len⟩
    obtain rfl : p = (ea, ob) := by simpa [cxM] using hp
    obtain ⟨vs', sl, rfl, _⟩ := mk.ex
    exact ⟨x.toInCall.keep _ _ hea, hne, Nat.ne_of_lt (Heap.lt_size hea), hnf, fun v z => by cases z⟩
  refine wpAny_mono (ht [] s1 (start N vs) H _ I hq) (fun fl s' hs => ?_) fun e s' hs => hs.elim
  cases fl with
  | ret u =>
    obtain ⟨v, σ', H', J, rv, q⟩ := hs
    exact ⟨v, H', J.os, J.bare, J.base, J.hok, rv, q⟩
  | next =>
    obtain ⟨σ', H', J, q⟩ := hs
    exact ⟨.non, H', J.os, J.bare, J.base, J.hok, rfl, q⟩
  | brk =>
    obtain ⟨_, _, _, q⟩ := hs
    exact q.elim
  | cont =>
    obtain ⟨_, _, _, q⟩ := hs
    exact q.elim
section
variable {P : Program} {w : World} {K : PySem.W.Frag} {mg : Str → Option Value} {base : Heap} {x qual : Str} {st : Stmt} {f : Addr} {fd : FuncData} {N ps : List Str} {k : Nat} {sp : Sp}
theorem Fun.okR (F : Fun K x qual st f fd) (S : FnScope N ps (defScope st)) (len : ∀ vs H Q E, sp vs H Q E → vs.length = ps.length)
    (hbody : ∀ (cdv : Value) (A : Around) (outer : List Env) (s : Shared) (H : Hp) (vs : List V) (Q : VK) (E : XK), Room k (A.deeper (envOfC qual (defScope st) s.heap.objs.size f cdv)) → sp vs H Q E →
      ∃ t, PSs (cxOf (CXE P w) P w K mg base N qual (defScope st) f cdv A outer s H E) (defBody st) t ∧ t { nx := fun _ H' => Q .non H', rt := Q } (start N vs) H) : FnOk P w K mg base (CXE P w) (k + 1) f fd ps sp := by
  obtain ⟨oc, od, kV, doc, pm, an, cdv, ct, osl, rfl, lk, hcd⟩ := F.ex
  exact fn_of lk hcd S len fun A outer s H vs Q E hr hsp => hbody cdv A outer s H vs Q E hr hsp
theorem Fun.okM {ea C : Addr} {dx : Option Addr} {ob : Obj} (F : Fun K x qual st f fd) (mk : MkO C dx ob) (S : FnScope N ps (defScope st)) (len : ∀ vs H Q E, sp vs H Q E → vs.length = ps.length)
    (hbody : ∀ (cdv : Value) (A : Around) (outer : List Env) (s : Shared) (H : Hp) (vs : List V) (Q : VK), RoomM k (A.deeper (envOfC qual (defScope st) s.heap.objs.size f cdv)) → Calm (cxM P w K mg base N qual (defScope st) f cdv A outer s H ea ob) → A.handled = some (.ref ea) → sp vs H Q E0 →
      ∃ t, PSs (cxM P w K mg base N qual (defScope st) f cdv A outer s H ea ob) (defBody st) t ∧ t { nx := fun _ H' => Q .non H', rt := Q } (start N vs) H) : FnOkM P w K mg base ea ob (k + 1) f fd ps sp := by
  obtain ⟨oc, od, kV, doc, pm, an, cdv, ct, osl, rfl, lk, hcd⟩ := F.ex
  exact fn_ofM mk lk hcd S len fun A outer s H vs Q hr hc hh hsp => hbody cdv A outer s H vs Q hr hc hh hsp
end
theorem cxKm {P : Program} {w : World} {K : PySem.W.Frag} {mg : Str → Option Value} {base : Heap} {N : List Str} {qual : Str} {scope : Scope} {f : Addr} {cd : Value} {A : Around} {outer : List Env} {s : Shared} {H : Hp} {ea : Addr} {ob : Obj} : (cxM P w K mg base N qual scope f cd A outer s H ea ob).K = K := rfl
theorem cxKs {X : Cx} {pins : List (Addr × Obj)} {ea : Addr} {ob : Obj} : (cxSuite X pins ea ob).K = X.K := rfl
theorem cxKt {X : Cx} {pins : List (Addr × Obj)} {E : Value → Shared → Prop} : (cxTry X pins E).K = X.K := rfl
structure Mkd (X : Cx) (ea : Addr) (ob : Obj) : Prop where
  hd : X.A.handled = some (.ref ea)
  pin : (ea, ob) ∈ X.pn
theorem mkd_suite {X : Cx} {pins : List (Addr × Obj)} {ea : Addr} {ob : Obj} : Mkd (cxSuite X pins ea ob) ea ob := ⟨rfl, List.mem_append_right _ (List.mem_singleton.mpr rfl)⟩
theorem mkd_m {P : Program} {w : World} {K : PySem.W.Frag} {mg : Str → Option Value} {base : Heap} {N : List Str} {qual : Str} {scope : Scope} {f : Addr} {cd : Value} {A : Around} {outer : List Env} {s : Shared} {H : Hp} {ea : Addr} {ob : Obj} (hh : A.handled = some (.ref ea)) : Mkd (cxM P w K mg base N qual scope f cd A outer s H ea ob) ea ob := ⟨hh, List.mem_singleton.mpr rfl⟩
section
variable {X : Cx} {k : Nat} {f C : Addr} {fd : FuncData} {ps : List Str} {sp : Sp} {ea : Addr} {ob : Obj} {x m : Str} {p pos apos : Pos} {e o : Expr} {es : List Expr} {ta : TE} {t : TA}
theorem run_fnM {pins : List (Addr × Obj)} {σ : St} {H : Hp} {s : Shared} {Q : VK} {us : List Value} {vs : List V} (F : FnOkM X.prog X.w X.K X.mg X.base ea ob k f fd ps sp) (mk : Mkd X ea ob) (hr : RoomM k X.A) (hb : Binds X.K fd ps [])
    (I : Inv X pins σ H s) (r : Vals vs us) (h : sp vs H Q E0) : wpAny (model X.prog X.w) X.A (call (.ref f) us) (EP X pins σ Q) X.xe s := by
  have hl : (us ++ []).length = ps.length := by rw [List.append_nil, ← r.length]; exact F.len _ _ _ _ h
  obtain ⟨p1, p2, p3, p4, _⟩ := I.pin _ (List.mem_append_left _ mk.pin)
  have hb' := hb s us I.kIn hl
  rw [List.append_nil] at hb'
  refine wpAny_call (codeAny_mono (F.run X.A X.stack s H ⟨us, []⟩ us vs Q hr mk.hd p1 p2 (fun z => (List.mem_cons.mp (I.stkSub _ z)).elim p3 p4) I.env0 hb' r h) fun r s' hq => ?_)
  cases r with
  | error e => exact hq.elim
  | ok fl => cases fl with
    | ret u => exact I.after hq
    | next => exact hq.elim
    | brk => exact hq.elim
    | cont => exact hq.elim
theorem pe_callM (F : FnOkM X.prog X.w X.K X.mg X.base ea ob k f fd ps sp) (mk : Mkd X ea ob) (hr : RoomM k X.A) (hg : Gl X x) (hm : X.mg x = some (.ref f)) (hk : PySem.W.keepIn X.K (.ref f) = true) (hb : Binds X.K fd ps [])
    (ha : PA X (e :: es) t) (hdb : (x == ("__debug__" : Str)) = false := by decide) (he : starEach (e :: es) X.env = (false, eval e X.env) :: starEach es X.env := by rfl) (hpl : (backTo pos (starEach es X.env)).any (·.1) = false := by rfl) :
    PE X (.Call (.Name x p) (e :: es) [] pos) (tCall sp [] E0 t) := by
  intro pins s σ H Q I h
  refine wpAny_Call_Name_kw (ld_glob I hg hm ?_ hdb)
  exact PySem.W.callWith_K (h₀ := X.base) I.ok.mod.kin hk (thn (ha pos pins s σ H _ I h) fun us s1 ⟨vs, H1, I1, r, q⟩ => ⟨I1.kIn, run_fnM F mk hr hb I1 r (by simpa only [List.append_nil] using q)⟩) he hpl
end
end L2
set_option Elab.async false
set_option linter.all false
set_option maxRecDepth 100000
namespace L2
open PySem PySem.Spec PyProof.Rows PySem.W
section
variable {prog : Program} {w : World} {A : Around} {E : Value → Shared → Prop} {s : Shared} {K : Frag} {x D : Addr} {ox : Obj} {od : Option Obj} {name : Str}
structure ErrA (K : Frag) (D : Addr) : Prop where
  ga : findIn K (.ref D) "__getattribute__" = some (some (.builtin "BaseException.__getattribute__"))
  gn : findIn K (.ref D) "__getattr__" = some none
  bx : mroIn K D (.type "BaseException") = some true
end
section
variable {X : Cx} {ea C : Addr} {dx : Option Addr} {ob : Obj}
end
end L2
set_option Elab.async false
set_option linter.all false
set_option maxRecDepth 100000
namespace L2
open PySem PySem.Spec PyProof.Rows PySem.Builtin PySem.Builtin.Str PySem.Builtin.Int
structure FunD (K : PySem.W.Frag) (x qual : Str) (st : Stmt) (f : Addr) (fd : FuncData) (items : Array Value) : Prop where
  ex : ∃ (oc : Value) (od : Option Addr) (kV doc pm : Value) (an : Option Addr) (cdv ct : Value) (osl : Array (Option Value)) (T : Addr) (oT : Obj) (n : Nat),
    fd = PySem.W.fnOf x qual (defArgs st) (defBody st) (defScope st) (.ref T) kV doc pm an cdv ct ∧ K.lookup f = some ⟨oc, od, .func fd, osl⟩ ∧ PySem.W.codeIn K cdv qual = true ∧ K.lookup T = some oT ∧ oT.data = .seq items n
  kp : PySem.W.keepIn K (.ref f) = true
section
variable {P : Program} {w : World} {K : PySem.W.Frag} {mg : Str → Option Value} {base : Heap} {x qual : Str} {st : Stmt} {f : Addr} {fd : FuncData} {items : Array Value} {N ps : List Str} {k : Nat} {sp : Sp}
theorem FunD.okR (F : FunD K x qual st f fd items) (S : FnScope N ps (defScope st)) (len : ∀ vs H Q E, sp vs H Q E → vs.length = ps.length)
    (hbody : ∀ (cdv : Value) (A : Around) (outer : List Env) (s : Shared) (H : Hp) (vs : List V) (Q : VK) (E : XK), Room k (A.deeper (envOfC qual (defScope st) s.heap.objs.size f cdv)) → sp vs H Q E →
      ∃ t, PSs (cxOf (CXE P w) P w K mg base N qual (defScope st) f cdv A outer s H E) (defBody st) t ∧ t { nx := fun _ H' => Q .non H', rt := Q } (start N vs) H) : FnOk P w K mg base (CXE P w) (k + 1) f fd ps sp := by
  obtain ⟨oc, od, kV, doc, pm, an, cdv, ct, osl, T, oT, n, rfl, lk, hcd, _⟩ := F.ex
  exact fn_of lk hcd S len fun A outer s H vs Q E hr hsp => hbody cdv A outer s H vs Q E hr hsp
theorem FunD.ok (F : FunD K x qual st f fd items) (S : FnScope N ps (defScope st)) (len : ∀ vs H Q E, sp vs H Q E → vs.length = ps.length)
    (hbody : ∀ (cdv : Value) (A : Around) (outer : List Env) (s : Shared) (H : Hp) (vs : List V) (Q : VK) (E : XK), Room k (A.deeper (envOfC qual (defScope st) s.heap.objs.size f cdv)) → sp vs H Q E →
      ∃ t, PSs (cxOf CX0 P w K mg base N qual (defScope st) f cdv A outer s H E).nox (defBody st) t ∧ t { nx := fun _ H' => Q .non H', rt := Q } (start N vs) H) : FnOk P w K mg base CX0 (k + 1) f fd ps sp := by
  obtain ⟨oc, od, kV, doc, pm, an, cdv, ct, osl, T, oT, n, rfl, lk, hcd, _⟩ := F.ex
  refine fn_of lk hcd S len fun A outer s H vs Q E hr hsp => ?_
  obtain ⟨t, h, q⟩ := hbody cdv A outer s H vs Q E hr hsp
  exact ⟨t, h.nox, q⟩
theorem FunD.binds {ds : List Value} (F : FunD K x qual st f fd items)
    (h : ∀ (T : Addr) (kV doc pm : Value) (an : Option Addr) (cdv ct : Value) (us : List Value), (us ++ ds).length = ps.length → ∃ k : Option (Array Value) → Sem (List (Str × Value)),
      bindArgs (PySem.W.fnOf x qual (defArgs st) (defBody st) (defScope st) (.ref T) kV doc pm an cdv ct) ⟨us, []⟩ = (seqItems? (.ref T) >>= k) ∧ k (some items) = pure (ps.zip (us ++ ds))) : Binds K fd ps ds := by
  obtain ⟨oc, od, kV, doc, pm, an, cdv, ct, osl, T, oT, n, rfl, lk, hcd, hT, hd⟩ := F.ex
  intro s us KX hl
  obtain ⟨k, h1, h2⟩ := h T kV doc pm an cdv ct us hl
  exact .of_defaults (k := k) rfl (KX _ _ hT) hd h1 h2
end
section
variable {X : Cx} {k : Nat} {ps : List Str} {tab : List (Addr × Sp)} {m : Str} {pos apos : Pos} {e o : Expr} {es : List Expr} {ta : TE} {t : TA}
end
theorem hu1 {n : Nat} (h : n + 64 < cLine) : n + 1 < cLine := by omega
end L2
set_option Elab.async false
set_option linter.all false
set_option maxRecDepth 100000
namespace L2
open PySem PySem.Spec PyProof.Rows
section
variable {prog : Program} {w : World} {K : Type} [DecidableEq K] {knd : HeapKind prog w K} {A : Around} {E : Value → Shared → Prop} {s : Shared}
end
section
variable {prog : Program} {w : World} {K : Type} [DecidableEq K] {knd : HeapKind prog w K} {A : Around} {E : Value → Shared → Prop} {s : Shared}
end
theorem Paired.at1 {α β : Type} {R : α → β → Prop} : ∀ {l : List α} {m : List β}, Paired R l m → ∀ {j : Nat} {a : α}, l[j]? = some a → ∃ b, m[j]? = some b ∧ R a b
  | _, _, .cons h r, 0, _, e => by cases e; exact ⟨_, rfl, h⟩
  | _, _, .cons h r, j + 1, _, e => by
    rw [List.getElem?_cons_succ] at e
    obtain ⟨b, e1, e2⟩ := Paired.at1 r e
    exact ⟨b, by rw [List.getElem?_cons_succ]; exact e1, e2⟩
theorem Paired.at2 {α β : Type} {R : α → β → Prop} : ∀ {l : List α} {m : List β}, Paired R l m → ∀ {j : Nat} {b : β}, m[j]? = some b → ∃ a, l[j]? = some a ∧ R a b
  | _, _, .cons h r, 0, _, e => by cases e; exact ⟨_, rfl, h⟩
  | _, _, .cons h r, j + 1, _, e => by
    rw [List.getElem?_cons_succ] at e
    obtain ⟨b, e1, e2⟩ := Paired.at2 r e
    exact ⟨b, by rw [List.getElem?_cons_succ]; exact e1, e2⟩
section
variable {prog : Program} {w : World} {A : Around} {E : Value → Shared → Prop} {s : Shared}
theorem dict_iter {d : Addr} {od : Obj} {es : Array DictEntry} {ep : Nat} {Q : Value → Shared → Prop} (hd : (d == sysModules) = false) (ho : s.heap.get? d = some od) (hc : od.ExactDict) (hdat : od.data = .dict es ep)
    (hQ : Q (.ref s.heap.objs.size) { s with heap := s.heap.push { cls := .type "dict_keyiterator", data := .fields #[.ref d, .int 0 0, .int es.size 0, .int ep 0] } }) :
    wpAny (model prog w) A (pyIter (.ref d)) Q E s := by
  have hT : s.TypeIs (.ref d) "dict" := ⟨od, ho, hc.1⟩
  refine wpAny_pyIter_slot hT F.slot_dict_iter (wpAny_call_entry F.slot_dict_iter hT F.entry_dict_iter ?_ (F.args_dict_iter_1 _))
  unfold Builtin.«dict.__iter__»
  refine wpAny_bind ?_
  unfold Builtin.Dict.dictSlotNone
  refine wpAny_bind (wpAny_notOrdered_dict hT ?_)
  show wpAny _ _ (pure (Value.ref d)) _ _ s
  refine wpAny_pure ?_
  show wpAny _ _ (Builtin.Dict.showsAll d >>= _) _ _ s
  unfold Builtin.Dict.showsAll
  rw [if_neg (by rw [hd]; exact Bool.false_ne_true)]
  refine wpAny_bind (wpAny_pure ?_)
  refine wpAny_bind (wpAny_dictEntries ho hdat ?_)
  refine wpAny_bind (wpAny_dictEpoch ho hdat ?_)
  refine wpAny_bind (wpAny_newObj_type (wpAny_pure ⟨_, rfl, "dict_keyiterator", _, ⟨_, Heap.get?_push_size _ rfl, rfl⟩, F.slot_dict_keyiterator_next.lookup, ?_⟩))
  simpa [rawInt] using hQ
theorem dict_item {it d : Addr} {i ep : Nat} {od : Obj} {es : Array DictEntry} {e : DictEntry} {Q : Option Value → Shared → Prop} (hit : s.heap.IsKeyIter it d i es.size ep) (hod : s.heap.get? d = some od) (hdd : od.data = .dict es ep)
    (hx : es[i]? = some e) (hQ : ∀ h', h'.IsKeyIter it d (i + 1) es.size ep → Heap.SameBut it s.heap h' → Q (some e.key) { s with heap := h' }) :
    wpAny (model prog w) A (pyNext (.ref it)) Q E s := by
  obtain ⟨o, ho, hc, hd⟩ := id hit
  unfold pyNext
  refine wpAny_bind (wpAny_attempt (wpAny_callSpecial?_slot (name := Str.ofString "__next__") hit.typeIs F.slot_dict_keyiterator_next
    (wpAny_call_entry F.slot_dict_keyiterator_next hit.typeIs F.entry_dict_keyiterator_next ?_ (F.args_dict_keyiterator_next_1 _))))
  refine wpAny_bind (wpAny_pure ?_)
  refine wpAny_bind ?_
  refine wpAny_bind ?_
  first | refine wpAny_bind (wpAny_typeNameOfWhole_keyiter hit.typeIs (wpAny_pure ?_)) | refine wpAny_bind (wpAny_typeNameOf_keyiter hit.typeIs (wpAny_pure ?_))
  refine wpAny_bind (wpAny_fieldsOf ho hd ?_)
  have hown : Builtin.Dict_items.ownsTuple "dict_keyiterator" = false := by decide
  simp only [hown, Bool.false_eq_true, if_false]
  show wpAny _ _ (if (Value.ref d == Value.none) = true then _ else _) _ _ s
  rw [if_neg (show ¬ ((Value.ref d == Value.none) = true) from Bool.false_ne_true)]
  refine wpAny_bind (wpAny_pure ?_)
  refine wpAny_bind (wpAny_dictEntries hod hdd ?_)
  rw [if_neg (by simp)]
  refine wpAny_bind (wpAny_pure ?_)
  refine wpAny_bind (wpAny_dictEpoch hod hdd ?_)
  rw [if_neg (by simp)]
  refine wpAny_pure ?_
  simp only [show ¬ ((i : Int) < 0) from by omega, if_false, Int.toNat_natCast, hx]
  refine wpAny_bind ?_
  first | refine wpAny_bind (wpAny_typeNameOfWhole_keyiter hit.typeIs (wpAny_pure ?_)) | refine wpAny_bind (wpAny_typeNameOf_keyiter hit.typeIs (wpAny_pure ?_))
  refine wpAny_bind (wpAny_isOneOf_keyiter hit.typeIs ?_)
  show wpAny _ _ (setField (.ref it) 1 (rawInt ((i : Int) + 1)) >>= _) _ _ s
  refine wpAny_bind (wpAny_setField ho hd (by simp) ?_)
  have hit' : (s.heap.update it (Obj.mapFields (·.setIfInBounds 1 (rawInt ((i : Int) + 1))))).IsKeyIter it d (i + 1) es.size ep :=
    ⟨_, Heap.get?_update_self _ ho (Obj.isFreed_of_fields (Obj.data_mapFields hd _)), (Obj.cls_mapFields ..).trans hc, by rw [Obj.data_mapFields hd]; simp [rawInt]⟩
  refine wpAny_bind (wpAny_holding ?_)
  refine wpAny_bind (wpAny_isOneOf_keyiter (s := { s with heap := s.heap.update it (Obj.mapFields (·.setIfInBounds 1 (rawInt ((i : Int) + 1)))) }) hit'.typeIs ?_)
  show wpAny _ _ (pure e.key) _ _ _
  exact wpAny_pure (wpAny_pure ⟨_, rfl, wpAny_pure (hQ _ hit' (Heap.SameBut.update ..))⟩)
theorem dict_end {it d : Addr} {i ep : Nat} {od : Obj} {es : Array DictEntry} {Q : Option Value → Shared → Prop} (hh : Hd A s.heap) (hit : s.heap.IsKeyIter it d i es.size ep) (hod : s.heap.get? d = some od) (hdd : od.data = .dict es ep)
    (hge : es.size ≤ i) (hQ : ∀ h', Heap.ExtBut it s.heap h' → Q none { s with heap := h' }) : wpAny (model prog w) A (pyNext (.ref it)) Q E s := by
  obtain ⟨o, ho, hc, hd⟩ := id hit
  unfold pyNext
  refine wpAny_bind (wpAny_attempt (wpAny_callSpecial?_slot (name := Str.ofString "__next__") hit.typeIs F.slot_dict_keyiterator_next
    (wpAny_call_entry F.slot_dict_keyiterator_next hit.typeIs F.entry_dict_keyiterator_next ?_ (F.args_dict_keyiterator_next_1 _))))
  refine wpAny_bind (wpAny_pure ?_)
  refine wpAny_bind ?_
  refine wpAny_bind ?_
  first | refine wpAny_bind (wpAny_typeNameOfWhole_keyiter hit.typeIs (wpAny_pure ?_)) | refine wpAny_bind (wpAny_typeNameOf_keyiter hit.typeIs (wpAny_pure ?_))
  refine wpAny_bind (wpAny_fieldsOf ho hd ?_)
  have hown : Builtin.Dict_items.ownsTuple "dict_keyiterator" = false := by decide
  simp only [hown, Bool.false_eq_true, if_false]
  show wpAny _ _ (if (Value.ref d == Value.none) = true then _ else _) _ _ s
  rw [if_neg (show ¬ ((Value.ref d == Value.none) = true) from Bool.false_ne_true)]
  refine wpAny_bind (wpAny_pure ?_)
  refine wpAny_bind (wpAny_dictEntries hod hdd ?_)
  rw [if_neg (by simp)]
  refine wpAny_bind (wpAny_pure ?_)
  refine wpAny_bind (wpAny_dictEpoch hod hdd ?_)
  rw [if_neg (by simp)]
  refine wpAny_pure ?_
  simp only [show ¬ ((i : Int) < 0) from by omega, if_false, Int.toNat_natCast, Array.getElem?_eq_none hge]
  refine wpAny_bind ?_
  first | refine wpAny_bind (wpAny_typeNameOfWhole_keyiter hit.typeIs (wpAny_pure ?_)) | refine wpAny_bind (wpAny_typeNameOf_keyiter hit.typeIs (wpAny_pure ?_))
  show wpAny _ _ (setField (.ref it) 0 .none >>= _) _ _ s
  refine wpAny_bind (wpAny_setField ho hd (by simp) ?_)
  refine stop_told (hh.update (A := A) ho hc _) fun h' e k1 k2 => stop_seen k2 (hQ h' fun b o hb z => k1 b o ?_)
  rw [Heap.get?_update_other _ _ (Ne.symm hb)]
  exact z
end
section
variable {X : Cx} {pins : List (Addr × Obj)} {σ : St} {H : Hp} {s : Shared} {a : Addr}
theorem Inv.re {u v : HO} (I : Inv X pins σ H s) (e : H a = some u) (nt : ∀ xs, u ≠ .tup xs) (no : ∀ y, u ≠ .own y) (nb : ∀ ps, u ≠ .tbl ps) (nf : ∀ o w, X.H₀ a ≠ some (.frz o w)) (new : ObjOk X.prog X.w (upd H a v) s.heap a v) : Inv X pins σ (upd H a v) s := by
  have ne : ∀ {b : Addr}, H b = none → b ≠ a := fun {b} h z => by rw [z, e] at h; cases h
  refine ⟨I.ok, I.os, I.bare, ⟨I.base.keep, I.base.slot, fun b o q n hx => ?_, I.base.there, fun b xs q => ?_, fun b o w q => ?_, fun b ps q => ?_⟩, I.loc, I.cell, ?_, fun x c h => ?_, fun p hp => ?_, fun b o q => ?_, I.len⟩
  · have z := I.base.free b o q n hx
    rw [upd_ne (ne z)]
    exact z
  · have z := I.base.tups b xs q
    rw [upd_ne (fun h => by rw [h, e] at z; exact nt xs (Option.some.inj z))]
    exact z
  · have z := I.base.frzs b o w q
    rw [upd_ne (fun h => by rw [h] at q; exact nf o w q)]
    exact z
  · obtain ⟨more, z⟩ := I.base.tbls b ps q
    exact ⟨more, by rw [upd_ne (fun h => by rw [h, e] at z; exact nb _ (Option.some.inj z))]; exact z⟩
  · rw [upd_ne (ne I.free)]
    exact I.free
  · rw [upd_ne (ne (I.freeC x c h))]
    exact I.freeC x c h
  · obtain ⟨z1, z2, z3⟩ := I.pin p hp
    exact ⟨z1, by rw [upd_ne (ne z2)]; exact z2, z3⟩
  · by_cases hb : b = a
    · subst hb
      rw [upd_same] at q
      cases q
      exact new
    · rw [upd_ne hb] at q
      refine (I.hok b o q).stay (fun _ _ _ z => z) (fun c z => ?_) fun c xs z => ?_
      · rw [upd_ne (fun h => by rw [h, e] at z; exact no _ (Option.some.inj z))]
        exact z
      · rw [upd_ne (fun h => by rw [h, e] at z; exact nt _ (Option.some.inj z))]
        exact z
end
section
variable {prog : Program} {w : World} {d : Addr}
end
end L2
set_option Elab.async false
set_option linter.all false
set_option maxRecDepth 100000
namespace L2
open PySem PySem.Spec PyProof.Rows
theorem ints_of : ∀ {ns : List Int} {us : List Value}, Vals (ns.map V.int) us → ∃ xs : List (Int × Tok), us = xs.map (fun p => Value.int p.1 p.2) ∧ xs.map (·.1) = ns
  | [], _, r => by rw [List.map_nil] at r; cases r; exact ⟨[], rfl, rfl⟩
  | n :: ns, _, r => by
    rw [List.map_cons] at r
    cases r with
    | cons h t =>
      obtain ⟨u, rfl⟩ := h
      obtain ⟨xs, rfl, e⟩ := ints_of t
      exact ⟨(n, u) :: xs, rfl, by rw [List.map_cons, e]⟩
theorem numAt_getD (xs : List (Int × Tok)) (i : Nat) : numAt xs.toArray i = (xs.map (·.1)).getD i 0 := by
  unfold numAt
  rw [List.getD_eq_getElem?_getD, List.getElem?_map]
  simp
section
variable {X : Cx}
theorem call_dictK : CallR X (.type "dict") (fun xs H Q => ∃ p kvs, xs = [.ref p] ∧ H p = some (.dK kvs) ∧ ∀ l, H l = none → Q (.ref l) (upd H l (.dK kvs))) := by
  intro pins s σ H xs us Q I r h
  obtain ⟨p, kvs, rfl, e, q⟩ := h
  obtain ⟨u, rfl, rx⟩ := vals1 r
  cases rx
  obtain ⟨z, hd, vs, rel, dd⟩ := dk_of I.hok e
  refine PySem.kt_call_dict hd dd (by rw [← rel.length]; exact z) fun h' dd' hs => ⟨.ref s.heap.objs.size, _, ?_, rfl, q _ (I.hok.fresh (Nat.le_refl _))⟩
  refine I.laid (t' := s.toks) (fun b o hb => (hs.2 b (Nat.ne_of_lt (Heap.lt_size hb))).trans (Heap.get?_push_of_some _ hb)) (Nat.le_refl _) (dk_new z (beq_eq_false_iff_ne.mpr (Ne.symm (Nat.ne_of_lt I.big))) rel dd')
end
end L2
set_option Elab.async false
set_option linter.all false
set_option maxRecDepth 100000
namespace L2
open PySem PySem.Spec PyProof.Rows
section
variable {prog : Program} {w : World} {K : Type} [DecidableEq K] {knd : KeyKind prog w K} {A : Around} {R : Result → Shared → Prop}
end
section
variable {prog : Program} {w : World} {K : Type} [DecidableEq K] {knd : KeyKind prog w K} {A : Around} {E : Value → Shared → Prop} {s : Shared}
end
section
variable {X : Cx}
end
end L2
set_option Elab.async false
set_option linter.all false
set_option maxRecDepth 100000
namespace L2
open PySem PySem.Spec PyProof.Rows
end L2
set_option Elab.async false
set_option linter.all false
set_option maxRecDepth 100000
namespace Wy
open PySem L2
def WayAt (H : Hp) (v : V) (b : Int) (cs : List Int) : Prop := ∃ p q, v = .ref p ∧ H p = some (.tup [.int b, .ref q]) ∧ H q = some (.tup (cs.map V.int))
theorem WayAt.same {H H' : Hp} {v : V} {b : Int} {cs : List Int} (e : Same H H') (h : WayAt H v b cs) : WayAt H' v b cs := by
  obtain ⟨p, q, h1, h2, h3⟩ := h
  exact ⟨p, q, h1, e _ _ h2, e _ _ h3⟩
def idx (b : Int) (cs : List Int) (t : Int) : Int := if (cs.length : Int) - 1 < t - b then (cs.length : Int) - 1 else t - b
def plc (b : Int) (cs : List Int) (t : Int) : V := if t < b then .non else .int (cs.getD (idx b cs t).toNat 0)
theorem idx_in {b : Int} {cs : List Int} {t : Int} (h : b ≤ t) (hc : cs ≠ []) : 0 ≤ idx b cs t ∧ idx b cs t < cs.length := by
  have : 0 < cs.length := List.length_pos_iff.mpr hc
  unfold idx
  split <;> omega
theorem plc_or (b : Int) (cs : List Int) (t : Int) : plc b cs t = .non ∨ ∃ z, plc b cs t = .int z := by
  unfold plc
  split
  · exact .inl rfl
  · exact .inr ⟨_, rfl⟩
theorem plc_non {b : Int} {cs : List Int} {t : Int} : plc b cs t = .non ↔ t < b := by
  unfold plc
  split
  · simp_all
  · simp_all
theorem plc_end {b : Int} {cs : List Int} {t t' : Int} (hc : cs ≠ []) (h : b + (cs.length : Int) - 1 ≤ t) (h' : b + (cs.length : Int) - 1 ≤ t') : plc b cs t = plc b cs t' := by
  have hl : 0 < cs.length := List.length_pos_iff.mpr hc
  have e : idx b cs t = idx b cs t' := by
    unfold idx
    split <;> split <;> omega
  unfold plc
  rw [if_neg (by omega), if_neg (by omega), e]
theorem plc_shift (b d : Int) (cs : List Int) (t : Int) : plc (b + d) cs (t + d) = plc b cs t := by
  have e : idx (b + d) cs (t + d) = idx b cs t := by
    unfold idx
    have : t + d - (b + d) = t - b := by omega
    rw [this]
  unfold plc
  rw [e]
  by_cases h : t < b
  · rw [if_pos h, if_pos (by omega)]
  · rw [if_neg h, if_neg (by omega)]
def sAt : Str := "at"
def sThrough : Str := "through"
def mw (p p' q q' : V) : Option Str := if p = q then some sAt else if p' = q ∧ q' = p then some sThrough else none
theorem mw_comm (p p' q q' : V) : mw p p' q q' = mw q q' p p' := by
  unfold mw
  by_cases h : p = q
  · rw [if_pos h, if_pos h.symm]
  · rw [if_neg h, if_neg (show ¬ q = p from fun z => h z.symm)]
    by_cases h2 : p' = q ∧ q' = p
    · rw [if_pos h2, if_pos ⟨h2.2, h2.1⟩]
    · rw [if_neg h2, if_neg (fun z => h2 ⟨z.2, z.1⟩)]
def mtAt (b1 : Int) (c1 : List Int) (b2 : Int) (c2 : List Int) (t : Int) : Option Str := mw (plc b1 c1 t) (plc b1 c1 (t + 1)) (plc b2 c2 t) (plc b2 c2 (t + 1))
def First (b1 : Int) (c1 : List Int) (b2 : Int) (c2 : List Int) : Option (Int × Str) → Prop
  | none => ∀ t, b1 ≤ t → b2 ≤ t → mtAt b1 c1 b2 c2 t = none
  | some (t, w) => b1 ≤ t ∧ b2 ≤ t ∧ mtAt b1 c1 b2 c2 t = some w ∧ ∀ t', b1 ≤ t' → b2 ≤ t' → t' < t → mtAt b1 c1 b2 c2 t' = none
theorem First.uniq {b1 : Int} {c1 : List Int} {b2 : Int} {c2 : List Int} {o o' : Option (Int × Str)} (h : First b1 c1 b2 c2 o) (h' : First b1 c1 b2 c2 o') : o = o' := by
  cases o with
  | none =>
    cases o' with
    | none => rfl
    | some x =>
      obtain ⟨t, w⟩ := x
      obtain ⟨h1, h2, h3, _⟩ := h'
      rw [h t h1 h2] at h3
      cases h3
  | some x =>
    obtain ⟨t, w⟩ := x
    obtain ⟨h1, h2, h3, h4⟩ := h
    cases o' with
    | none =>
      rw [h' t h1 h2] at h3
      cases h3
    | some y =>
      obtain ⟨t', w'⟩ := y
      obtain ⟨g1, g2, g3, g4⟩ := h'
      have e : t = t' := by
        rcases Int.lt_trichotomy t t' with z | z | z
        · rw [g4 t h1 h2 z] at h3; cases h3
        · exact z
        · rw [h4 t' g1 g2 z] at g3; cases g3
      subst e
      rw [h3] at g3
      cases g3
      rfl
theorem First.comm {b1 : Int} {c1 : List Int} {b2 : Int} {c2 : List Int} {o : Option (Int × Str)} (h : First b1 c1 b2 c2 o) : First b2 c2 b1 c1 o := by
  have e : ∀ t, mtAt b2 c2 b1 c1 t = mtAt b1 c1 b2 c2 t := fun t => mw_comm _ _ _ _
  cases o with
  | none => exact fun t h1 h2 => by rw [e]; exact h t h2 h1
  | some x =>
    obtain ⟨t, w⟩ := x
    obtain ⟨h1, h2, h3, h4⟩ := h
    exact ⟨h2, h1, by rw [e]; exact h3, fun t' g1 g2 g3 => by rw [e]; exact h4 t' g2 g1 g3⟩
theorem First.self {b : Int} {c : List Int} : First b c b c (some (b, sAt)) :=
  ⟨Int.le_refl _, Int.le_refl _, by unfold mtAt mw; rw [if_pos rfl], fun t' h1 _ h3 => by omega⟩
theorem mt_late {b1 : Int} {c1 : List Int} {b2 : Int} {c2 : List Int} {e t : Int} (hc1 : c1 ≠ []) (hc2 : c2 ≠ []) (h1 : b1 + (c1.length : Int) - 1 ≤ e) (h2 : b2 + (c2.length : Int) - 1 ≤ e) (ht : e ≤ t) (h : mtAt b1 c1 b2 c2 e = none) : mtAt b1 c1 b2 c2 t = none := by
  have a1 : plc b1 c1 t = plc b1 c1 e := plc_end hc1 (by omega) h1
  have a2 : plc b1 c1 (t + 1) = plc b1 c1 (e + 1) := plc_end hc1 (by omega) (by omega)
  have a3 : plc b2 c2 t = plc b2 c2 e := plc_end hc2 (by omega) h2
  have a4 : plc b2 c2 (t + 1) = plc b2 c2 (e + 1) := plc_end hc2 (by omega) (by omega)
  unfold mtAt at h ⊢
  rw [a1, a2, a3, a4]
  exact h
theorem First.none_of {b1 : Int} {c1 : List Int} {b2 : Int} {c2 : List Int} {e : Int} (hc1 : c1 ≠ []) (hc2 : c2 ≠ []) (h1 : b1 + (c1.length : Int) - 1 ≤ e) (h2 : b2 + (c2.length : Int) - 1 ≤ e) (h : ∀ t, b1 ≤ t → b2 ≤ t → t ≤ e → mtAt b1 c1 b2 c2 t = none) : First b1 c1 b2 c2 none := by
  have l1 : 0 < c1.length := List.length_pos_iff.mpr hc1
  have l2 : 0 < c2.length := List.length_pos_iff.mpr hc2
  intro t g1 g2
  by_cases ht : t ≤ e
  · exact h t g1 g2 ht
  · exact mt_late hc1 hc2 h1 h2 (by omega) (h e (by omega) (by omega) (Int.le_refl _))
def shiftO (d : Int) : Option (Int × Str) → Option (Int × Str)
  | none => none
  | some (t, w) => some (t + d, w)
theorem First.later {b1 : Int} {c1 : List Int} {b2 : Int} {c2 : List Int} {o : Option (Int × Str)} (d : Int) (hd : 0 ≤ d) (hc1 : c1 ≠ []) (hb : b1 + (c1.length : Int) - 1 ≤ b2) (h : First b1 c1 b2 c2 o) : First b1 c1 (b2 + d) c2 (shiftO d o) := by
  have l1 : 0 < c1.length := List.length_pos_iff.mpr hc1
  have e : ∀ t, b2 ≤ t → mtAt b1 c1 (b2 + d) c2 (t + d) = mtAt b1 c1 b2 c2 t := fun t ht => by
    unfold mtAt
    have a1 : plc b1 c1 (t + d) = plc b1 c1 t := plc_end hc1 (by omega) (by omega)
    have a2 : plc b1 c1 (t + d + 1) = plc b1 c1 (t + 1) := plc_end hc1 (by omega) (by omega)
    have : t + d + 1 = t + 1 + d := by omega
    rw [a1, a2, this, plc_shift, plc_shift]
  have e' : ∀ t, b2 + d ≤ t → mtAt b1 c1 (b2 + d) c2 t = mtAt b1 c1 b2 c2 (t - d) := fun t ht => by
    have := e (t - d) (by omega)
    rw [show t - d + d = t by omega] at this
    exact this
  cases o with
  | none => exact fun t h1 h2 => by rw [e' t h2]; exact h _ (by omega) (by omega)
  | some x =>
    obtain ⟨t, w⟩ := x
    obtain ⟨h1, h2, h3, h4⟩ := h
    exact ⟨by omega, by omega, by rw [e t h2]; exact h3, fun t' g1 g2 g3 => by rw [e' t' g2]; exact h4 _ (by omega) (by omega) (by omega)⟩
def MeetAt (H : Hp) (r : V) : Option (Int × Str) → Prop
  | none => r = .non
  | some (t, w) => ∃ p, r = .ref p ∧ H p = some (.tup [.int t, .str w])
theorem MeetAt.same {H H' : Hp} {r : V} {o : Option (Int × Str)} (e : Same H H') (h : MeetAt H r o) : MeetAt H' r o := by
  cases o with
  | none => exact h
  | some x =>
    obtain ⟨t, w⟩ := x
    obtain ⟨p, h1, h2⟩ := h
    exact ⟨p, h1, e _ _ h2⟩
theorem rows_start {b : Int} {c : List Int} (b0 : 0 ≤ b) : (List.replicate b.toNat [V.non]).flatten ++ c.map V.int = (List.range (b.toNat + c.length)).map fun i => plc b c ((i : Nat) : Int) := by
  have e1 : (List.replicate b.toNat [V.non]).flatten = List.replicate b.toNat V.non := by
    generalize b.toNat = n
    induction n with
    | zero => rfl
    | succ n ih => rw [List.replicate_succ, List.flatten_cons, ih, List.replicate_succ]; rfl
  rw [e1]
  refine List.ext_getElem? fun j => ?_
  rw [List.getElem?_map]
  by_cases h1 : j < b.toNat
  · rw [List.getElem?_append_left (by simpa using h1)]
    have : j < b.toNat + c.length := by omega
    simp only [List.getElem?_replicate, h1, if_true, List.getElem?_range this, Option.map_some]
    congr 1
    exact (plc_non.mpr (by omega)).symm
  · rw [List.getElem?_append_right (by simpa using h1), List.length_replicate]
    by_cases h2 : j < b.toNat + c.length
    · have hj : j - b.toNat < c.length := by omega
      rw [List.getElem?_range h2, Option.map_some, List.getElem?_map]
      have hi : (idx b c (j : Int)).toNat = j - b.toNat := by
        unfold idx
        split <;> omega
      unfold plc
      rw [if_neg (by omega), hi]
      simp [hj]
    · rw [List.getElem?_eq_none (by simp; omega), List.getElem?_eq_none (by simp; omega)]
      rfl
theorem rows_len (n : Nat) : (List.replicate n [V.non]).flatten.length = n := by
  induction n with
  | zero => rfl
  | succ n ih => rw [List.replicate_succ, List.flatten_cons, List.length_append, ih]; simp; omega
theorem rows_more {b : Int} {c : List Int} {i : Nat} (hc : c ≠ []) (h : b + (c.length : Int) ≤ i) : plc b c ((i - 1 : Nat) : Int) = plc b c (i : Int) := plc_end hc (by omega) (by omega)
end Wy
set_option Elab.async false
set_option linter.all false
set_option maxRecDepth 100000
namespace L2
open PySem PySem.Spec PyProof.Rows
theorem key_rel {P : Program} {w : World} {k : Key} {u : Value} (h : (mixKind P w).is k u = true) : RelV (kV k) u := by
  cases k with
  | inl i =>
    cases u <;> simp_all [mixKind, keyIs, Value.isInt, kV, RelV]
  | inr x =>
    cases u <;> simp_all [mixKind, keyIs, Value.isStrOf, kV, RelV]
section
variable {X : Cx} {pins : List (Addr × Obj)} {σ : St} {H : Hp} {s : Shared} {a : Addr}
theorem Inv.freezeK {kvs : List (Key × V)} (I : Inv X pins σ H s) (e : H a = some (.dK kvs)) {o : Obj} (ho : s.heap.get? a = some o) : Inv X pins σ (upd H a (.frz o (.dK kvs))) s := by
  refine I.re e (fun _ z => nomatch z) (fun _ z => nomatch z) (fun _ z => nomatch z) (fun o w z => ?_) ⟨ho, (show ObjOk X.prog X.w H s.heap a (.dK kvs) from I.hok a _ e)⟩
  have := I.base.frzs a o w z
  rw [e] at this
  cases this
theorem Inv.thawK {kvs : List (Key × V)} {o : Obj} (I : Inv X pins σ H s) (e : H a = some (.frz o (.dK kvs))) (nf : ∀ o w, X.H₀ a ≠ some (.frz o w)) : Inv X pins σ (upd H a (.dK kvs)) s :=
  I.re e (fun _ z => nomatch z) (fun _ z => nomatch z) (fun _ z => nomatch z) nf (show ObjOk X.prog X.w (upd H a (.dK kvs)) s.heap a (.dK kvs) from (show ObjOk X.prog X.w H s.heap a (.frz o (.dK kvs)) from I.hok a _ e).2)
end
def Itk (a : Addr) (o : Obj) (kvs : List (Key × V)) : It :=
  ⟨fun i H => H a = some (.frz o (.dK kvs)) ∧ i < kvs.length, fun i H x H' => H' = H ∧ ∃ k v, x = kV k ∧ kvs[i]? = some (k, v), fun i H => H a = some (.frz o (.dK kvs)) ∧ kvs.length ≤ i⟩
theorem pairs_at {P : Program} {w : World} : ∀ {es : List DictEntry} {vs : List (Key × Value)}, Pairs (mixKind P w) es vs → ∀ {i : Nat} {q : Key × Value}, vs[i]? = some q → ∃ e, es[i]? = some e ∧ (mixKind P w).is q.1 e.key = true
  | _, _, .cons h _ _, 0, _, e => by cases e; exact ⟨_, rfl, h⟩
  | _, _, .cons _ _ r, i + 1, _, e => by
    rw [List.getElem?_cons_succ] at e
    obtain ⟨x, e1, e2⟩ := pairs_at r e
    exact ⟨x, by rw [List.getElem?_cons_succ]; exact e1, e2⟩
theorem turn_dictK {P : Program} {w : World} {K : PySem.W.Frag} {tg : Expr} (a it : Addr) (o : Obj) (kvs : List (Key × V)) (es : Array DictEntry) (ep : Nat) (hdd : o.data = .dict es ep) : Turn P w K tg (Itk a o kvs) [it] it (fun i h => h.IsKeyIter it a i es.size ep) where
  mem := by simp
  obj := fun i h st b hb => by
    have e : b = it := by simpa using hb
    subst e
    obtain ⟨o, e, c, d⟩ := st
    exact ⟨o, e, fun v z => by rw [d] at z; cases z⟩
  keep := fun i h h' st k => st.at fun o e => k it (by simp) o e
  item := by
    intro X hP hw hK hc i pins s σ H E I hf st hg
    subst hP hw hK
    obtain ⟨hq, hx⟩ := hg
    obtain ⟨hod, z, hd, vs, rel, o', es', ep', ho', he1, he2, he3, he4, he5⟩ := (show ObjOk X.prog X.w H s.heap a (.frz o (.dK kvs)) from I.hok a _ hq)
    rw [hod] at ho'
    cases ho'
    rw [hdd] at he2
    cases he2
    obtain ⟨kv, hkv⟩ : ∃ kv, kvs[i]? = some kv := ⟨_, List.getElem?_eq_getElem hx⟩
    obtain ⟨q, hq1, q1, q2⟩ := Paired.at1 rel hkv
    obtain ⟨en, hen, his⟩ := pairs_at he4 hq1
    have hes : es[i]? = some en := by simpa using hen
    obtain ⟨f0, f1, f2, f3, f4, f5⟩ := hf it (by simp)
    refine dict_item st hod hdd hes fun h' st' sb => ?_
    have I1 : Inv X pins σ H { s with heap := h' } := I.turned (t' := s.toks) (fun b o hb e => (sb.2 b hb).trans e) f0 f1 f3 f4 f5
    obtain ⟨o2, e, c, d⟩ := id st'
    exact ⟨_, rfl, go_of (s := { s with heap := h' }) e c d (by decide) ⟨kV q.1, H, I1, key_rel his, ⟨rfl, kv.1, kv.2, by rw [q1], hkv⟩, st', fun b hb => (hf b hb).1⟩⟩
  done := by
    intro X hP hw hK hc i pins s σ H E I hf st hg
    subst hP hw hK
    obtain ⟨hq, hx⟩ := hg
    obtain ⟨hod, z, hd, vs, rel, o', es', ep', ho', he1, he2, he3, he4, he5⟩ := (show ObjOk X.prog X.w H s.heap a (.frz o (.dK kvs)) from I.hok a _ hq)
    rw [hod] at ho'
    cases ho'
    rw [hdd] at he2
    cases he2
    have hsz := he4.length
    have hl := Paired.length rel
    obtain ⟨f0, f1, f2, f3, f4, f5⟩ := hf it (by simp)
    exact dict_end (I.calm hc) st hod hdd (by simp only [Array.length_toList] at hsz; omega) fun h' eb => ⟨rfl, I.turned (t' := s.toks) (fun b o hb e => eb b o hb e) f0 f1 f3 f4 f5⟩
  self := fun _ _ _ _ _ st h => wpAny_pyIter_keyiter st h
def iDictK (te : TE) : TI := fun σ H R => te σ H fun x H1 => ∃ a kvs, x = .ref a ∧ ((H1 a = some (.dK kvs) ∧ ∀ o, R (Itk a o kvs) (upd H1 a (.frz o (.dK kvs)))) ∨ ∃ o, H1 a = some (.frz o (.dK kvs)) ∧ R (Itk a o kvs) H1)
theorem pi_dictK {X : Cx} {tg l : Expr} {tl : TE} (hl : PE X l tl) : PI X tg l (iDictK tl) := by
  intro pins s σ H R I h
  refine thn (hl pins s σ H _ I h) fun v s1 ⟨x, H1, I1, r1, q1⟩ => ?_
  obtain ⟨a, kvs, e, q⟩ := q1
  subst e
  cases r1
  rcases q with ⟨hq, q⟩ | ⟨o, hq, q⟩
  · obtain ⟨z, hd, vs, rel, dd⟩ := dk_of I1.hok hq
    obtain ⟨o, es, ep, ho, hc, hdat, _⟩ := dd
    refine dict_iter hd ho hc hdat ?_
    have I2 := I1.freezeK hq ho
    refine ⟨s1.heap.objs.size, [s1.heap.objs.size], _, _, _, rfl, I2.kept (t' := s1.toks) fun b o e => Heap.get?_push_of_some _ e, turn_dictK a _ o kvs es ep hdat, ⟨_, Heap.get?_push_size _ rfl, rfl, rfl⟩, fun b hb => ?_, q o⟩
    have e : b = s1.heap.objs.size := by simpa using hb
    subst e
    exact I2.fpOk (Nat.le_refl _) (I2.hok.fresh (Nat.le_refl _))
  · obtain ⟨ho, z, hd, vs, rel, o', es, ep, ho', hc, hdat, _⟩ := (show ObjOk X.prog X.w H1 s1.heap a (.frz o (.dK kvs)) from I1.hok a _ hq)
    rw [ho] at ho'
    cases ho'
    refine dict_iter hd ho hc hdat ?_
    refine ⟨s1.heap.objs.size, [s1.heap.objs.size], _, _, _, rfl, I1.kept (t' := s1.toks) fun b o e => Heap.get?_push_of_some _ e, turn_dictK a _ o kvs es ep hdat, ⟨_, Heap.get?_push_size _ rfl, rfl, rfl⟩, fun b hb => ?_, q⟩
    have e : b = s1.heap.objs.size := by simpa using hb
    subst e
    exact I1.fpOk (Nat.le_refl _) (I1.hok.fresh (Nat.le_refl _))
def Ends.thawK (D : Ends) (a : Addr) (kvs : List (Key × V)) : Ends where
  nx := fun σ H => (∃ o, H a = some (.frz o (.dK kvs))) ∧ D.nx σ (upd H a (.dK kvs))
  rt := fun v H => (∃ o, H a = some (.frz o (.dK kvs))) ∧ D.rt v (upd H a (.dK kvs))
  bk := fun σ H => (∃ o, H a = some (.frz o (.dK kvs))) ∧ D.bk σ (upd H a (.dK kvs))
  ct := fun σ H => (∃ o, H a = some (.frz o (.dK kvs))) ∧ D.ct σ (upd H a (.dK kvs))
def tThawK (t : TS) : TS := fun D σ H => (∃ a kvs, H a = some (.dK kvs) ∧ t (D.thawK a kvs) σ H) ∨ t D σ H
theorem ps_thawK {X : Cx} {st : Stmt} {t : TS} (h : PS X st t) : PS X st (tThawK t) := by
  intro pins s σ H D I q
  rcases q with ⟨a, kvs, e, q⟩ | q
  · have nf : ∀ o w, X.H₀ a ≠ some (.frz o w) := fun o w z => by
      have := I.base.frzs a o w z
      rw [e] at this
      cases this
    refine thn (h pins s σ H _ I q) fun f s' y => ?_
    cases f with
    | next => obtain ⟨σ', H', I', ⟨o, z⟩, d⟩ := y; exact ⟨σ', _, I'.thawK z nf, d⟩
    | brk => obtain ⟨σ', H', I', ⟨o, z⟩, d⟩ := y; exact ⟨σ', _, I'.thawK z nf, d⟩
    | cont => obtain ⟨σ', H', I', ⟨o, z⟩, d⟩ := y; exact ⟨σ', _, I'.thawK z nf, d⟩
    | ret u => obtain ⟨v, σ', H', I', rv, ⟨o, z⟩, d⟩ := y; exact ⟨v, σ', _, I'.thawK z nf, rv, d⟩
  · exact h pins s σ H D I q
def tThawE (t : TE) : TE := fun σ H Q => (∃ a kvs, H a = some (.dK kvs) ∧ t σ H fun v H' => (∃ o, H' a = some (.frz o (.dK kvs))) ∧ Q v (upd H' a (.dK kvs))) ∨ t σ H Q
theorem pe_thawK {X : Cx} {e : Expr} {t : TE} (h : PE X e t) : PE X e (tThawE t) := by
  intro pins s σ H Q I q
  rcases q with ⟨a, kvs, e', q⟩ | q
  · have nf : ∀ o w, X.H₀ a ≠ some (.frz o w) := fun o w z => by
      have := I.base.frzs a o w z
      rw [e'] at this
      cases this
    refine thn (h pins s σ H _ I q) fun u s' ⟨v, H', I', rv, ⟨o, z⟩, d⟩ => ?_
    exact ⟨v, _, I'.thawK z nf, rv, d⟩
  · exact h pins s σ H Q I q
theorem src_dictK {a : Addr} {o : Obj} {kvs : List (Key × V)} {H : Hp} (h : H a = some (.frz o (.dK kvs))) : SrcIs (Itk a o kvs) H (kvs.map fun kv => kV kv.1) :=
  ⟨fun i hi => ⟨h, by simpa using hi⟩, fun i x H' hi y => ⟨y.1, by
    obtain ⟨_, k, v, e, hk⟩ := y
    rw [List.getElem?_map, hk, e]
    rfl⟩, ⟨h, by simp⟩⟩
theorem for_dictK {a : Addr} {o : Obj} {kvs : List (Key × V)} {g : TG} {tb : TS} {D : Ends} {σ : St} {H : Hp} (Pv : Nat → St → Hp → Prop) (h0 : Pv 0 σ H) (hl : ∀ i σ H, i ≤ kvs.length → Pv i σ H → H a = some (.frz o (.dK kvs)))
    (hs : ∀ i k v σ H, kvs[i]? = some (k, v) → Pv i σ H → g (kV k) σ H fun σ2 H2 => tb { D with nx := Pv (i + 1), ct := Pv (i + 1), bk := D.nx } σ2 H2) (hd : ∀ σ H, Pv kvs.length σ H → D.nx σ H) :
    ∃ W : Nat → Nat → St → Hp → Prop, (∃ m, W 0 m σ H) ∧ ∀ i m σ H, W i m σ H →
      ((Itk a o kvs).stop i H ∧ D.nx σ H) ∨ ((Itk a o kvs).go i H ∧ ∃ N : St → Hp → Prop, (∀ σ' H', N σ' H' → ∃ m', m' < m ∧ W (i + 1) m' σ' H') ∧ ∀ x H', (Itk a o kvs).yld i H x H' → g x σ H' fun σ2 H2 => tb { D with nx := N, ct := N, bk := D.nx } σ2 H2) := by
  refine ⟨fun i m σ H => m = kvs.length - i ∧ i ≤ kvs.length ∧ Pv i σ H, ⟨kvs.length, by simp, Nat.zero_le _, h0⟩, ?_⟩
  rintro i m σ H ⟨rfl, hi, p⟩
  by_cases hlt : i < kvs.length
  · refine .inr ⟨⟨hl i σ H hi p, hlt⟩, Pv (i + 1), fun σ' H' p' => ⟨kvs.length - (i + 1), by omega, rfl, hlt, p'⟩, fun x H' y => ?_⟩
    obtain ⟨e, k, v, e1, e2⟩ := y
    subst e e1
    exact hs i k v σ _ e2 p
  · have e : i = kvs.length := by omega
    subst e
    exact .inl ⟨⟨hl _ σ H (Nat.le_refl _) p, Nat.le_refl _⟩, hd σ H p⟩
theorem Inv.sorted {X : Cx} {pins : List (Addr × Obj)} {σ : St} {H : Hp} {s : Shared} {h' : Heap} {tk : Nat} {a e : Nat} {out : Array Value} {ms : List Int} (I : Inv X pins σ H s) (hk : ∀ b o, s.heap.get? b = some o → h'.get? b = some o) (ha : s.heap.objs.size ≤ a)
    (hm : IntsAre out.toList ms) (hz : ms.length ≤ sizeLine) (ho : h'.get? a = some (seqObj "list" out e)) : Inv X pins σ (upd H a (.lst (ms.map V.int))) { s with heap := h', toks := tk } :=
  I.laid (t' := tk) hk ha (show ObjOk X.prog X.w _ h' _ (.lst (ms.map V.int)) from ⟨by rw [List.length_map]; exact hz, out.toList, e, vals_ints hm, by rw [ho]⟩)
section
variable {prog : Program} {w : World} {A : Around} {E : Value → Shared → Prop} {s : Shared} {K : Type} [DecidableEq K] {knd : KeyKind prog w K} {d : Addr} {kvs : List (K × Value)} {ep : Nat}
theorem collect_dictK {Q : List Value → Shared → Prop} (hh : A.handled = none) (lo : (d == sysModules) = false) (hd : s.heap.DictAt knd d kvs ep) (hn : kvs.length ≤ sizeLine)
    (h : ∀ (h' : Heap) tk (vs : List Value), (∀ b o, s.heap.get? b = some o → h'.get? b = some o) → s.heap.objs.size < h'.objs.size → vs.length = kvs.length → (∀ (j : Nat) (v : Value), vs[j]? = some v → ∃ k x, kvs[j]? = some (k, x) ∧ knd.is k v = true) → Q vs { s with heap := h', toks := tk }) :
    wpAny (model prog w) A (collect (.ref d)) Q E s := by
  have lt := hd.lt_size
  have hS : (s.heap.push (seqObj "list" #[] 0)).get? s.heap.objs.size = some (seqObj "list" #[] 0) := Heap.get?_push_size _ rfl
  have hd' : (s.heap.push (seqObj "list" #[] 0)).DictAt knd d kvs ep := hd.push _
  unfold collect
  refine wpAny_bind (wpAny_runValue (codeAny_builtin entry_proto_collect' (wpAny_bind (wpAny_newList (wpAny_pure ⟨Code.quiet_builtin _ (by decide +kernel), codeAny_builtin entry_list_iadd' ?_⟩)))))
  show wpAny (model prog w) A.in1 (Builtin.List.listExtendWith (.ref s.heap.objs.size) (.ref d) (.ref s.heap.objs.size)) _ _ _
  have lay : ∀ {h' : Heap} {tk : Nat} {acc : Array Value} {c : Nat}, (∀ b o, b ≠ s.heap.objs.size → (s.heap.push (seqObj "list" #[] 0)).get? b = some o → h'.get? b = some o) → h'.get? s.heap.objs.size = some { cls := .type "list", dict := none, data := .seq acc c, slots := #[] } →
      ItemsOf (fun i v => ∃ k x, kvs[i]? = some (k, x) ∧ knd.is k v = true) acc kvs.length → Q acc.toList { s with heap := h', toks := tk } := fun {h'} {tk} {acc} {c} hk hl hacc =>
    h h' tk acc.toList (fun b o hb => hk b o (Nat.ne_of_lt (Heap.lt_size hb)) (Heap.get?_push_of_some _ hb)) (Heap.lt_size hl) (by rw [Array.length_toList]; exact hacc.1) fun j v e => hacc.2 j v (by simpa using e)
  have R := PySem.W.kdl_extend (A := A) (s := { s with heap := s.heap.push (seqObj "list" #[] 0) }) (R := fun r s' => r = .ok (.ret (.ref s.heap.objs.size)) ∧ ∃ acc c, s'.heap.get? s.heap.objs.size = some { cls := .type "list", dict := none, data := .seq acc c, slots := #[] } ∧ Q acc.toList s')
    (PySem.W.kdl_dict lo) hh hd' s.heap.objs.size (Nat.ne_of_gt lt) (Nat.ne_of_gt lt) (.ref s.heap.objs.size) 0 hS (fun h' tk acc c hk hl hacc => ⟨rfl, acc, c, hl, lay hk hl hacc⟩) hn
  refine wpAny_mono R (fun f s' y => ?_) fun e s' y => by cases y.1
  cases f with
  | done f =>
    obtain ⟨e, acc, c, hl, q⟩ := y
    cases e
    exact wpAny_bind (wpAny_load hl (wpAny_pure q))
  | again c' =>
    refine ⟨y.1, codeAny_mono y.2 fun r s2 z => ?_⟩
    obtain ⟨e, acc, c, hl, q⟩ := z
    subst e
    exact wpAny_bind (wpAny_load hl (wpAny_pure q))
theorem sorted_dictK {ns : List Int} {Q : Value → Shared → Prop} (hh : A.handled = none) (lo : (d == sysModules) = false) (hd : s.heap.DictAt knd d kvs ep) (hn : kvs.length < 64)
    (hI : ∀ vs : List Value, vs.length = kvs.length → (∀ (j : Nat) (v : Value), vs[j]? = some v → ∃ k x, kvs[j]? = some (k, x) ∧ knd.is k v = true) → IntsAre vs ns)
    (h : ∀ (h' : Heap) (tk : Nat) (a e : Nat) (out : Array Value) (ms : List Int), (∀ b o, s.heap.get? b = some o → h'.get? b = some o) → s.heap.objs.size ≤ a → h'.get? a = some (seqObj "list" out e) → IntsAre out.toList ms → ms.Perm ns → ms.Pairwise (· ≤ ·) → Q (.ref a) { s with heap := h', toks := tk }) :
    wpAny (model prog w) A (call (.builtin "sorted") [.ref d]) Q E s := by
  refine Calls.call_function_entry kind_sorted plain_sorted entry_sorted (args_sorted1 (.ref d)) (show wpAny _ _ (Builtin.«sorted» _) _ _ _ from ?_)
  unfold Builtin.«sorted»
  refine wpAny_bind (m := checkCount "sorted" 1 1 _) (wpAny_pure (wpAny_bind (collect_dictK hh lo hd (by rw [sizeLine_eq]; omega) fun h1 tk vs hk le hl hv => wpAny_bind (wpAny_newList ?_))))
  have hoL : (h1.push (seqObj "list" vs.toArray 0)).get? h1.objs.size = some (seqObj "list" vs.toArray 0) := Heap.get?_push_size _ rfl
  have he : ∀ out : Array Value, ∃ e, (sortedHeap (h1.push (seqObj "list" vs.toArray 0)) h1.objs.size vs out).get? h1.objs.size = some (seqObj "list" out e) := fun out => sortedHeap_at hoL
  have kept : ∀ (out : Array Value) b o, s.heap.get? b = some o → (sortedHeap (h1.push (seqObj "list" vs.toArray 0)) h1.objs.size vs out).get? b = some o := fun out b o hb => by
    have l1 := Heap.lt_size (hk b o hb)
    rw [sortedHeap_old (Nat.ne_of_lt l1) (by rw [size_push']; exact Nat.lt_succ_of_lt l1)]
    exact Heap.get?_push_of_some _ (hk b o hb)
  refine wpAny_bind (wpAny_holding (wpAny_call_entry slot_list_sort ⟨_, hoL, rfl⟩ entry_list_sort (list_sort_tree hoL (hI vs hl hv) (by omega) fun out ms p1 p2 p3 => ⟨.none, rfl, wpAny_pure ⟨_, rfl, ?_⟩⟩) (args_list_sort _)))
  obtain ⟨e, he⟩ := he out
  exact h _ tk _ e out ms (kept out) (Nat.le_of_lt le) he p1 p2 p3
end
theorem ints_keys {P : Program} {w : World} : ∀ (ks : List Int) (us : List Value), us.length = ks.length → (∀ (j : Nat) (v : Value), us[j]? = some v → ∃ k, ks[j]? = some k ∧ (mixKind P w).is (.inl k) v = true) → IntsAre us ks
  | [], [], _, _ => .nil
  | [], _ :: _, h, _ => by simp at h
  | _ :: _, [], h, _ => by simp at h
  | k :: ks, u :: us, h, f => by
    obtain ⟨k', e, hk⟩ := f 0 u rfl
    cases e
    obtain ⟨t, rfl⟩ := (show ∃ t, u = Value.int k t from key_rel hk)
    exact .cons k t (ints_keys ks us (by simpa using h) fun j v e => by
      obtain ⟨k', e', h'⟩ := f (j + 1) v (by simpa using e)
      exact ⟨k', by simpa using e', h'⟩)
theorem keys_at {kvs : List (Int × V)} {vs : List (Key × Value)} (rel : KV (kvs.map fun q => ((Sum.inl q.1 : Key), q.2)) vs) {j : Nat} {k : Key} {x : Value} (h : vs[j]? = some (k, x)) : ∃ n, (kvs.map (·.1))[j]? = some n ∧ k = .inl n := by
  obtain ⟨q, hq, e, _⟩ := Paired.at2 rel h
  rw [List.getElem?_map] at hq
  obtain ⟨p, hp, rfl⟩ := Option.map_eq_some_iff.mp hq
  exact ⟨p.1, by rw [List.getElem?_map, hp]; rfl, e.symm⟩
theorem call_sortedK {X : Cx} (hc : X.calm = true) : CallR X (.builtin "sorted") (fun xs H Q => ∃ p, ∃ kvs : List (Int × V), xs = [.ref p] ∧ Rd H p (.dK (kvs.map fun q => ((Sum.inl q.1 : Key), q.2))) ∧ kvs.length < 64 ∧
    ∀ ms : List Int, ms.Perm (kvs.map (·.1)) → ms.Pairwise (· ≤ ·) → ∀ l, H l = none → Q (.ref l) (upd H l (.lst (ms.map V.int)))) := by
  intro pins s σ H xs us Q I r h
  obtain ⟨p, kvs, rfl, e, hl, q⟩ := h
  obtain ⟨u, rfl, rx⟩ := vals1 r
  cases rx
  obtain ⟨z, hd, vs, rel, o, es, ep, rest⟩ := dk_rd I.hok e
  have lv : vs.length = kvs.length := by rw [← rel.length, List.length_map]
  refine sorted_dictK (knd := mixKind X.prog X.w) (ns := kvs.map (·.1)) (I.ok.hd hc) hd ⟨o, es, rest⟩ (by omega) (fun ws hw hv => ints_keys (P := X.prog) (w := X.w) _ ws (by rw [hw, lv, List.length_map]) fun j v e => ?_) fun h' tk a e out ms hk ha ho h1 h2 h3 => ?_
  · obtain ⟨k, x, hx, his⟩ := hv j v e
    obtain ⟨n, hn, rfl⟩ := keys_at rel hx
    exact ⟨n, hn, his⟩
  · have hm := h2.length_eq
    rw [List.length_map] at hm
    exact ⟨.ref a, _, I.sorted (tk := tk) hk ha h1 (by rw [sizeLine_eq]; omega) ho, rfl, q ms h2 h3 _ (I.hok.fresh ha)⟩
end L2
set_option Elab.async false
set_option linter.all false
set_option maxRecDepth 100000
namespace L2
open PySem PySem.Spec PyProof.Rows
section
variable {prog : Program} {w : World} {A : Around} {E : Value → Shared → Prop} {s : Shared} {d : Addr}
end
end L2
set_option Elab.async false
set_option linter.all false
namespace Hq
open PySem L2
theorem lex_irrefl : ∀ a : List Int, HT.lexLt a a = false
  | [] => rfl
  | x :: a => by rw [HT.lexLt_cons, if_pos rfl]; exact lex_irrefl a
theorem lex_asymm : ∀ {a b : List Int}, HT.lexLt a b = true → HT.lexLt b a = false
  | [], [], h => by cases h
  | [], _ :: _, _ => rfl
  | _ :: _, [], h => by cases h
  | x :: a, y :: b, h => by
    rw [HT.lexLt_cons] at h ⊢
    by_cases e : x = y
    · rw [if_pos e] at h
      rw [if_pos e.symm]
      exact lex_asymm h
    · rw [if_neg e, decide_eq_true_eq] at h
      rw [if_neg (fun z => e z.symm)]
      exact decide_eq_false (by omega)
def Le (a b : List Int) : Prop := HT.lexLt b a = false
theorem Le.refl (a : List Int) : Le a a := lex_irrefl a
theorem Le.of {a b : List Int} (h : HT.lexLt a b = true) : Le a b := lex_asymm h
theorem Le.trans : ∀ {a b c : List Int}, Le a b → Le b c → Le a c
  | [], _, [], _, _ => rfl
  | [], _, _ :: _, _, _ => rfl
  | _ :: _, [], _, h, _ => by cases h
  | _ :: _, _ :: _, [], _, h => by cases h
  | x :: a, y :: b, z :: c, h1, h2 => by
    unfold Le at h1 h2 ⊢
    rw [HT.lexLt_cons] at h1 h2 ⊢
    by_cases e1 : y = x <;> by_cases e2 : z = y
    · rw [if_pos e1] at h1
      rw [if_pos e2] at h2
      rw [if_pos (e2.trans e1)]
      exact Le.trans (a := a) (b := b) h1 h2
    · rw [if_neg e2, decide_eq_false_iff_not] at h2
      rw [if_neg (by omega)]
      exact decide_eq_false (by omega)
    · rw [if_neg e1, decide_eq_false_iff_not] at h1
      rw [if_neg (by omega)]
      exact decide_eq_false (by omega)
    · rw [if_neg e1, decide_eq_false_iff_not] at h1
      rw [if_neg e2, decide_eq_false_iff_not] at h2
      rw [if_neg (by omega)]
      exact decide_eq_false (by omega)
section
variable {α : Type} {k : α → List Int} {ts : List α}
def Hok (k : α → List Int) (ts : List α) : Prop := ∀ (i : Nat) (x y : α), 0 < i → ts[i]? = some x → ts[(i - 1) / 2]? = some y → Le (k y) (k x)
def swp (ts : List α) (p a : Nat) (x y : α) : List α := (ts.set p y).set a x
theorem swp_get {p a : Nat} {x y : α} (hp : p < ts.length) (ha : a < ts.length) (i : Nat) : (swp ts p a x y)[i]? = if i = a then some x else if i = p then some y else ts[i]? := by
  unfold swp
  rw [List.getElem?_set]
  by_cases e : a = i
  · subst e
    rw [if_pos rfl, if_pos rfl, if_pos (by rw [List.length_set]; exact ha)]
  · rw [if_neg e, if_neg (fun z => e z.symm), List.getElem?_set]
    by_cases e2 : p = i
    · subst e2
      rw [if_pos rfl, if_pos rfl, if_pos hp]
    · rw [if_neg e2, if_neg (fun z => e2 z.symm)]
structure Lift (k : α → List Int) (ts : List α) (p : Nat) : Prop where
  up : ∀ (i : Nat) (x y : α), 0 < i → i ≠ p → ts[i]? = some x → ts[(i - 1) / 2]? = some y → Le (k y) (k x)
  gp : 0 < p → ∀ (i : Nat) (x y : α), 0 < i → (i - 1) / 2 = p → ts[i]? = some x → ts[(p - 1) / 2]? = some y → Le (k y) (k x)
theorem lt_of_get {i : Nat} {x : α} (h : ts[i]? = some x) : i < ts.length := (List.getElem?_eq_some_iff.mp h).1
theorem Lift.step {p : Nat} {x y : α} (L : Lift k ts p) (p0 : 0 < p) (hx : ts[p]? = some x) (hy : ts[(p - 1) / 2]? = some y) (h : HT.lexLt (k x) (k y) = true) : Lift k (swp ts p ((p - 1) / 2) x y) ((p - 1) / 2) := by
  have lp := lt_of_get hx
  have la := lt_of_get hy
  have ne : (p - 1) / 2 ≠ p := by omega
  have g := swp_get (x := x) (y := y) lp la
  refine ⟨fun i u v i0 ia hu hv => ?_, fun a0 i u v i0 ia hu hv => ?_⟩
  · rw [g] at hu hv
    rw [if_neg ia] at hu
    by_cases ip : i = p
    · subst ip
      rw [if_pos rfl] at hu hv
      cases hu
      cases hv
      exact Le.of h
    · rw [if_neg ip] at hu
      by_cases ja : (i - 1) / 2 = (p - 1) / 2
      · rw [if_pos ja] at hv
        cases hv
        exact Le.trans (Le.of h) (L.up i u y i0 ip hu (by rw [ja]; exact hy))
      · rw [if_neg ja] at hv
        by_cases jp : (i - 1) / 2 = p
        · rw [if_pos jp] at hv
          cases hv
          exact L.gp p0 i u _ i0 jp hu hy
        · rw [if_neg jp] at hv
          exact L.up i u v i0 ip hu hv
  · rw [g] at hu hv
    have e1 : ¬ ((p - 1) / 2 - 1) / 2 = (p - 1) / 2 := by omega
    have e2 : ¬ ((p - 1) / 2 - 1) / 2 = p := by omega
    rw [if_neg e1, if_neg e2] at hv
    have hz := L.up _ y v a0 ne hy hv
    rw [if_neg (show ¬ i = (p - 1) / 2 by omega)] at hu
    by_cases ip : i = p
    · rw [if_pos ip] at hu
      cases hu
      exact hz
    · rw [if_neg ip] at hu
      exact Le.trans hz (L.up i u y i0 ip hu (by rw [ia]; exact hy))
theorem Lift.done {p : Nat} (L : Lift k ts p) (h : p = 0 ∨ ∃ x y, ts[p]? = some x ∧ ts[(p - 1) / 2]? = some y ∧ HT.lexLt (k x) (k y) = false) : Hok k ts := by
  intro i x y i0 hx hy
  by_cases ip : i = p
  · subst ip
    rcases h with h | ⟨x', y', h1, h2, h3⟩
    · omega
    · rw [hx] at h1
      rw [hy] at h2
      cases h1
      cases h2
      exact h3
  · exact L.up i x y i0 ip hx hy
theorem Lift.start {t : α} (h : Hok k ts) : Lift k (ts ++ [t]) ts.length := by
  refine ⟨fun i x y i0 ip hx hy => ?_, fun p0 i x y i0 ip hx hy => ?_⟩
  · have li := lt_of_get hx
    rw [List.length_append, List.length_cons, List.length_nil] at li
    rw [List.getElem?_append_left (by omega)] at hx
    rw [List.getElem?_append_left (by omega)] at hy
    exact h i x y i0 hx hy
  · have li := lt_of_get hx
    rw [List.length_append, List.length_cons, List.length_nil] at li
    omega
structure Sink (k : α → List Int) (ts : List α) (p : Nat) : Prop where
  up : ∀ (i : Nat) (x y : α), 0 < i → (i - 1) / 2 ≠ p → ts[i]? = some x → ts[(i - 1) / 2]? = some y → Le (k y) (k x)
  gp : 0 < p → ∀ (i : Nat) (x y : α), 0 < i → (i - 1) / 2 = p → ts[i]? = some x → ts[(p - 1) / 2]? = some y → Le (k y) (k x)
structure Lesser (k : α → List Int) (ts : List α) (p b : Nat) : Prop where
  b0 : 0 < b
  bp : (b - 1) / 2 = p
  le : ∀ (i : Nat) (x y : α), 0 < i → (i - 1) / 2 = p → ts[i]? = some x → ts[b]? = some y → Le (k y) (k x)
theorem Sink.step {p b : Nat} {x y : α} (S : Sink k ts p) (B : Lesser k ts p b) (hx : ts[b]? = some x) (hy : ts[p]? = some y) (h : HT.lexLt (k x) (k y) = true) : Sink k (swp ts p b y x) b := by
  have lb := lt_of_get hx
  have lp := lt_of_get hy
  have b0 := B.b0
  have bp := B.bp
  have g := swp_get (x := y) (y := x) lp lb
  refine ⟨fun i u v i0 jb hu hv => ?_, fun _ i u v i0 jb hu hv => ?_⟩
  · rw [g] at hu hv
    rw [if_neg jb] at hv
    by_cases jp : (i - 1) / 2 = p
    · rw [if_pos jp] at hv
      cases hv
      by_cases ib : i = b
      · rw [if_pos ib] at hu
        cases hu
        exact Le.of h
      · rw [if_neg ib, if_neg (by omega)] at hu
        exact B.le i u _ i0 jp hu hx
    · rw [if_neg jp] at hv
      rw [if_neg (fun z => jp (by rw [z]; exact bp))] at hu
      by_cases ip : i = p
      · rw [if_pos ip] at hu
        cases hu
        subst ip
        exact S.gp i0 b _ v b0 bp hx hv
      · rw [if_neg ip] at hu
        exact S.up i u v i0 jp hu hv
  · rw [g] at hu hv
    rw [if_neg (show ¬ (b - 1) / 2 = b by omega), if_pos bp] at hv
    cases hv
    rw [if_neg (show ¬ i = b by omega), if_neg (show ¬ i = p by omega)] at hu
    exact S.up i u _ i0 (by omega) hu (by rw [jb]; exact hx)
theorem Sink.done {p : Nat} (S : Sink k ts p) (h : (∀ i, 0 < i → (i - 1) / 2 = p → ts[i]? = none) ∨ ∃ b x y, Lesser k ts p b ∧ ts[b]? = some x ∧ ts[p]? = some y ∧ HT.lexLt (k x) (k y) = false) : Hok k ts := by
  intro i x y i0 hx hy
  by_cases ip : (i - 1) / 2 = p
  · rcases h with h | ⟨b, x', y', B, h1, h2, h3⟩
    · rw [h i i0 ip] at hx
      cases hx
    · rw [ip, h2] at hy
      cases hy
      exact Le.trans h3 (B.le i x x' i0 ip hx h1)
  · exact S.up i x y i0 ip hx hy
theorem Sink.start {z : α} (h : Hok k ts) : Sink k (ts.set 0 z) 0 := by
  refine ⟨fun i x y i0 jp hx hy => ?_, fun p0 => absurd p0 (Nat.lt_irrefl _)⟩
  rw [List.getElem?_set_ne (by omega)] at hx
  rw [List.getElem?_set_ne (by omega)] at hy
  exact h i x y i0 hx hy
theorem Hok.init {t : α} (h : Hok k (ts ++ [t])) : Hok k ts := by
  intro i x y i0 hx hy
  have li := lt_of_get hx
  exact h i x y i0 (by rw [List.getElem?_append_left li]; exact hx) (by rw [List.getElem?_append_left (by omega)]; exact hy)
end
end Hq
set_option Elab.async false
set_option linter.all false
set_option maxRecDepth 100000
namespace L2
open PySem PySem.Spec PyProof.Rows PySem.W
section
variable {n : Nat} {lt : Nat → Nat → Bool} {cmp : Nat → Nat → (Bool → Shared → Prop) → Shared → Prop} {s : Shared}
def Pm (n : Nat) (p : Array Nat) : Prop := p.Perm (List.range n).toArray
theorem Pm.size {p : Array Nat} (h : Pm n p) : p.size = n := by
  have := Array.Perm.size_eq h
  simpa using this
end
end L2
set_option Elab.async false
set_option linter.all false
set_option maxRecDepth 100000
namespace L2
open PySem PySem.Spec PyProof.Rows PySem.W Hq
def TupI (h : Heap) (v : Value) (k : List Int) : Prop := ∃ a o xs m, v = .ref a ∧ h.get? a = some o ∧ o.cls = .type "tuple" ∧ o.data = .seq xs m ∧ IntsAre xs.toList k
theorem TupI.keep {h h' : Heap} {v : Value} {k : List Int} (t : TupI h v k) (e : ∀ a o, h.get? a = some o → o.cls = .type "tuple" → h'.get? a = some o) : TupI h' v k := by
  obtain ⟨a, o, xs, m, h1, h2, h3, h4, h5⟩ := t
  exact ⟨a, o, xs, m, h1, e a o h2 h3, h3, h4, h5⟩
section
variable {prog : Program} {w : World} {A : Around} {E : Value → Shared → Prop} {s : Shared}
def Tups (h : Heap) (vs : List Value) (ks : List (List Int)) : Prop := Paired (TupI h) vs ks
end
end L2
set_option Elab.async false
set_option linter.all false
set_option maxRecDepth 100000
namespace L2
open PySem PySem.Spec PyProof.Rows PySem.W Hq
theorem HOk.tups {P : Program} {w : World} {H : Hp} {h : Heap} (ok : HOk P w H h) {k : Addr → List Int} : ∀ {ts : List Addr}, (∀ t ∈ ts, H t = some (.tup ((k t).map V.int))) → Tups h (ts.map Value.ref) (ts.map k)
  | [], _ => .nil
  | t :: ts, e => .cons (by
      obtain ⟨_, its, r, o, e1, e2, m, e3⟩ := (show ObjOk P w H h t (.tup ((k t).map V.int)) from ok t _ (e t List.mem_cons_self))
      exact ⟨t, o, its.toArray, m, rfl, e1, e2, e3, intsAre_of r⟩) (HOk.tups ok fun x hx => e x (List.mem_cons_of_mem _ hx))
section
variable {prog : Program} {w : World} {A : Around} {E : Value → Shared → Prop}
def StT (I l : Addr) (vs : List Value) (ks : List (List Int)) (i : Nat) (h : Heap) : Prop := h.IsListIter I l i ∧ h.IsList l vs.toArray ∧ Tups h vs ks
theorem StT.keep {I l : Addr} {vs : List Value} {ks : List (List Int)} {i : Nat} {h h' : Heap} (st : StT I l vs ks i h) (e1 : ∀ o, h.get? I = some o → h'.get? I = some o) (e2 : ∀ b o, b ≠ I → h.get? b = some o → o.cls = .type "list" ∧ b = l ∨ o.cls = .type "tuple" → h'.get? b = some o) : StT I l vs ks i h' := by
  obtain ⟨⟨o, ho, hc, hd⟩, ⟨o2, h2, c2, d2⟩, hT⟩ := st
  refine ⟨⟨o, e1 o ho, hc, hd⟩, ⟨o2, e2 l o2 (fun z => ?_) h2 (.inl ⟨c2, rfl⟩), c2, d2⟩, Paired.mapP hT fun v k t => t.keep fun a u ea ec => e2 a u (fun z => ?_) ea (.inr ec)⟩
  · rw [z, ho] at h2
    cases h2
    rw [hc] at c2
    exact absurd c2 (by decide)
  · rw [z, ho] at ea
    cases ea
    rw [hc] at ec
    exact absurd ec (by decide)
end
end L2
set_option Elab.async false
set_option linter.all false
set_option maxRecDepth 100000
namespace L2
open PySem PySem.Spec PyProof.Rows PySem.W Hq
open PySem.SeqAt PySem.MeetsSeq
open PySem.AutoSeq1 (wpAny_loadPart')
end L2
set_option Elab.async false
set_option linter.all false
set_option maxRecDepth 100000
namespace L2
open PySem PySem.Spec PyProof.Rows
theorem Hd.but {A : Around} {h h' : Heap} (d : Hd A h) {L : List Addr} (hL : ∀ b ∈ L, ∃ o n, h.get? b = some o ∧ o.cls = .type n) (k : ∀ b o, b ∉ L → h.get? b = some o → h'.get? b = some o) : Hd A h' := by
  rcases d with d | ⟨ea, C, dx, vs, sl, d1, d2, d3⟩
  · exact .inl d
  · refine .inr ⟨ea, C, dx, vs, sl, d1, k _ _ (fun z => ?_) d2, d3⟩
    obtain ⟨o, n, ho, hc⟩ := hL ea z
    rw [d2] at ho
    cases ho
    cases hc
section
variable {prog : Program} {w : World} {A : Around} {E : Value → Shared → Prop} {s : Shared}
end
theorem Inv.handed {X : Cx} {pins : List (Addr × Obj)} {σ : St} {H : Hp} {s : Shared} {h' : Heap} {T : Addr} {o : HO} {t' : Nat} {ch : List Addr} (I : Inv X pins σ H s) (hf : ∀ b ∈ ch, FpOk X pins H b) (k : ∀ b o, b ∉ ch → s.heap.get? b = some o → h'.get? b = some o)
    (hT : s.heap.objs.size ≤ T) (new : ObjOk X.prog X.w (upd H T o) h' T o) : Inv X pins σ (upd H T o) { s with heap := h', toks := t' } := by
  have hn : H T = none := I.hok.fresh hT
  have nT : ∀ {b : Addr} {u : Obj}, s.heap.get? b = some u → b ≠ T := fun e => Nat.ne_of_lt (Nat.lt_of_lt_of_le (Heap.lt_size e) hT)
  refine I.step (g' := s.gens) (d' := s.drawn) (ch := ch) (fun b hb => ?_) (fun b o _ _ hc e _ => k b o hc e) (fun b o _ _ hc e _ => ⟨o.slots, k b o hc e⟩) (fun b o _ e n => by rw [upd_ne (nT e)]; exact n)
    (fun b o hc e => ⟨o, k b o hc e⟩) (fun b xs e => by rw [upd_ne (ne_of_none e hn)]; exact e) (fun b o u e => by rw [upd_ne (ne_of_none e hn)]; exact e) (fun b ps e => ⟨#[], by rw [upd_ne (ne_of_none e hn), e]; simp⟩) (fun m hm => ?_) (fun b u e => ?_) I.bare
  · obtain ⟨f0, f1, f2, f3, f4, f5⟩ := hf b hb
    exact ⟨f3, f1, f4, f5⟩
  · obtain ⟨o, es, ep, ho, r⟩ := hm
    exact ⟨o, es, ep, k _ o (fun z => (hf _ z).2.1 rfl) ho, r⟩
  · by_cases hb : b = T
    · subst hb
      rw [upd_same] at e
      cases e
      exact new
    · rw [upd_ne hb] at e
      refine (I.hok b u e).stay (fun c v hc q => k c v (fun z => ?_) q) (fun c q => by rw [upd_ne (ne_of_none q hn)]; exact q) fun c xs q => by rw [upd_ne (ne_of_none q hn)]; exact q
      have n0 := (hf c z).1
      rcases hc with y | y
      · rw [y, e] at n0; cases n0
      · rw [n0] at y; cases y
def Itz (K : PySem.W.Frag) (a b : Addr) : It :=
  ⟨fun i H => ∃ xs ys x y, SqL K H a xs ∧ SqL K H b ys ∧ xs[i]? = some x ∧ ys[i]? = some y, fun i H v H' => ∃ T x y, v = .ref T ∧ H T = none ∧ H' = upd H T (.tup [x, y]) ∧ ∀ xs ys, SqL K H a xs → SqL K H b ys → xs[i]? = some x ∧ ys[i]? = some y,
   fun i H => ∃ xs ys, SqL K H a xs ∧ SqL K H b ys ∧ (xs.length ≤ i ∨ ys.length ≤ i)⟩
def iZip (K : PySem.W.Frag) (ta : TA) : TI := fun σ H R => ta σ H fun vs H1 => ∃ a b xs ys, vs = [.ref a, .ref b] ∧ SqL K H1 a xs ∧ SqL K H1 b ys ∧ R (Itz K a b) H1
end L2
set_option Elab.async false
set_option linter.all false
set_option maxRecDepth 100000
namespace L2
open PySem PySem.Spec PyProof.Rows
section
variable {prog : Program} {w : World} {A : Around} {E : Value → Shared → Prop} {h : Heap} {g : Array GenState} {d : Drawn} {t : Nat} {os : OsState}
variable {nm q : Str} {C N : Addr} {bs bm bmB : List Value} {hdct : Bool} {sn : List Str} {sub : List Value} {ab : Bool} {col : Option Bool} {dd : Option Addr} {k0 k1 k2 k3 k5 : Option Value} {B newId initId : String}
theorem type_call_initT (F : ExcBaseFacts B newId initId bmB) (T : OwnTail h bmB bm) {mN : Str → Option Value} {rest : List Value} {fI : Addr} {oI : Obj} {Q : PySem.Fin → Shared → Prop}
    (cC : h.get? C = some (excClassObj nm q C N bs bm hdct sn sub ab col dd k0 k1 k2 k3 k5 newId)) (hn : h.Ns N mN) (hi : mN "__init__" = some (.ref fI)) (cI : h.get? fI = some oI) (hfc : oI.cls = .type "function") (hz : rest.length ≤ sizeLine)
    (hq : ∀ h' e, h.objs.size ≤ e → Heap.MadeExcOf h h' e (.ref C) rest → wpAny (model prog w) A (call (.ref fI) (.ref e :: rest)) (fun r s' => r = .none ∧ Q (.done (.ret (.ref e))) s') E ⟨h', g, d, t, os⟩) :
    wpAny (model prog w) A (Builtin.«type.__call__» ⟨.ref C :: rest, []⟩) Q E ⟨h, g, d, t, os⟩ := by
  repeat (first | with_reducible refine wpAny_loadPart_at cC ?_ | with_reducible refine wpAny_madeBy_exc cC ?_ | wp_step)
  refine codeAny_call_builtin_code (Code.quiet_builtin _ F.quiet) (wpAny_check_new_subT F T cC (codeAny_exc_new_subT F T cC ?_ hz))
  show wpAny _ _ _ _ _ _
  have up : ∀ b o, h.get? b = some o → ((h.push { cls := .type "tuple", data := .seq rest.toArray }).push { cls := .ref C, data := .fields #[.ref h.objs.size, .none, .none, .none, .bool false, .none] }).get? b = some o := fun b o e => Heap.get?_push_of_some _ (Heap.get?_push_of_some _ e)
  have cC1 := up _ _ cC
  have cI1 := up _ _ cI
  have hn1 := hn.keeps up
  have T1 := T.keeps up
  have ce : ((h.push { cls := .type "tuple", data := .seq rest.toArray }).push { cls := .ref C, data := .fields #[.ref h.objs.size, .none, .none, .none, .bool false, .none] }).get? (h.objs.size + 1) = some { cls := .ref C, data := .fields #[.ref h.objs.size, .none, .none, .none, .bool false, .none] } := by heap_get
  have mC : (Value.ref C :: bm).contains (.ref C) = true := by simp
  unfold isInstance
  repeat (first | with_reducible refine wpAny_loadPart_at ce ?_ | (with_reducible refine wpAny_isSubtype_exc cC1 ?_; rw [mC]) | wp_step)
  show wpAny _ _ (typeLookup (.ref C) _) _ _ _
  refine wpAny_typeLookup_tail cC1 hn1 T1 F.mroIs F.init.lookup ?_
  rw [hi]
  refine wpAny_holding (wpAny_bind ?_)
  unfold bindSpecial
  refine wpAny_bind (wpAny_typeOf (T := "function") ⟨_, cI1, hfc⟩ ?_)
  rw [if_pos (by decide)]
  refine wpAny_pure (wpAny_bind (wpAny_mono (hq _ (h.objs.size + 1) (Nat.le_succ _) ⟨up, Heap.get?_none_of_le (Nat.le_succ _), h.objs.size, ce, Heap.get?_none_of_le (Nat.le_refl _), Heap.get?_push_of_some _ (Heap.get?_push_at rfl rfl)⟩) (fun r s' hr => ?_) fun _ _ x => x))
  obtain ⟨rfl, hQ⟩ := hr
  wp_walk
  exact hQ
theorem call_initT (F : ExcBaseFacts B newId initId bmB) (T : OwnTail h bmB bm) {mN : Str → Option Value} {rest : List Value} {fI : Addr} {oI : Obj} {Q : Value → Shared → Prop}
    (cC : h.get? C = some (excClassObj nm q C N bs bm hdct sn sub ab col dd k0 k1 k2 k3 k5 newId)) (hn : h.Ns N mN) (hi : mN "__init__" = some (.ref fI)) (cI : h.get? fI = some oI) (hfc : oI.cls = .type "function") (hz : rest.length ≤ sizeLine)
    (hq : ∀ h' e, h.objs.size ≤ e → Heap.MadeExcOf h h' e (.ref C) rest → wpAny (model prog w) (A.under (.builtin "type.__call__" ⟨.ref C :: rest, []⟩)) (call (.ref fI) (.ref e :: rest)) (fun r s' => r = .none ∧ Q (.ref e) s') E ⟨h', g, d, t, os⟩) :
    wpAny (model prog w) A (call (.ref C) rest) Q E ⟨h, g, d, t, os⟩ := by
  have f1 := tc_lookup
  have f2 := tc_bind (.ref C)
  have cT : (⟨h, g, d, t, os⟩ : Shared).TypeIs (.ref C) "type" := ⟨_, cC, rfl⟩
  refine wpAny_call (codeAny_of_tree ?_)
  show wpAny _ _ (callAny (.ref C) _) _ _ _
  repeat (any_goals (first | assumption | with_reducible refine wpAny_loadPart_at cC ?_ | wp_step))
  exact ⟨rfl, codeAny_call_builtin_at (Code.quiet_builtin _ (by decide +kernel)) entry_typeCall (wpAny_check_type_call_sub cC (type_call_initT F T cC hn hi cI hfc hz fun h' e he hm => hq h' e he hm))⟩
end
section
open PySem.W
variable {prog : Program} {w : World} {A : Around} {E : Value → Shared → Prop} {s : Shared} {K : PySem.W.Frag} {x C : Addr}
def onlyValue : List Value → Bool
  | [.type a, .type b, .type c, .type d] => a == "ValueError" && b == "Exception" && c == "BaseException" && d == "object"
  | .ref _ :: r => onlyValue r
  | _ => false
theorem refuse_value0 (self : Value) : refuseLoop self "__setattr__" [.type "ValueError", .type "Exception", .type "BaseException", .type "object"] = pure () := by kernel_rfl
theorem refuse_value (self : Value) : ∀ {l : List Value}, onlyValue l = true → refuseLoop self "__setattr__" l = pure ()
  | [.type a, .type b, .type c, .type d], e => by
    simp only [onlyValue, Bool.and_eq_true, beq_iff_eq] at e
    obtain ⟨⟨⟨rfl, rfl⟩, rfl⟩, rfl⟩ := e
    exact refuse_value0 self
  | .ref c :: r, e => by rw [refuseLoop_ref]; exact refuse_value self (by simpa only [onlyValue] using e)
theorem value_has : ∀ {l : List Value}, onlyValue l = true → l.contains (.type "object") = true
  | [.type a, .type b, .type c, .type d], e => by
    simp only [onlyValue, Bool.and_eq_true, beq_iff_eq] at e
    obtain ⟨⟨⟨rfl, rfl⟩, rfl⟩, rfl⟩ := e
    simp
  | .ref c :: r, e => by rw [List.contains_cons, value_has (l := r) (by simpa only [onlyValue] using e), Bool.or_true]
theorem set_exc {name : Str} {v : Value} {Q : Unit → Shared → Prop} {fs : Array Value} {sl : Array (Option Value)} (X : K.In s.heap) (I : InstAt s.heap x ⟨.ref C, none, .fields fs, sl⟩ C none) (hs : findIn K (.ref C) "__setattr__" = some (some (.builtin "object.__setattr__"))) (hp : (clsIn K C).any (fun cd => onlyValue cd.mro) = true) (ht : findIn K (.ref C) name = some none) (hh : (clsIn K C).any (·.hasDict) = true)
    (h : ∀ h' tk, h'.get? x = some ⟨.ref C, some s.heap.objs.size, .fields fs, sl⟩ → h'.Ns1 s.heap.objs.size (fun y => if y = name then some v else none) → (∀ b o, b ≠ x → s.heap.get? b = some o → h'.get? b = some o) → Q () { s with heap := h', toks := tk }) :
    wpAny (model prog w) A (setAttr (.ref x) name v) Q E s := by
  refine set_plain X I hs ?_
  have SF := PySem.F.store_object
  obtain ⟨cd, hc, ho⟩ := any_some hp
  obtain ⟨cd', hc', hdict⟩ := any_some hh
  obtain rfl : cd = cd' := Option.some.inj (hc.symm.trans hc')
  have ne : cd.mro.isEmpty = false := by cases q : cd.mro with | nil => rw [q] at ho; cases ho | cons _ _ => rfl
  have s1 : Looks (model prog w) s.heap (isInstance (.ref x) (.type "object")) true := I.type.andThen (looks_mroIn X (by unfold mroIn; rw [hc, Option.bind_some, if_neg (by rw [ne]; decide), value_has ho]))
  refine codeAny_call_builtin SF.slot.plain SF.entry (@check_slot (model prog w) _ _ { s with toks := s.toks + 1 } "object.__setattr__" "object" "__setattr__" (.ref x) [.str name s.toks, v] [] _ SF.kind SF.split s1 (SF.args (.ref x) (.str name s.toks) v) ?_)
  have hm : Looks (model prog w) s.heap (mroOf (.ref C)) cd.mro := (looks_clsIn X hc).andThen .now
  rw [osa_eq, refuse_eq]
  refine wpAny_bind (wpAny_bind (I.type.here (s := { s with toks := s.toks + 1 }) (wpAny_bind (hm.here (s := { s with toks := s.toks + 1 }) ?_))))
  rw [refuse_value _ ho]
  refine wpAny_pure (wpAny_bind (I.type.here (s := { s with toks := s.toks + 1 }) (wpAny_bind ((looks_findIn X ht).here (s := { s with toks := s.toks + 1 }) (wpAny_bind (wpAny_pure ?_))))))
  obtain ⟨hx, hcl, hno, _⟩ := id I
  have hxs : x ≠ s.heap.objs.size := Nat.ne_of_lt (Heap.lt_size hx)
  refine wpAny_bind (wpAny_pure (wpAny_bind (wpAny_bind (wpAny_loadPart hx (wpAny_bind ((looks_clsIn X hc).here (s := { s with toks := s.toks + 1 }) ?_))))))
  rw [hdict]
  have hx1 : (s.heap.push { cls := .type "dict", data := .dict #[] }).get? x = some ⟨.ref C, none, .fields fs, sl⟩ := Heap.get?_push_of_some _ hx
  refine wpAny_bind (m := alloc { cls := .type "dict", data := .dict #[] }) (wpAny_alloc (wpAny_bind (wpAny_update hx1 (wpAny_pure ?_))))
  have ed : ((s.heap.push { cls := .type "dict", data := .dict #[] }).update x fun o => { cls := o.cls, dict := some s.heap.objs.size, data := o.data, slots := o.slots }).get? s.heap.objs.size = some { cls := .type "dict", data := .dict #[] } := (Heap.get?_update_ne _ _ _ _ hxs.symm).trans (Heap.get?_push_at rfl rfl)
  have nd : ((s.heap.push { cls := .type "dict", data := .dict #[] }).update x fun o => { cls := o.cls, dict := some s.heap.objs.size, data := o.data, slots := o.slots }).Ns s.heap.objs.size (fun _ => none) := ⟨_, #[], _, ed, rfl, fun e he => absurd he (by simp), fun _ => rfl⟩
  show wpAny _ _ (Builtin.ObjectAttr.storeInDict s.heap.objs.size (.str name s.toks) name v) _ _ _
  unfold Builtin.ObjectAttr.storeInDict Builtin.ObjectAttr.newKeyGuard
  refine wpAny_bind (wpAny_pure (wpAny_bind (wpAny_nsSet1 (Heap.Ns1.of_empty nd) fun h' n1 b1 => ?_)))
  obtain ⟨oD, esD, epD, c1, c2, c3⟩ := n1.count (Within.cons name v Within.nil)
  refine wpAny_bind (wpAny_lookBehind c1 (by rw [c2]; exact pastItsLine_dict (Nat.le_trans c3 (by rw [List.length_cons, List.length_nil, sizeLine_eq]; omega))) ?_)
  refine wpAny_pure (h h' _ ((b1.2 x hxs).trans (Heap.get?_update_self _ hx1 rfl)) n1 fun b o bx e => ?_)
  exact (b1.2 b (Nat.ne_of_lt (Heap.lt_size e))).trans ((Heap.get?_update_ne _ _ _ _ bx).trans (Heap.get?_push_of_some _ e))
end
def XObj (x C : Addr) (d : Option Addr) (fs : Array Value) (sl : Array (Option Value)) : Heap → Prop := fun h => h.get? x = some ⟨.ref C, d, .fields fs, sl⟩
theorem xobj_ok {P : Program} {w : World} {H : Hp} {h : Heap} {x C : Addr} {d : Option Addr} {fs : Array Value} {sl : Array (Option Value)} (e : h.get? x = some ⟨.ref C, d, .fields fs, sl⟩) : ObjOk P w H h x (.ext (XObj x C d fs sl)) :=
  ⟨e, ⟨_, e⟩, fun h1 h2 e1 k => k _ e1⟩
structure XCls (K : PySem.W.Frag) (C : Addr) : Prop where
  sa : PySem.W.findIn K (.ref C) "__setattr__" = some (some (.builtin "object.__setattr__"))
  mro : (PySem.W.clsIn K C).any (fun cd => onlyValue cd.mro) = true
  dict : (PySem.W.clsIn K C).any (·.hasDict) = true
def sXFld (K : PySem.W.Frag) (ta tv : TE) (f : Str) : TS := fun D σ H => tv σ H fun v H1 => ta σ H1 fun x H2 => ∃ a C fs sl, x = .ref a ∧ H2 a = some (.ext (XObj a C none fs sl)) ∧ XCls K C ∧ PySem.W.findIn K (.ref C) f = some none ∧
  ∀ dx, H2 dx = none → dx ≠ a → D.nx σ (upd (upd H2 dx (.xd (putF f v []))) a (.ext (XObj a C (some dx) fs sl)))
theorem ps_xfld {X : Cx} {o value : Expr} {f : Str} {ta tv : TE} {pos pos' : Pos} (ha : PE X o ta) (hv : PE X value tv) (hs : swapsWith value (some (.Attribute o f pos')) pos.line X.env = pure false) : PS X (.Assign [.Attribute o f pos'] value pos) (sXFld X.K ta tv f) := by
  intro pins s σ H D I h
  refine plainObj_wpAny_Assign_Attribute (thn (hv pins s σ H _ I h) fun u s1 ⟨y, H1, I1, ry, q⟩ => thn (ha pins s1 σ H1 _ I1 q) fun ov s2 ⟨x, H2, I2, rx, a, C, fs, sl, ex, ea, c, nf, q2⟩ => ?_) hs
  subst ex
  cases (show ov = Value.ref a from rx)
  obtain ⟨ga, _, _⟩ := (show ObjOk X.prog X.w H2 s2.heap a (.ext (XObj a C none fs sl)) from I2.hok a _ ea)
  have ga : s2.heap.get? a = some ⟨.ref C, none, .fields fs, sl⟩ := ga
  have las := Heap.lt_size ga
  have nd : H2 s2.heap.objs.size = none := I2.hok.fresh (Nat.le_refl _)
  have dne : s2.heap.objs.size ≠ a := Nat.ne_of_gt las
  refine set_exc I2.kIn ⟨ga, rfl, rfl, trivial⟩ c.sa c.mro nf c.dict fun h' tk e1 e2 e3 => ⟨σ, _, ?_, q2 _ nd dne⟩
  have na : ∀ {b : Addr} {u : HO}, H2 b = some u → b ≠ s2.heap.objs.size := fun e => ne_of_none e nd
  refine I2.step (g' := s2.gens) (d' := s2.drawn) (ch := []) (fun _ z => nomatch z) (fun b o _ _ _ e n => e3 b o (fun z => by rw [z, ea] at n; cases n) e) (fun b o _ _ _ e n => ⟨o.slots, e3 b o (fun z => by rw [z, ea] at n; cases n) e⟩) (fun b o _ e n => ?_) (fun b o _ e => ?_) (fun b xs e => ?_) (fun b o' u e => ?_) (fun b ps e => ⟨#[], ?_⟩) (fun m hm => ?_) (fun b u e => ?_) I2.bare
  · rw [upd_ne (fun z => by rw [z, ea] at n; cases n), upd_ne (Nat.ne_of_lt (Heap.lt_size e))]
    exact n
  · by_cases z : b = a
    · rw [z]; exact ⟨_, e1⟩
    · exact ⟨o, e3 b o z e⟩
  · rw [upd_ne (ne_of e ea (fun z => by cases z)), upd_ne (na e)]
    exact e
  · rw [upd_ne (ne_of e ea (fun z => by cases z)), upd_ne (na e)]
    exact e
  · rw [upd_ne (ne_of e ea (fun z => by cases z)), upd_ne (na e), e]
    simp
  · obtain ⟨o, es, ep, ho, r⟩ := hm
    exact ⟨o, es, ep, e3 _ o (fun z => by have := I2.free; rw [z, ea] at this; cases this) ho, r⟩
  · by_cases z : b = a
    · subst z
      rw [upd_same] at e
      cases e
      exact xobj_ok e1
    · rw [upd_ne z] at e
      by_cases z2 : b = s2.heap.objs.size
      · subst z2
        rw [upd_same] at e
        cases e
        refine ⟨_, e2, fun g => ?_⟩
        rw [lookup_putF]
        by_cases gf : g = f
        · rw [if_pos gf, if_pos gf]
          exact ry
        · rw [if_neg gf, if_neg gf]
          trivial
      · rw [upd_ne z2] at e
        refine (I2.hok b u e).stay (fun c v hc q => e3 c v (fun y => ?_) q) (fun c q => ?_) fun c xs q => ?_
        · rcases hc with y2 | y2
          · exact z (y2.symm.trans y)
          · rw [y, ea] at y2; cases y2
        · rw [upd_ne (ne_of q ea (fun z => by cases z)), upd_ne (na q)]
          exact q
        · rw [upd_ne (ne_of q ea (fun z => by cases z)), upd_ne (na q)]
          exact q
def del (H : Hp) (a : Addr) : Hp := fun b => if b = a then none else H b
theorem del_ne {H : Hp} {a b : Addr} (h : b ≠ a) : del H a b = H b := if_neg h
theorem del_self {H : Hp} {a : Addr} : del H a a = none := if_pos rfl
theorem del_some {H : Hp} {a b : Addr} {o : HO} (h : del H a b = some o) : b ≠ a ∧ H b = some o := by
  by_cases e : b = a
  · rw [e, del_self] at h; cases h
  · rw [del_ne e] at h; exact ⟨e, h⟩
theorem hok_del {P : Program} {w : World} {H : Hp} {h : Heap} {a : Addr} {φ : Heap → Prop} (ok : HOk P w H h) (ea : H a = some (.ext φ)) : HOk P w (del H a) h := fun b u e => by
  obtain ⟨ne, e⟩ := del_some e
  exact (ok b u e).stay (fun _ _ _ q => q) (fun c q => by rw [del_ne (fun z => by rw [z, ea] at q; cases q)]; exact q) fun c xs q => by rw [del_ne (fun z => by rw [z, ea] at q; cases q)]; exact q
structure XD (X : Cx) (WX : WXT) : Prop where
  raise : ∀ (pins : List (Addr × Obj)) (σ : St) (H : Hp) (s : Shared) (e C dx : Addr) (fs : Array Value) (sl : Array (Option Value)), Inv X pins σ H s → H e = some (.ext (XObj e C (some dx) fs sl)) → fs[1]? = some Value.none → fs[2]? = some Value.none → X.s₀.heap.get? e = none →
    WX σ (.ref C) (some dx) (del H e) → X.xe (.ref e) s
section
variable {P : Program} {w : World} {K : PySem.W.Frag} {mg : Str → Option Value} {base : Heap} {N : List Str} {qual : Str} {scope : Scope} {f : Addr} {cd : Value} {A : Around} {outer : List Env} {s₀ : Shared} {H₀ : Hp} {E : XK}
theorem xd_fn : XD (cxOf (CXE P w) P w K mg base N qual scope f cd A outer s₀ H₀ E) (fun _ => E) where
  raise := fun pins σ H s e C dx fs sl I ea f1 f2 new hE => by
    have hst : (cxOf (CXE P w) P w K mg base N qual scope f cd A outer s₀ H₀ E).stack = envOfC qual scope s₀.heap.objs.size f cd :: outer := rfl
    have stF := I.stkFree
    have stS := I.stack
    rw [hst] at stF stS
    have he : s.heap.get? e = some ⟨.ref C, some dx, .fields fs, sl⟩ := (show ObjOk P w H s.heap e (.ext (XObj e C (some dx) fs sl)) from I.hok e _ ea).1
    have nst : ∀ b o, s₀.heap.get? b = some o → b ∉ frs outer → b ∉ e :: frs (envOfC qual scope s₀.heap.objs.size f cd :: outer) := fun b o q n z => by
      rcases List.mem_cons.mp z with z | z
      · rw [z, show s₀.heap.get? e = none from new] at q; cases q
      · rcases List.mem_cons.mp (show b ∈ s₀.heap.objs.size :: frs outer from z) with z | z
        · exact absurd (Heap.lt_size q) (by rw [z]; exact Nat.lt_irrefl _)
        · exact n z
    have hn : (PySem.W.hideAll s.heap (e :: frs (envOfC qual scope s₀.heap.objs.size f cd :: outer))).get? e = none := PySem.W.hideAll_none _ List.mem_cons_self
    have fr0 : s.heap.FunFrames (PySem.W.hideAll s.heap (e :: frs (envOfC qual scope s₀.heap.objs.size f cd :: outer))) (envOfC qual scope s₀.heap.objs.size f cd :: outer) :=
      PySem.W.funFrames_hide stS fun env he a ha => List.mem_cons_of_mem _ (List.mem_filterMap.mpr ⟨env, he, ha⟩)
    show wpAny (model P w) (A.deeper (envOfC qual scope s₀.heap.objs.size f cd)) (leaving (envOfC qual scope s₀.heap.objs.size f cd) (.ref e)) _ _ _
    refine leave_first (s := s) (B := PySem.W.hideAll s.heap (e :: frs (envOfC qual scope s₀.heap.objs.size f cd :: outer))) (env := envOfC qual scope s₀.heap.objs.size f cd) (outer := outer) (L := s₀.heap.objs.size) I.ok.frames rfl (fun b o q => PySem.W.of_hideAll _ q) hn fr0 he f2 f1 fun h2 fl up => ?_
    refine ⟨e, .ref C, some dx, del H e, _, rfl, I.os, I.bare, fl, hok_hide (hok_del I.hok ea) (fun b hb => ?_), ⟨fun b o q n nf => PySem.W.hideAll_get _ (I.base.keep b o q n nf (fun z => nomatch z)) (nst b o q nf), fun b o q n => ?_, fun b o q nf => ?_, fun b xs q => ?_, fun b o u q => ?_, fun b ps q => ?_⟩, fun b o hb q => ?_, hE⟩
    · rcases List.mem_cons.mp hb with z | z
      · rw [z]; exact del_self
      · by_cases y : b = e
        · rw [y]; exact del_self
        · rw [del_ne y]; exact stF b z
    · by_cases y : b = e
      · rw [y]; exact del_self
      · rw [del_ne y]; exact I.base.free b o q n (fun z => nomatch z)
    · obtain ⟨o', q'⟩ := I.base.there b o q (fun z => nomatch z)
      exact ⟨o', PySem.W.hideAll_get _ q' (nst b o q nf)⟩
    · have z := I.base.tups b xs q
      rw [del_ne (ne_of z ea (fun y => by cases y))]
      exact z
    · have z := I.base.frzs b o u q
      rw [del_ne (ne_of z ea (fun y => by cases y))]
      exact z
    · obtain ⟨more, z⟩ := I.base.tbls b ps q
      exact ⟨more, by rw [del_ne (ne_of z ea (fun y => by cases y))]; exact z⟩
    · obtain ⟨_, o', q', nf⟩ := I.ok.funs.mem hb
      obtain rfl : o = o' := Option.some.inj ((show s₀.heap.get? b = some o from q).symm.trans q')
      obtain ⟨sl2, z⟩ := I.base.slot b o q (I.ok.frf b hb) hb (fun z => nomatch z)
      exact up b { o with slots := sl2 } z nf
end
section
open PySem.W
variable {M : Model} {A : Around} {E : Value → Shared → Prop} {s : Shared} {env : Env}
variable {nm q : Str} {C N : Addr} {bs bm : List Value} {hdct : Bool} {sn : List Str} {sub : List Value} {ab : Bool} {col : Option Bool} {dd : Option Addr} {k0 k1 k2 k3 k5 : Option Value} {newId : String}
theorem raiseStmtD {x : Sem Value} {Q : Flow → Shared → Prop} (hb : bm.contains (.type "BaseException") = true) (hh : A.handled = none)
    (h : wpAny M A x (fun v s₁ => ∃ e dx t, v = .ref e ∧ s₁.heap.get? C = some (excClassObj nm q C N bs bm hdct sn sub ab col dd k0 k1 k2 k3 k5 newId) ∧ s₁.heap.get? e = some ⟨.ref C, some dx, .fields #[.ref t, .none, .none, .none, .bool false, .none], #[]⟩ ∧ E (.ref e) s₁) E s) :
    wpAny M A (raiseStmt env (some x) none) Q E s := by
  have cB : (Value.ref C :: bm).contains (.type "BaseException") = true := by rw [List.contains_cons, hb, Bool.or_true]
  unfold raiseStmt
  refine wpAny_bind (wpAny_mono h (fun v s₁ h₁ => ?_) fun _ _ x => x)
  obtain ⟨e, dx, t, rfl, cC, ce, hE⟩ := h₁
  obtain ⟨hp, g, d, tk, os⟩ := s₁
  repeat (first | with_reducible refine wpAny_loadPart_at ce ?_ | with_reducible refine wpAny_loadPart_at cC ?_ | (with_reducible refine wpAny_isSubtype_exc cC ?_; rw [cB]) | wp_step)
  exact wpAny_raiseNew_none hh hE
def exiIn (K : Frag) (C f : Addr) : Bool := match K.lookup C with
  | some ⟨.type "type", _, .cls cd, sl⟩ => (match cd.mro, sl.toList with
    | .ref C' :: bm, [_, _, _, _, some (.builtin n), _] => C' == C && n == "ValueError.__new__" && !cd.hasDel && tailIn K [.type "ValueError", .type "Exception", .type "BaseException", .type "object"] bm && nsOkIn K cd.ns && nsIn K cd.ns "__init__" == some (some (.ref f))
    | _, _ => false)
  | _ => false
end
section
open PySem.W
theorem ns_some {K : Frag} {h : Heap} {N : Addr} {m : Str → Option Value} {n : Str} {v : Value} (X : K.In h) (G : h.Ns N m) (e : nsIn K N n = some (some v)) : m n = some v := by
  obtain ⟨o, es, ep, ho, hd, _, hf⟩ := G
  unfold nsIn at e
  split at e
  · rename_i c d es2 n2 sl lk
    have z := X _ _ lk
    rw [ho] at z
    cases z
    cases hd
    split at e
    · rename_i en hen
      cases e
      rw [← hf]
      unfold nsFind findBy
      rw [← Array.find?_toList, hen]
      rfl
    · split at e <;> cases e
  · cases e
variable {X : Cx} {WX : WXT} {k : Nat} {f C : Addr} {fd : FuncData} {ps : List Str} {sp : Sp} {dvs : List V} {ds : List Value} {x : Str} {pos : Pos} {e : Expr} {es : List Expr} {t : TA}
def tRaiseI (WX : WXT) (C : Addr) (sp : Sp) (dvs : List V) (t : TA) : TS := fun D σ H => t σ H fun vs H1 => vs.length ≤ sizeLine ∧ ∀ a fs sl, H1 a = none →
  sp (.ref a :: (vs ++ dvs)) (upd H1 a (.ext (XObj a C none fs sl))) (fun v H2 => v = .non ∧ ∃ dx, H2 a = some (.ext (XObj a C (some dx) fs sl)) ∧ WX σ (.ref C) (some dx) (del H2 a)) E0
theorem ps_raiseI {np cpos : Pos} (hx : XD X WX) (hc : X.calm = true) (hg : Gl X x) (hm : X.mg x = some (.ref C)) (er : exiIn X.K C f = true) (hfn : isFn X.K (.ref f) = true) (F : FnOk X.prog X.w X.K X.mg X.base (CXE X.prog X.w) k f fd ps sp) (hr : Room (k + 1) X.A) (hb : Binds X.K fd ps ds) (hd : Vals dvs ds) (ha : PA X (e :: es) t)
    (hdb : (x == ("__debug__" : Str)) = false := by decide) (he : starEach (e :: es) X.env = (false, eval e X.env) :: starEach es X.env := by rfl) (hpl : (backTo cpos (starEach es X.env)).any (·.1) = false := by rfl) :
    PS X (.Raise (some (.Call (.Name x np) (e :: es) [] cpos)) none pos) (tRaiseI WX C sp dvs t) := by
  intro pins s σ H D I h
  have q := er
  unfold exiIn at q
  split at q
  · rename_i dd cd sl ho
    split at q
    · rename_i C' bm k0 k1 k2 k3 n k5 hm' hs
      simp only [Bool.and_eq_true, beq_iff_eq, Bool.not_eq_true'] at q
      obtain ⟨⟨⟨⟨⟨rfl, rfl⟩, hdel⟩, ht⟩, hok⟩, hni⟩ := q
      obtain ⟨nm, bs, mro, ns, qn, hdc, sn, sub, ab, col, del⟩ := cd
      dsimp only at hm' hdel hok hni
      subst hm' hdel
      obtain rfl : sl = #[k0, k1, k2, k3, some (.builtin "ValueError.__new__"), k5] := by
        obtain ⟨l⟩ := sl
        simp only at hs
        rw [hs]
      have T := tail_of_in I.ok.mod.kin ht
      have pl : (backTo cpos (starEach (e :: es) X.env)).any (·.1) = false := by rw [he]; show (false || (backTo cpos (starEach es X.env)).any (·.1)) = false; rw [hpl]; rfl
      rw [arm_exec_Raise]
      refine wpAny_bind (wpAny_standAt (raiseStmtD (C := C') (nm := nm) (q := qn) (N := ns) (bs := bs) (bm := bm) (hdct := hdc) (sn := sn) (sub := sub) (ab := ab) (col := col) (dd := dd) (k0 := k0) (k1 := k1) (k2 := k2) (k3 := k3) (k5 := k5) (newId := "ValueError.__new__") (T.hasType PySem.F.excBase_ValueError.hasBase) (I.ok.hd hc) ?_))
      refine wpAny_bind (wpAny_mono (wpAny_Call_ofName (ld_glob I hg hm ?_ hdb)) (fun v s₃ h₃ => wpAny_bind (wpAny_standAt (wpAny_pure h₃))) fun _ _ x => x)
      have hp := ha cpos pins s σ H _ I h
      rw [he] at hp
      unfold callWith
      simp only [pl]
      rw [he]
      refine wpAny_bind (wpAny_holding (Calls.evalArgs_plain (wpAny_mono hp (fun us s1 z => wpAny_bind (wpAny_standAt ?_)) fun _ _ z => z)))
      obtain ⟨vs, H1, I1, rv, hz, hw⟩ := z
      have cC : s1.heap.get? C' = _ := I1.kIn _ _ ho
      have hn : s1.heap.Ns ns (X.base.nsMap ns) := (Heap.Ns.of_isNs (isNs_of_in I.ok.mod.kin hok)).keeps I1.bk
      obtain ⟨hp1, g1, d1, t1, os1⟩ := s1
      refine wpAny_bind (wpAny_keeperOf_exc cC ?_)
      obtain ⟨oI, lI, cI⟩ : ∃ oI, X.K.lookup f = some oI ∧ oI.cls = .type "function" := Option.map_eq_some_iff.mp (beq_iff_eq.mp hfn)
      refine wpAny_bind (m := call (.ref C') us) (call_initT PySem.F.excBase_ValueError (T.keeps I1.bk) cC hn (ns_some I.ok.mod.kin (Heap.Ns.of_isNs (isNs_of_in I.ok.mod.kin hok)) hni) (I1.kIn _ _ lI) cI (by rw [← rv.length]; exact hz) fun h' ea hle mk => ?_)
      obtain ⟨tt, hee, _, _⟩ := mk.there
      have hna : H1 ea = none := I1.hok.fresh hle
      have I2 : Inv X pins σ (upd H1 ea (.ext (XObj ea C' none #[.ref tt, .none, .none, .none, .bool false, .none] #[]))) ⟨h', g1, d1, t1, os1⟩ := I1.laid (t' := t1) (fun b u e => mk.keeps b u e) hle (xobj_ok hee)
      have hq := hw ea #[.ref tt, .none, .none, .none, .bool false, .none] #[] hna
      have r2 : Vals (V.ref ea :: (vs ++ dvs)) (Value.ref ea :: (us ++ ds)) := .cons rfl (rv.append hd)
      have hl : (Value.ref ea :: us ++ ds).length = ps.length := by
        have e := r2.length
        rw [F.len _ _ _ _ hq] at e
        exact e.symm
      refine wpAny_call (codeAny_mono (F.run _ X.stack _ _ ⟨Value.ref ea :: us, []⟩ (Value.ref ea :: (us ++ ds)) _ _ E0 (hr.make C' us []) (I2.env0.make C' us []) (hb _ (Value.ref ea :: us) I2.kIn hl) r2 hq) fun r s' hq' => ?_)
      cases r with
      | error e =>
        obtain ⟨_, _, _, _, _, _, _, _, _, _, _, _, z⟩ := hq'
        exact z.elim
      | ok fl => cases fl with
        | ret u =>
          obtain ⟨v, H', I3, rv3, ev, dx, hxe, hwx⟩ := I2.after hq'
          subst ev
          refine ⟨rv3, wpAny_bind (wpAny_holding (wpAny_point (wpAny_pure ⟨ea, dx, tt, rfl, I3.kIn _ _ ho, (show ObjOk X.prog X.w H' s'.heap ea _ from I3.hok ea _ hxe).1, ?_⟩)))⟩
          exact hx.raise pins σ H' s' ea C' dx _ _ I3 hxe rfl rfl (Heap.get?_none_of_le (Nat.le_trans I1.sz hle)) hwx
        | next => exact hq'.elim
        | brk => exact hq'.elim
        | cont => exact hq'.elim
    · cases q
  · cases q
end
section
open PySem.W
variable {X : Cx} {ea C d : Addr} {ob : Obj}
def tXGet (K : PySem.W.Frag) (ea C d : Addr) (te : TE) (f : Str) : TE := fun σ H Q => te σ H fun x H1 => ∃ fs v, x = .ref ea ∧ H1 d = some (.xd fs) ∧ fs.lookup f = some v ∧ ErrA K C ∧ PySem.W.hasDictIn K C = true ∧ PySem.W.findIn K (.ref C) f = some none ∧ Q v H1
def tXGetO (K : PySem.W.Frag) (ea C : Addr) (dx : Option Addr) (te : TE) (f : Str) : TE := fun σ H Q => ∃ d, dx = some d ∧ tXGet K ea C d te f σ H Q
end
end L2
set_option Elab.async false
set_option linter.all false
set_option maxRecDepth 100000
namespace L2
open PySem PySem.Spec PyProof.Rows
def tStepL (K : PySem.W.Frag) (te ti : TE) : TE := fun σ H Q => te σ H fun x H1 => ti σ H1 fun y H2 => ∃ (a : Addr) (xs : List V) (up : Bool), x = .ref a ∧ y = .int (if up then 1 else -1) ∧ SqL K H2 a xs ∧ ∀ p, H2 p = none → Q (.ref p) (upd H2 p (.lst (if up then xs else xs.reverse)))
end L2
set_option Elab.async false
set_option linter.all false
set_option maxRecDepth 100000
namespace L2
open PySem PySem.Spec PyProof.Rows
open AutoSeq1 (wpAny_loadPart')
section
variable {prog : Program} {w : World} {A : Around} {E : Value → Shared → Prop} {s : Shared}
theorem nextT_item {it t : Addr} {i : Nat} {items : Array Value} {x : Value} {Q : Value → Shared → Prop} (hit : s.heap.IsTupleIter it t i) (ht : s.heap.IsTuple t items) (hx : items[i]? = some x)
    (hQ : ∀ h', h'.IsTupleIter it t (i + 1) → Heap.SameBut it s.heap h' → Q x { s with heap := h' }) : wpAny (model prog w) A (Builtin.SmallTypes.nextOf (.ref it)) Q E s := by
  obtain ⟨o, ho, hc, hd⟩ := id hit
  obtain ⟨_, hol, _, _, hdl⟩ := ht
  unfold Builtin.SmallTypes.nextOf
  refine wpAny_bind (wpAny_callSpecial?_slot (name := Str.ofString "__next__") hit.typeIs F.slot_tuple_iterator_next (wpAny_call_entry F.slot_tuple_iterator_next hit.typeIs F.entry_tuple_iterator_next ?_ (F.args_tuple_iterator_next_1 _)))
  refine wpAny_bind (m := field (.ref it) 0) (wpAny_field ho hd (x := .ref t) rfl ?_)
  rw [if_neg (fun z : (Value.ref t == Value.none) = true => nomatch z)]
  refine wpAny_bind (m := field (.ref it) 1) (wpAny_field ho hd (x := .int i 0) rfl (wpAny_bind (m := seqItems? (.ref t)) (wpAny_seqItems hol hdl ?_)))
  simp only [Int.toNat_natCast, hx]
  exact wpAny_bind (wpAny_setField ho hd (by simp) (wpAny_pure ⟨x, rfl, wpAny_pure (hQ _ ⟨_, Heap.get?_update_self _ ho (Obj.isFreed_of_fields (Obj.data_mapFields hd _)), (Obj.cls_mapFields ..).trans hc, by rw [Obj.data_mapFields hd]; simp [rawInt]⟩ (Heap.SameBut.update ..))⟩))
theorem nextT_end {it t : Addr} {i : Nat} {items : Array Value} {Q : Value → Shared → Prop} (hh : Hd A s.heap) (hit : s.heap.IsTupleIter it t i) (ht : s.heap.IsTuple t items) (hx : items[i]? = none)
    (hE : ∀ h' e, Heap.ExtBut it s.heap h' → (∃ o, h'.get? e = some o ∧ o.cls = .type "StopIteration") → E (.ref e) { s with heap := h' }) : wpAny (model prog w) A (Builtin.SmallTypes.nextOf (.ref it)) Q E s := by
  obtain ⟨o, ho, hc, hd⟩ := id hit
  obtain ⟨_, hol, _, _, hdl⟩ := ht
  unfold Builtin.SmallTypes.nextOf
  refine wpAny_bind (wpAny_callSpecial?_slot (name := Str.ofString "__next__") hit.typeIs F.slot_tuple_iterator_next (wpAny_call_entry F.slot_tuple_iterator_next hit.typeIs F.entry_tuple_iterator_next ?_ (F.args_tuple_iterator_next_1 _)))
  refine wpAny_bind (m := field (.ref it) 0) (wpAny_field ho hd (x := .ref t) rfl ?_)
  rw [if_neg (fun z : (Value.ref t == Value.none) = true => nomatch z)]
  refine wpAny_bind (m := field (.ref it) 1) (wpAny_field ho hd (x := .int i 0) rfl (wpAny_bind (m := seqItems? (.ref t)) (wpAny_seqItems hol hdl ?_)))
  simp only [Int.toNat_natCast, hx]
  refine wpAny_bind (wpAny_rule (wpAny_bind (wpAny_setField ho hd (by simp) (stop_told (hh.update (A := A) ho hc _) fun h' e k1 k2 => hE h' e (fun b o hb z => k1 b o ?_) k2))))
  rw [Heap.get?_update_other _ _ (Ne.symm hb)]
  exact z
end
def HdAt (A : Around) (g : Addr) (h : Heap) : Prop := A.handled = none ∨ ∃ (C : Addr) (dx : Option Addr) (vs : Array Value) (sl : Array (Option Value)), A.handled = some (.ref g) ∧ h.get? g = some ⟨.ref C, dx, .fields vs, sl⟩ ∧ vs[2]? = some Value.none
theorem HdAt.hd {A : Around} {g : Addr} {h : Heap} (x : HdAt A g h) : Hd A h := by
  rcases x with x | ⟨C, dx, vs, sl, r⟩
  · exact .inl x
  · exact .inr ⟨g, C, dx, vs, sl, r⟩
theorem Hd.at {A : Around} {h : Heap} (x : Hd A h) (it : Addr) : ∃ g, HdAt A g h ∧ (g = it ∨ ∃ (C : Addr) (o : Obj), h.get? g = some o ∧ o.cls = .ref C) := by
  rcases x with x | ⟨g, C, dx, vs, sl, r⟩
  · exact ⟨it, .inl x, .inl rfl⟩
  · exact ⟨g, .inr ⟨C, dx, vs, sl, r⟩, .inr ⟨C, _, r.2.1, rfl⟩⟩
theorem draws_tup {prog : Program} {w : World} {A : Around} (it l g : Addr) (hne : l ≠ it) (items : Array Value) : Draws prog w A it [it, l, g] items.size (fun i v => items[i]? = some v) (fun i h => h.IsTupleIter it l i ∧ h.IsTuple l items ∧ HdAt A g h) where
  live := fun _ _ st => let ⟨o, ho, _⟩ := st.1; ⟨o, ho⟩
  frame := fun _ _ _ st hk => ⟨st.1.at fun o e => hk it (by simp) o e, let ⟨o, ho, r⟩ := st.2.1; ⟨o, hk l (by simp) o ho, r⟩, st.2.2.imp id fun ⟨C, dx, vs, sl, h1, h2, h3⟩ => ⟨C, dx, vs, sl, h1, hk g (by simp) _ h2, h3⟩⟩
  item := fun i s Q E hi st hQ => by
    refine nextT_item st.1 st.2.1 (x := items[i]) (by simp [hi]) fun h' hit' hs' => hQ _ h' s.toks (by simp [hi]) ⟨hit', st.2.1.extBut hs'.extBut hne, st.2.2.imp id fun ⟨C, dx, vs, sl, h1, h2, h3⟩ => ⟨C, dx, vs, sl, h1, hs'.extBut g _ (fun z => ?_) h2, h3⟩⟩ hs'
    obtain ⟨o, ho, hc, _⟩ := st.1
    rw [z, ho] at h2
    cases h2
    cases hc
  done := fun s Q E st hE => nextT_end st.2.2.hd st.1 st.2.1 (by simp) hE
theorem enum_newT (l : Addr) (items : Array Value) (n : Nat) (dct : Option Addr) (sl : Array (Option Value)) :
    Meets (Builtin.«enumerate.__new__» ⟨[.type "enumerate", .ref l], []⟩) (fun _ R s => s.heap.get? l = some { cls := .type "tuple", dict := dct, data := .seq items n, slots := sl } ∧
      R (.ok (.ret (.ref (s.heap.push { cls := .type "tuple_iterator", data := .fields #[.ref l, .int 0 0] }).objs.size)))
        { s with heap := (s.heap.push { cls := .type "tuple_iterator", data := .fields #[.ref l, .int 0 0] }).push { cls := .type "enumerate", data := .fields #[.none, .bool false, .ref s.heap.objs.size, rawInt 0, .none, .none] } }) :=
  .of_wp fun prog w A R s hz => by
    obtain ⟨hp, g, d, tk, os⟩ := s
    obtain ⟨hl, hr⟩ := hz
    have hsub := sub_enumerate
    have hL : Heap.IsTuple (Shared.heap ⟨hp, g, d, tk, os⟩) l items := ⟨_, hl, rfl, n, rfl⟩
    wp_walk using wpAny_loadPart' hl
    refine wpAny_stack_any fun sk => wpAny_pure ?_
    split
    · rename_i c _ _ _ _ _
      cases (c == Value.type "enumerate")
      · wp_walk using wpAny_loadPart' hl, wpAny_pyIter_tuple hL
        exact ⟨_, rfl, hr⟩
      · wp_walk using wpAny_loadPart' hl, wpAny_pyIter_tuple hL
        exact ⟨_, rfl, hr⟩
    · wp_walk using wpAny_loadPart' hl, wpAny_pyIter_tuple hL
      exact ⟨_, rfl, hr⟩
theorem call_enumT {prog : Program} {w : World} {A : Around} {E : Value → Shared → Prop} {s : Shared} {l : Addr} {items : Array Value} {Q : Value → Shared → Prop} (hL : s.heap.IsTuple l items)
    (h : ∀ h', IsEnum h' (s.heap.objs.size + 1) s.heap.objs.size 0 .none → h'.IsTupleIter s.heap.objs.size l 0 → (∀ b o, s.heap.get? b = some o → h'.get? b = some o) → Q (.ref (s.heap.objs.size + 1)) { s with heap := h' }) :
    wpAny (model prog w) A (call (.type "enumerate") [.ref l]) Q E s := by
  obtain ⟨⟨c, dct, dt, sl⟩, hl, hc, n, hd⟩ := hL
  obtain rfl : c = .type "tuple" := hc
  obtain rfl : dt = .seq items n := hd
  refine callType_new F.called_enumerate (by decide) (F.typeCall_enumerate_1 _) (F.newCall_enumerate_1 _) (fun obj => F.args_object_init_2 obj _) F.entry_enumerate_new (enum_newT l items n dct sl) ⟨hl, ?_⟩
  have hz : (s.heap.push { cls := .type "tuple_iterator", data := .fields #[.ref l, .int 0 0] }).objs.size = s.heap.objs.size + 1 := Heap.size_push ..
  show _ ∧ _
  rw [hz]
  have he : IsEnum ((s.heap.push { cls := .type "tuple_iterator", data := .fields #[.ref l, .int 0 0] }).push { cls := .type "enumerate", data := .fields #[.none, .bool false, .ref s.heap.objs.size, rawInt 0, .none, .none] }) (s.heap.objs.size + 1) s.heap.objs.size 0 .none := by
    have := Heap.get?_push_size (s.heap.push { cls := .type "tuple_iterator", data := .fields #[.ref l, .int 0 0] }) (o := { cls := .type "enumerate", data := .fields #[.none, .bool false, .ref s.heap.objs.size, rawInt 0, .none, .none] }) rfl
    rw [hz] at this
    exact this
  exact ⟨⟨_, he, rfl⟩, h _ he ⟨_, Heap.get?_push_of_some _ (Heap.get?_push_size _ rfl), rfl, rfl⟩ fun b o x => Heap.get?_push_of_some _ (Heap.get?_push_of_some _ x)⟩
def Ite (K : PySem.W.Frag) (a : Addr) : It :=
  ⟨fun i H => ∃ xs x, SqT K H a xs ∧ xs[i]? = some x, fun i H v H' => ∃ T x, v = .ref T ∧ H T = none ∧ H' = upd H T (.tup [.int (i : Nat), x]) ∧ ∀ xs, SqT K H a xs → xs[i]? = some x, fun i H => ∃ xs, SqT K H a xs ∧ xs.length ≤ i⟩
theorem turn_enum {P : Program} {w : World} {K : PySem.W.Frag} {es : List Expr} {kk : Nat} {tpos : Pos} (a e it : Addr) (hei : e ≠ it) (hea : a ≠ it) :
    Turn P w K (.Tuple es kk tpos) (Ite K a) [e, it] e (fun i h => (∃ old, IsEnum h e it (i : Nat) old) ∧ h.IsTupleIter it a i) where
  mem := by simp
  obj := fun i h st c hc => by
    obtain ⟨⟨old, he⟩, o1, p1, c1, e1⟩ := st
    simp only [List.mem_cons, List.not_mem_nil, or_false] at hc
    rcases hc with q | q <;> subst q
    · exact ⟨_, he, fun v q => by cases q⟩
    · exact ⟨o1, p1, fun v q => by rw [e1] at q; cases q⟩
  keep := fun i h h' st k => by
    obtain ⟨⟨old, he⟩, h1⟩ := st
    exact ⟨⟨old, k _ (by simp) _ he⟩, h1.at fun o q => k _ (by simp) o q⟩
  item := by
    intro X hP hw hK hc i pins s σ H E I hf st hg
    subst hP hw hK
    obtain ⟨xs, x, ha, hx⟩ := hg
    obtain ⟨its, rv, p, hz0⟩ := I.tuple ha
    have p : s.heap.IsTuple a its.toArray := p
    obtain ⟨u, hu, ru⟩ := rv.get hx
    obtain ⟨⟨old, he⟩, h1⟩ := id st
    obtain ⟨g, hg1, hg2⟩ := Hd.at (A := X.A.in1) (I.calm hc) it
    have hl : i < its.toArray.size := by
      obtain ⟨hh, _⟩ := List.getElem?_eq_some_iff.mp hu
      simpa using hh
    have hef : e ∉ [it, a, g] := fun z => by
      simp only [List.mem_cons, List.not_mem_nil, or_false] at z
      rcases z with z | z | z
      · exact hei z
      · obtain ⟨o, ho, hoc, _⟩ := p
        rw [← z, he] at ho
        cases ho
        exact absurd (show Value.type "enumerate" = Value.type "tuple" from hoc) (by decide)
      · rcases hg2 with y | ⟨C, o, ho, hoc⟩
        · exact hei (z.trans y)
        · rw [← z, he] at ho
          cases ho
          cases hoc
    refine wpAny_pyNext_enum_itemD (draws_tup (A := X.A.in1) it a g hea its.toArray) he ⟨h1, p, hg1⟩ hl hei hef fun y h' tk hy ho hs' hT hsz hk => ?_
    obtain rfl : y = u := by
      have : its.toArray[i]? = some u := by simpa using hu
      rw [this] at hy
      exact (Option.some.inj hy).symm
    have lt : ∀ {c : Addr} {o : Obj}, s.heap.get? c = some o → s.heap.objs.size ≠ c := fun e => Nat.ne_of_gt (Heap.lt_size e)
    have hn : H s.heap.objs.size = none := I.hok.fresh (Nat.le_refl _)
    have I1 : Inv X pins σ (upd H s.heap.objs.size (.tup [.int (i : Nat), x])) { s with heap := h', toks := tk + 1 } := I.handed (t' := tk + 1) (ch := [e, it]) hf (fun c o hc q => hk c o (fun z => hc (by simp [z])) (fun z => hc (by simp [z])) q) (Nat.le_refl _)
      ⟨by rw [sizeLine_eq]; simp, [.int i tk, y], .cons ⟨tk, rfl⟩ (.cons ru .nil), ⟨_, hT, rfl, 0, rfl⟩⟩
    refine ⟨_, rfl, wpAny_letOwnedTupleGo_enum (s := { s with heap := h', toks := tk + 1 }) ho fun h2' hz' hs2 => ?_⟩
    have fp' : ∀ c ∈ [e, it], upd H s.heap.objs.size (.tup [.int (i : Nat), x]) c = none := fun c hc => by
      obtain ⟨o, q⟩ : ∃ o, s.heap.get? c = some o := by
        obtain ⟨_, p1, _⟩ := id h1
        simp only [List.mem_cons, List.not_mem_nil, or_false] at hc
        rcases hc with q | q <;> subst q
        · exact ⟨_, he⟩
        · exact ⟨_, p1⟩
      rw [upd_ne (Ne.symm (lt q))]
      exact (hf c hc).1
    obtain ⟨f0, f1, f2, f3, f4, f5⟩ := hf e (by simp)
    have I2 : Inv X pins σ (upd H s.heap.objs.size (.tup [.int (i : Nat), x])) { s with heap := h2', toks := tk + 1 } := I1.turned (t' := tk + 1) (fun c o hc q => hs2.extBut c o hc q) (fp' e (by simp)) f1 f3 f4 f5
    exact ⟨.ref s.heap.objs.size, _, I2, rfl, ⟨_, x, rfl, hn, rfl, fun xs' ha' => by rw [I.tuple_inj ha' ha]; exact hx⟩, ⟨⟨_, by simpa using hz'⟩, hs'.1.extBut hs2.extBut hei.symm⟩, fp'⟩
  done := by
    intro X hP hw hK hc i pins s σ H E I hf st hg
    subst hP hw hK
    obtain ⟨xs, ha, hend⟩ := hg
    obtain ⟨its, rv, p, hz0⟩ := I.tuple ha
    have p : s.heap.IsTuple a its.toArray := p
    have l1 := rv.length
    obtain ⟨⟨old, he⟩, h1⟩ := id st
    have hT : s.TypeIs (.ref e) "enumerate" := ⟨_, he, rfl⟩
    obtain ⟨f0, f1, f2, f3, f4, f5⟩ := hf it (by simp)
    unfold pyNext
    refine wpAny_bind (wpAny_attempt (wpAny_callSpecial?_slot (name := Str.ofString "__next__") hT F.slot_enumerate_next (wpAny_call_entry F.slot_enumerate_next hT F.entry_enumerate_next ?_ (F.args_enumerate_next_1 _))))
    refine wpAny_bind (m := field (.ref e) 2) (wpAny_field he rfl (x := .ref it) rfl (wpAny_bind (nextT_end (A := X.A.in1) (I.calm hc) h1 p (by simp; omega) fun h' x eb hx => ?_)))
    exact stop_seen hx ⟨rfl, I.turned (t' := s.toks) (fun b o hb q => eb b o hb q) f0 f1 f3 f4 f5⟩
  self := fun _ _ _ _ _ st h => by
    obtain ⟨⟨old, he⟩, _⟩ := st
    exact wpAny_pyIter_enum he h
def iEnum (K : PySem.W.Frag) (ta : TA) : TI := fun σ H R => ta σ H fun vs H1 => ∃ a xs, vs = [.ref a] ∧ SqT K H1 a xs ∧ R (Ite K a) H1
theorem pi_enum {X : Cx} {es : List Expr} {kk : Nat} {tpos : Pos} {a : Expr} {ta : TA} {p pos : Pos} (hg : Gl X "enumerate") (hm : X.mg "enumerate" = none) (ha : PA X [a] ta) (hs : starEach [a] X.env = [(false, eval a X.env)] := by rfl) :
    PI X (.Tuple es kk tpos) (.Call (.Name "enumerate" p) [a] [] pos) (iEnum X.K ta) := by
  intro pins s σ H R I h
  refine Call_ (ld_blt I hg hm PyProof.Rows.boot_enumerate (PyProof.Rows.callWith_type1 (thn (ha pos pins s σ H _ I h) fun us s1 ⟨vs, H1, I1, r1, q1⟩ => ?_) (by rw [hs]; rfl) rfl))
  obtain ⟨a1, xs, e, h1, q⟩ := q1
  subst e
  obtain ⟨u, rfl, r⟩ := vals1 r1
  cases r
  obtain ⟨its, rv, pl, hz⟩ := I1.tuple h1
  have pl : s1.heap.IsTuple a1 its.toArray := pl
  have l1 : a1 < s1.heap.objs.size := by obtain ⟨_, e, _⟩ := pl; exact Heap.lt_size e
  refine call_enumT pl fun h' he hi hk => wpAny_pyIter_enum he ?_
  have I2 : Inv X pins σ H1 { s1 with heap := h' } := I1.kept (t' := s1.toks) hk
  refine ⟨s1.heap.objs.size + 1, [s1.heap.objs.size + 1, s1.heap.objs.size], _, _, H1, rfl, I2, turn_enum a1 _ _ (Nat.succ_ne_self _) (Nat.ne_of_lt l1), ⟨⟨_, he⟩, hi⟩, fun c hc => ?_, q⟩
  have lc : s1.heap.objs.size ≤ c := by
    simp only [List.mem_cons, List.not_mem_nil, or_false] at hc
    rcases hc with q | q <;> rw [q]
    · exact Nat.le_add_right _ _
    · exact Nat.le_refl _
  exact I1.fpOk lc (I1.hok.fresh lc)
theorem for_enum {K : PySem.W.Frag} {a : Addr} {xs : List V} {g : TG} {tb : TS} {D : Ends} {σ : St} {H : Hp} (Pv : Nat → St → Hp → Prop) (h0 : Pv 0 σ H) (hl : ∀ i σ H, Pv i σ H → SqT K H a xs)
    (hs : ∀ (i : Nat) x σ H T, xs[i]? = some x → Pv i σ H → H T = none → g (.ref T) σ (upd H T (.tup [.int (i : Nat), x])) fun σ2 H2 => tb { D with nx := Pv (i + 1), ct := Pv (i + 1), bk := D.nx } σ2 H2) (hd : ∀ σ H, Pv xs.length σ H → D.nx σ H) :
    ∃ W : Nat → Nat → St → Hp → Prop, (∃ m, W 0 m σ H) ∧ ∀ i m σ H, W i m σ H →
      ((Ite K a).stop i H ∧ D.nx σ H) ∨ ((Ite K a).go i H ∧ ∃ N : St → Hp → Prop, (∀ σ' H', N σ' H' → ∃ m', m' < m ∧ W (i + 1) m' σ' H') ∧ ∀ x H', (Ite K a).yld i H x H' → g x σ H' fun σ2 H2 => tb { D with nx := N, ct := N, bk := D.nx } σ2 H2) := by
  refine ⟨fun i m σ H => m = xs.length - i ∧ i ≤ xs.length ∧ Pv i σ H, ⟨xs.length, by simp, Nat.zero_le _, h0⟩, ?_⟩
  rintro i m σ H ⟨rfl, hi, p⟩
  have q1 := hl i σ H p
  by_cases hlt : i < xs.length
  · refine .inr ⟨⟨xs, xs[i], q1, by simp [hlt]⟩, Pv (i + 1), fun σ' H' p' => ⟨xs.length - (i + 1), by omega, rfl, hlt, p'⟩, fun v H' y => ?_⟩
    obtain ⟨T, x, e1, e2, e3, e4⟩ := y
    subst e1 e3
    exact hs i x σ H T (e4 xs q1) p e2
  · have e : i = xs.length := by omega
    subst e
    exact .inl ⟨⟨xs, q1, Nat.le_refl _⟩, hd σ H p⟩
section
variable {prog : Program} {w : World} {A : Around} {R : Result → Shared → Prop} {I : Addr} {fp wr : List Addr} {n : Nat} {P : Nat → Value → Prop} {St : Nat → Heap → Prop} {d : Value}
theorem maxD_loop (W : Walks prog w A.in1 I fp wr n P St) (bt : Nat → Nat → Bool) (hcmp : CmpOf prog w A.in1 .Gt P bt) (S : Addr) (hSf : S ∉ fp) :
    ∀ (k j : Nat) (s : Shared) (vb : Value) (c : Nat), n - (j + 1) = k → j + 1 ≤ n → St (j + 1) s.heap → P (argBest bt j) vb → s.heap.get? S = some { cls := .type "list", dict := none, data := .seq #[vb, vb] c, slots := #[] } →
    (∀ v h' tk, P (argBest bt (n - 1)) v → (∀ b o, b ∉ wr → b ≠ S → s.heap.get? b = some o → h'.get? b = some o) → R (.ok (.ret v)) { s with heap := h', toks := tk }) →
    codeAny (model prog w) A (.builtin "max.loop" ⟨[.ref I, .none, .ref S], [("default", d)]⟩) R s := by
  have hSw : S ∉ wr := fun h => hSf (W.sub _ h)
  have hnm : (toString "max" ++ toString ".loop" : String) = "max.loop" := by decide
  intro k
  induction k with
  | zero =>
    intro j s vb c hk hj hst hPb hS hR
    have hin : j + 1 = n := by omega
    refine codeAny_builtin F.entry_max_loop ?_
    rw [Around.under_plainId F.plain_max_loop _]
    refine wpAny_bind (m := seqItems? (.ref S)) (wpAny_seqItems hS rfl ?_)
    refine wpAny_bind (m := tryCatch (pyNext (.ref I)) _) (wpAny_tryCatch (W.done s _ _ (hin ▸ hst) fun h' tk hk' => ?_))
    exact wpAny_bind (m := updateSeq S (fun _ => #[])) (wpAny_updateSeq (hk' S _ hSw hS) rfl (wpAny_bind (wpAny_letGo (wpAny_pure (hR vb _ tk (by rw [← hin]; exact hPb) fun b o hbw hbS e => (Heap.get?_update_other _ _ (Ne.symm hbS)).trans (hk' b o hbw e))))))
  | succ k ih =>
    intro j s vb c hk hj hst hPb hS hR
    have hlt : j + 1 < n := by omega
    refine codeAny_builtin F.entry_max_loop ?_
    rw [Around.under_plainId F.plain_max_loop _]
    refine wpAny_bind (m := seqItems? (.ref S)) (wpAny_seqItems hS rfl ?_)
    refine wpAny_bind (m := tryCatch (pyNext (.ref I)) _) (wpAny_tryCatch (W.item (j + 1) s _ _ hlt hst fun v h' tk hP hst' hk' => ?_))
    have hS' := hk' S _ hSw hS
    show wpAny _ A.in1 (tryCatch (holding [v, v] (richCompare .Gt v vb >>= _)) _ >>= _) _ _ _
    refine wpAny_bind (wpAny_tryCatch (wpAny_holding (wpAny_bind (hcmp (j + 1) (argBest bt j) v vb _ _ _ hP hPb ?_))))
    refine wpAny_bind (wpAny_holding (wpAny_truthy_bool (wpAny_bind (wpAny_letGo (wpAny_pure ?_)))))
    cases hb : bt (j + 1) (argBest bt j) with
    | true =>
      simp only [if_true]
      refine wpAny_bind (wpAny_updateSeq hS' rfl (wpAny_bind (wpAny_letGo ?_)))
      rw [hnm]
      refine wpAny_pure ⟨plainId_quiet F.plain_max_loop _, ih (j + 1) _ v _ (by omega) hlt (W.frame _ _ _ hst' fun b hbf o e => (Heap.get?_update_other _ _ (fun h : S = b => hSf (by rw [h]; exact hbf))).trans e) (by simp only [argBest, hb, if_true]; exact hP) (Heap.get?_update_self _ hS' rfl) fun v' h'' tk'' hP' hk'' => ?_⟩
      exact hR v' h'' tk'' hP' fun b o hbw hbS e => hk'' b o hbw hbS ((Heap.get?_update_other _ _ (Ne.symm hbS)).trans (hk' b o hbw e))
    | false =>
      simp only [Bool.false_eq_true, if_false]
      refine wpAny_bind (wpAny_letGo ?_)
      rw [hnm]
      exact wpAny_pure ⟨plainId_quiet F.plain_max_loop _, ih (j + 1) _ vb c (by omega) hlt hst' (by simp only [argBest, hb, Bool.false_eq_true, if_false]; exact hPb) hS' fun v' h'' tk'' hP' hk'' => hR v' h'' tk'' hP' fun b o hbw hbS e => hk'' b o hbw hbS (hk' b o hbw e)⟩
theorem maxD_first (W : Walks prog w A.in1 I fp wr n P St) (bt : Nat → Nat → Bool) (hcmp : CmpOf prog w A.in1 .Gt P bt) (S : Addr) (hSf : S ∉ fp) {s : Shared} {c : Nat} (hst : St 0 s.heap) (hS : s.heap.get? S = some { cls := .type "list", dict := none, data := .seq #[] c, slots := #[] })
    (hR : ∀ v h' tk, ((n = 0 ∧ v = d) ∨ (0 < n ∧ P (argBest bt (n - 1)) v)) → (∀ b o, b ∉ wr → b ≠ S → s.heap.get? b = some o → h'.get? b = some o) → R (.ok (.ret v)) { s with heap := h', toks := tk }) :
    codeAny (model prog w) A (.builtin "max.loop" ⟨[.ref I, .none, .ref S], [("default", d)]⟩) R s := by
  have hSw : S ∉ wr := fun h => hSf (W.sub _ h)
  have hnm : (toString "max" ++ toString ".loop" : String) = "max.loop" := by decide
  refine codeAny_builtin F.entry_max_loop ?_
  rw [Around.under_plainId F.plain_max_loop _]
  refine wpAny_bind (m := seqItems? (.ref S)) (wpAny_seqItems hS rfl ?_)
  rcases Nat.eq_zero_or_pos n with hn | hn
  · refine wpAny_bind (m := tryCatch (pyNext (.ref I)) _) (wpAny_tryCatch (W.done s _ _ (hn ▸ hst) fun h' tk hk' => ?_))
    exact wpAny_bind (wpAny_rule (wpAny_pure (hR d h' tk (.inl ⟨hn, rfl⟩) fun b o hbw hbS e => hk' b o hbw e)))
  · refine wpAny_bind (m := tryCatch (pyNext (.ref I)) _) (wpAny_tryCatch (W.item 0 s _ _ hn hst fun v h' tk hP hst' hk' => ?_))
    have hS' := hk' S _ hSw hS
    refine wpAny_bind (m := updateSeq S (fun _ => #[v, v])) (wpAny_updateSeq hS' rfl ?_)
    rw [hnm]
    refine wpAny_pure ⟨plainId_quiet F.plain_max_loop _, maxD_loop W bt hcmp S hSf _ 0 _ v _ rfl hn (W.frame _ _ _ hst' fun b hbf o e => (Heap.get?_update_other _ _ (fun h : S = b => hSf (by rw [h]; exact hbf))).trans e) hP (Heap.get?_update_self _ hS' rfl) fun v' h'' tk'' hP' hk'' => ?_⟩
    exact hR v' h'' tk'' (.inr ⟨hn, hP'⟩) fun b o hbw hbS e => hk'' b o hbw hbS ((Heap.get?_update_other _ _ (Ne.symm hbS)).trans (hk' b o hbw e))
end
section
variable {prog : Program} {w : World} {A : Around} {E : Value → Shared → Prop} {s : Shared}
theorem tree_kw {id : String} {b : Builtin} {args : List Value} {kw : List (Str × Value)} {Q : Value → Shared → Prop} (hk : builtinKind id = none) (hp : plainId id = true) (hb : entryFor table id = some b) (ha : argsOk id ⟨args, kw⟩)
    (hc : wpAny (model prog w) A.in1 (b ⟨args, kw⟩) (fun fin s' => match fin with
      | .done f => (match (Except.ok f : Result) with | .ok (.ret v) => Q v s' | .ok _ => False | .error e => E e s')
      | .again c' => c'.quiet = true ∧ codeAny (model prog w) A c' (fun r s' => match r with | .ok (.ret v) => Q v s' | .ok _ => False | .error e => E e s') s') E s) : wpAny (model prog w) A (call (.builtin id) args kw) Q E s := by
  refine wpAny_call (codeAny_call_builtin hp hb ?_)
  simp only [checkBuiltinCall, hk]
  cases hsig : Manifest.signature? id with
  | none => exact wpAny_pure hc
  | some sig =>
    have h2 : Bind.checkArgs id sig ⟨args, kw⟩ = pure () := by simpa only [argsOk, hsig] using ha
    simp only [h2]
    exact wpAny_pure hc
theorem args_maxD (a d : Value) : argsOk "max" ⟨[a], [("default", d)]⟩ := by unfold argsOk; kernel_rfl
theorem maxD_list {l : Addr} {xs : Array (Int × Tok)} {d : Value} {Q : Value → Shared → Prop} (hh : A.handled = none) (hl : s.heap.IsList l (intItems xs))
    (h : ∀ v h' tk, ((xs.size = 0 ∧ v = d) ∨ (0 < xs.size ∧ (intItems xs)[argBest (fun i j => decide (numAt xs i > numAt xs j)) (xs.size - 1)]? = some v)) → (∀ b o, s.heap.get? b = some o → h'.get? b = some o) → Q v { s with heap := h', toks := tk }) :
    wpAny (model prog w) A (call (.builtin "max") [.ref l] [("default", d)]) Q E s := by
  have hnm : (toString "max" ++ toString ".loop" : String) = "max.loop" := by decide
  refine tree_kw F.kind_max F.plain_max F.entry_max (args_maxD _ _) ?_
  refine wpAny_bind (m := Builtin.Builtins.bindParams "max" ["key", "default"] 0 ⟨[], [("default", d)]⟩) (wpAny_of_eq (show Builtin.Builtins.bindParams "max" ["key", "default"] 0 ⟨[], [("default", d)]⟩ = pure [none, some d] from rfl) ?_)
  refine wpAny_bind (wpAny_pure ?_)
  refine wpAny_bind (iter_intList hl fun s₂ e st hfp hlI => ?_)
  subst e
  refine wpAny_bind (wpAny_newObj_type ?_)
  have W := Walks.list (prog := prog) (w := w) (A := A.in1) hh _ l hlI (intItems xs)
  rw [hnm]
  refine wpAny_pure ⟨plainId_quiet F.plain_max_loop _, maxD_first W _ (CmpOf.ints_gt (numAt xs) (fun _ _ => intItems_at)) _ (fun hm => Nat.lt_irrefl _ (hfp _ hm)) (W.frame _ _ _ st fun b _ o e => Heap.get?_push_of_some _ e) (Heap.get?_push_size _ rfl) fun v h' tk hP hk => ?_⟩
  refine h v h' tk (by simpa [intItems] using hP) (old_kept (l := l) fun b o hbw e => ?_)
  exact hk b o hbw (Nat.ne_of_lt (Heap.lt_size e)) (Heap.get?_push_of_some _ e)
end
def MaxD (ns : List Int) (z m : Int) : Prop := (ns = [] ∧ m = z) ∨ (m ∈ ns ∧ ∀ a ∈ ns, a ≤ m)
theorem MaxD.uniq {ns : List Int} {z m m' : Int} (h : MaxD ns z m) (h' : MaxD ns z m') : m = m' := by
  rcases h with ⟨h1, h2⟩ | ⟨h1, h2⟩ <;> rcases h' with ⟨g1, g2⟩ | ⟨g1, g2⟩
  · rw [h2, g2]
  · rw [h1] at g1; cases g1
  · rw [g1] at h1; cases h1
  · have := h2 _ g1
    have := g2 _ h1
    omega
def tMaxD (K : PySem.W.Frag) (t : TA) (td : TE) : TE := fun σ H Q => t σ H fun vs H1 => tCons td tNil σ H1 fun zs H2 => ∃ p ns d, vs = [.ref p] ∧ zs = [.int d] ∧ SqL K H2 p (ns.map V.int) ∧ ∀ m, MaxD ns d m → Q (.int m) H2
theorem pe_maxD {X : Cx} {e d : Expr} {p pos kp : Pos} {t : TA} {td : TE} (hc : X.calm = true) (hg : Gl X "max") (hm : X.mg "max" = none) (ha : PA X [e] t) (hd : PE X d td) (hs : starEach [e] X.env = [(false, eval e X.env)] := by rfl) :
    PE X (.Call (.Name "max" p) [e] [⟨some "default", d, kp⟩] pos) (tMaxD X.K t td) := by
  intro pins s σ H Q I h
  refine wpAny_Call_Name_kw (ld_blt I hg hm PyProof.Rows.Boot.«max» ?_)
  refine PyProof.Rows.callWith_kw (thn (ha pos pins s σ H _ I h) fun us s1 ⟨vs, H1, I1, r1, q1⟩ => ?_) (by rw [hs]; rfl) (by rw [hs]; rfl)
  have hk := pk_cons (nm := some "default") (kpos := kp) hd (pk_nil (X := X))
  refine thn (hk pos pins s1 σ H1 _ I1 q1) fun ws s2 ⟨zs, H2, I2, r2, p, ns, d, e1, e2, hq, q⟩ => ?_
  subst e1 e2
  obtain ⟨u, rfl, rx⟩ := vals1 r1
  cases rx
  obtain ⟨dv, rfl, ry⟩ := vals1 r2
  obtain ⟨tk, rfl⟩ := ry
  obtain ⟨its, r', pl, hz⟩ := I2.list hq
  obtain ⟨ps, rfl, rfl⟩ := ints_of r'
  have hl : s2.heap.IsList p (intItems ps.toArray) := by
    have := pl.isList
    simpa [intItems] using this
  refine maxD_list (I2.ok.hd hc) hl fun v h' tk' hv hk' => ?_
  rcases hv with ⟨h0, rfl⟩ | ⟨h0, hv⟩
  · have e0 : ps = [] := by cases ps with
      | nil => rfl
      | cons a b => simp at h0
    exact ⟨.int d, H2, I2.kept (t' := tk') hk', ⟨tk, rfl⟩, q d (.inl ⟨by rw [e0]; rfl, rfl⟩)⟩
  · obtain ⟨t, rfl⟩ := intItems_at hv
    obtain ⟨h1, h2⟩ := argBest_gt (numAt ps.toArray) (ps.toArray.size - 1)
    have lt : ∀ {i : Nat}, i ≤ ps.toArray.size - 1 → i < (ps.map (·.1)).length := fun {i} h => by rw [List.length_map]; simp only [List.size_toArray] at h h0; omega
    refine ⟨.int _, H2, I2.kept (t' := tk') hk', ⟨t, rfl⟩, q _ (.inr ⟨?_, fun a ha => ?_⟩)⟩
    · rw [numAt_getD]
      exact getD_mem (lt h1)
    · obtain ⟨j, hj, rfl⟩ := mem_getD ha
      rw [← numAt_getD]
      exact h2 j (by rw [List.length_map] at hj; simp only [List.size_toArray]; omega)
section
variable {prog : Program} {w : World} {A : Around} {E : Value → Shared → Prop} {s : Shared}
theorem vals_end {it d : Addr} {i ep : Nat} {od : Obj} {es : Array DictEntry} {Q : Option Value → Shared → Prop} (hh : Hd A s.heap) (hit : s.heap.IsValIter it d i es.size ep) (hod : s.heap.get? d = some od) (hdd : od.data = .dict es ep) (hge : es.size ≤ i)
    (hQ : ∀ h', Heap.ExtBut it s.heap h' → Q none { s with heap := h' }) : wpAny (model prog w) A (pyNext (.ref it)) Q E s := by
  obtain ⟨o, ho, hc, hd⟩ := id hit
  unfold pyNext
  refine wpAny_bind (wpAny_attempt (wpAny_callSpecial?_slot (name := Str.ofString "__next__") hit.typeIs F.slot_dict_valueiterator_next (wpAny_call_entry F.slot_dict_valueiterator_next hit.typeIs F.entry_dict_valueiterator_next ?_ (F.args_dict_valueiterator_next_1 _))))
  refine wpAny_bind (wpAny_pure (wpAny_bind (wpAny_bind ?_)))
  first | refine wpAny_bind (wpAny_typeNameOfWhole_valiter hit.typeIs (wpAny_pure (wpAny_bind (wpAny_fieldsOf ho hd ?_)))) | refine wpAny_bind (wpAny_typeNameOf_valiter hit.typeIs (wpAny_pure (wpAny_bind (wpAny_fieldsOf ho hd ?_))))
  simp only [show Builtin.Dict_items.ownsTuple "dict_valueiterator" = false from by decide, Bool.false_eq_true, if_false]
  show wpAny _ _ (if (Value.ref d == Value.none) = true then _ else _) _ _ s
  rw [if_neg (fun z : (Value.ref d == Value.none) = true => nomatch z)]
  refine wpAny_bind (wpAny_pure (wpAny_bind (wpAny_dictEntries hod hdd ?_)))
  rw [if_neg (by simp)]
  refine wpAny_bind (wpAny_pure (wpAny_bind (wpAny_dictEpoch hod hdd ?_)))
  rw [if_neg (by simp)]
  refine wpAny_pure ?_
  simp only [show ¬ ((i : Int) < 0) from by omega, if_false, Int.toNat_natCast, Array.getElem?_eq_none hge]
  refine wpAny_bind ?_
  first | refine wpAny_bind (wpAny_typeNameOfWhole_valiter hit.typeIs (wpAny_pure ?_)) | refine wpAny_bind (wpAny_typeNameOf_valiter hit.typeIs (wpAny_pure ?_))
  refine wpAny_bind (m := setField (.ref it) 0 .none) (wpAny_setField ho hd (by simp) ?_)
  refine stop_told (hh.update (A := A) ho hc _) fun h' e k1 k2 => stop_seen k2 (hQ h' fun b o hb z => k1 b o ?_)
  rw [Heap.get?_update_other _ _ (Ne.symm hb)]
  exact z
end
def Itv (a : Addr) (o : Obj) (kvs : List (Key × V)) : It :=
  ⟨fun i H => H a = some (.frz o (.dK kvs)) ∧ i < kvs.length, fun i H x H' => H' = H ∧ ∃ k, kvs[i]? = some (k, x), fun i H => H a = some (.frz o (.dK kvs)) ∧ kvs.length ≤ i⟩
theorem turn_vals {P : Program} {w : World} {K : PySem.W.Frag} {tg : Expr} (a it : Addr) (o : Obj) (kvs : List (Key × V)) (es : Array DictEntry) (ep : Nat) (hdd : o.data = .dict es ep) : Turn P w K tg (Itv a o kvs) [it] it (fun i h => h.IsValIter it a i es.size ep) where
  mem := by simp
  obj := fun i h st b hb => by
    have e : b = it := by simpa using hb
    subst e
    obtain ⟨o, e, c, d⟩ := st
    exact ⟨o, e, fun v z => by rw [d] at z; cases z⟩
  keep := fun i h h' st k => let ⟨o, ho, r⟩ := st; ⟨o, k it (by simp) o ho, r⟩
  item := by
    intro X hP hw hK hc i pins s σ H E I hf st hg
    subst hP hw hK
    obtain ⟨hq, hx⟩ := hg
    obtain ⟨hod, z, hd, vs, rel, o', es', ep', ho', he1, he2, he3, he4, he5⟩ := (show ObjOk X.prog X.w H s.heap a (.frz o (.dK kvs)) from I.hok a _ hq)
    rw [hod] at ho'
    cases ho'
    rw [hdd] at he2
    cases he2
    obtain ⟨kv, hkv⟩ : ∃ kv, kvs[i]? = some kv := ⟨_, List.getElem?_eq_getElem hx⟩
    obtain ⟨q, hq1, q1, q2⟩ := Paired.at1 rel hkv
    have hsz : es.size = vs.length := by have := he4.length; simpa using this
    have st : s.heap.IsValIter it a i vs.length ep := hsz ▸ st
    obtain ⟨f0, f1, f2, f3, f4, f5⟩ := hf it (by simp)
    refine wpAny_pyNext_values_item (knd := mixKind X.prog X.w) st (⟨o, es, hod, he1, hdd, he3, he4, he5⟩ : s.heap.DictAt (mixKind X.prog X.w) a vs ep) (k := q.1) (v := q.2) hq1 fun h' st' sb => ?_
    have I1 : Inv X pins σ H { s with heap := h' } := I.turned (t' := s.toks) (fun b o hb e => (sb.2 b hb).trans e) f0 f1 f3 f4 f5
    obtain ⟨o2, e, c, d⟩ := id st'
    exact ⟨_, rfl, go_of (s := { s with heap := h' }) e c d (by decide) ⟨kv.2, H, I1, q2, ⟨rfl, kv.1, hkv⟩, hsz.symm ▸ st', fun b hb => (hf b hb).1⟩⟩
  done := by
    intro X hP hw hK hc i pins s σ H E I hf st hg
    subst hP hw hK
    obtain ⟨hq, hx⟩ := hg
    obtain ⟨hod, z, hd, vs, rel, o', es', ep', ho', he1, he2, he3, he4, he5⟩ := (show ObjOk X.prog X.w H s.heap a (.frz o (.dK kvs)) from I.hok a _ hq)
    rw [hod] at ho'
    cases ho'
    rw [hdd] at he2
    cases he2
    have hsz := he4.length
    have hl := Paired.length rel
    obtain ⟨f0, f1, f2, f3, f4, f5⟩ := hf it (by simp)
    exact vals_end (I.calm hc) st hod hdd (by simp only [Array.length_toList] at hsz; omega) fun h' eb => ⟨rfl, I.turned (t' := s.toks) (fun b o hb e => eb b o hb e) f0 f1 f3 f4 f5⟩
  self := fun _ _ _ _ _ st h => wpAny_pyIter_valiter st h
def iVals (te : TE) : TI := fun σ H R => te σ H fun x H1 => ∃ a kvs, x = .ref a ∧ H1 a = some (.dK kvs) ∧ ∀ o, R (Itv a o kvs) (upd H1 a (.frz o (.dK kvs)))
theorem pi_vals {X : Cx} {tg l : Expr} {tl : TE} {apos cpos : Pos} (hl : PE X l tl) (hbase : attributeBase l "values" X.env (eval l X.env) = eval l X.env := by rfl) (hline : (apos.endLine == cpos.line) = true := by rfl) : PI X tg (.Call (.Attribute l "values" apos) [] [] cpos) (iVals tl) := by
  intro pins s σ H R I h
  refine wpAny_Call_method0_late hbase hline (thn (hl pins s σ H _ I h) fun v s1 ⟨x, H1, I1, r1, q1⟩ => ?_)
  obtain ⟨a, kvs, e, hq, q⟩ := q1
  subst e
  cases r1
  obtain ⟨z, hd, vs, rel, dd⟩ := dk_of I1.hok hq
  obtain ⟨o, es, ep, ho, hc, hdat, hk, hp, hn⟩ := id dd
  have h1 : s1.TypeIs (.ref a) "dict" := dd.typeIs
  refine ⟨"dict", "dict.values", PySem.F.plainAttrs_dict, PySem.F.slot_dict_values, PySem.F.type_dict_values, h1, fun a' ez => (by cases ez; exact ⟨o, ho, hc.2.1⟩), Calls.callWith_builtin rfl (PySem.evalArgs_none ?_)⟩
  refine call_meetsIn PySem.F.slot_dict_values dd.typeIs PySem.F.entry_dict_values (PySem.F.args_dict_values_1 _) (meets_dict_values (mixKind X.prog X.w) a hd) ⟨⟨vs, dd⟩, ?_⟩
  have hsz : es.size = vs.length := by have := hp.length; simpa using this
  have hV : (s1.heap.push { cls := .type "dict_values", data := .fields #[.ref a] }).IsValuesView s1.heap.objs.size a := ⟨_, Heap.get?_push_size _ rfl, rfl, rfl⟩
  have hA : (s1.heap.push { cls := .type "dict_values", data := .fields #[.ref a] }).DictAt (mixKind X.prog X.w) a vs ep := ⟨o, es, Heap.get?_push_of_some _ ho, hc, hdat, hk, hp, hn⟩
  refine wpAny_pyIter_values (s := { s1 with heap := s1.heap.push { cls := .type "dict_values", data := .fields #[.ref a] } }) hV hA ?_
  have I1' : Inv X pins σ H1 { s1 with heap := s1.heap.push { cls := .type "dict_values", data := .fields #[.ref a] } } := I1.kept (t' := s1.toks) fun b o e => Heap.get?_push_of_some _ e
  have I2 := I1'.freezeK hq (Heap.get?_push_of_some _ ho)
  refine ⟨_, [(s1.heap.push { cls := .type "dict_values", data := .fields #[.ref a] }).objs.size], _, _, _, rfl, I2.kept (t' := s1.toks) fun b o e => Heap.get?_push_of_some _ e, turn_vals a _ o kvs es ep hdat, ⟨_, Heap.get?_push_size _ rfl, rfl, by rw [hsz]; rfl⟩, fun b hb => ?_, q o⟩
  have e : b = (s1.heap.push { cls := .type "dict_values", data := .fields #[.ref a] }).objs.size := by simpa using hb
  subst e
  exact I2.fpOk (Nat.le_refl _) (I2.hok.fresh (Nat.le_refl _))
theorem src_vals {a : Addr} {o : Obj} {kvs : List (Key × V)} {H : Hp} (h : H a = some (.frz o (.dK kvs))) : SrcIs (Itv a o kvs) H (kvs.map (·.2)) :=
  ⟨fun i hi => ⟨h, by simpa using hi⟩, fun i x H' hi y => ⟨y.1, by
    obtain ⟨_, k, hk⟩ := y
    rw [List.getElem?_map, hk]
    rfl⟩, ⟨h, by simp⟩⟩
end L2
set_option Elab.async false
set_option linter.all false
set_option maxRecDepth 100000
namespace L2
open PySem PySem.Spec PyProof.Rows
theorem walks_tup {prog : Program} {w : World} {A : Around} (I ax g : Addr) (hne : ax ≠ I) (items : Array Value) : Walks prog w A I [I, ax, g] [I] items.size (fun i v => items[i]? = some v) (fun i h => h.IsTupleIter I ax i ∧ h.IsTuple ax items ∧ HdAt A g h) where
  sub := fun b hb => by simp at hb; simp [hb]
  frame := (draws_tup (prog := prog) (w := w) (A := A) I ax g hne items).frame
  item := fun i s Q E hi st hQ => by
    refine wpAny_pyNext_tuple_item st.1 st.2.1 (x := items[i]) (by simp [hi]) fun h' hit' hs' => hQ _ h' s.toks (by simp [hi]) ⟨hit', st.2.1.extBut hs'.extBut hne, st.2.2.imp id fun ⟨C, dx, vs, sl, h1, h2, h3⟩ => ⟨C, dx, vs, sl, h1, hs'.extBut g _ (fun z => ?_) h2, h3⟩⟩ fun b o hb e => (hs'.2 b fun q => hb (by simp [q])).trans e
    obtain ⟨o, ho, hc, _⟩ := st.1
    rw [z, ho] at h2
    cases h2
    cases hc
  done := fun s Q E st hQ => tuple_end st.2.2.hd st.1 st.2.1 (by simp) fun h' eb => hQ h' s.toks fun b o hb e => eb b o (fun q => hb (by simp [q])) e
  self := fun i s Q E st hQ => wpAny_pyIter_tupleiter st.1 hQ
theorem max_twoH {prog : Program} {w : World} {A : Around} {E : Value → Shared → Prop} {s : Shared} {a b : Int} {t u : Tok} {Q : Value → Shared → Prop} (hh : Hd A s.heap)
    (h : ∀ h' tk, (∀ c o, s.heap.get? c = some o → h'.get? c = some o) → Q (if b > a then .int b u else .int a t) { s with heap := h', toks := tk }) : wpAny (model prog w) A (call (.builtin "max") [.int a t, .int b u]) Q E s := by
  have hT : (s.heap.push { cls := .type "tuple", data := .seq #[.int a t, .int b u] }).IsTuple s.heap.objs.size (intItems #[(a, t), (b, u)]) := ⟨_, Heap.get?_push_size _ rfl, rfl, 0, by simp [intItems]⟩
  have hsz : (s.heap.push { cls := .type "tuple", data := .seq #[.int a t, .int b u] }).objs.size = s.heap.objs.size + 1 := Heap.size_push ..
  have hs2 : ((s.heap.push { cls := .type "tuple", data := .seq #[.int a t, .int b u] }).push { cls := .type "tuple_iterator", data := .fields #[.ref s.heap.objs.size, .int 0 0] }).objs.size = s.heap.objs.size + 2 := by rw [Heap.size_push, hsz]
  refine call_max_two (wpAny_pyIter_tuple hT ?_)
  have hh2 : Hd A.in1 ((s.heap.push { cls := .type "tuple", data := .seq #[.int a t, .int b u] }).push { cls := .type "tuple_iterator", data := .fields #[.ref s.heap.objs.size, .int 0 0] }) := (show Hd A.in1 s.heap from hh).keeps fun c o e => Heap.get?_push_of_some _ (Heap.get?_push_of_some _ e)
  obtain ⟨g, hg1, hg2⟩ := hh2.at ((s.heap.push { cls := .type "tuple", data := .seq #[.int a t, .int b u] }).objs.size)
  have gl : g < ((s.heap.push { cls := .type "tuple", data := .seq #[.int a t, .int b u] }).push { cls := .type "tuple_iterator", data := .fields #[.ref s.heap.objs.size, .int 0 0] }).objs.size := by
    rcases hg2 with z | ⟨C, o, ho, _⟩
    · exact Nat.lt_of_lt_of_eq (show g < s.heap.objs.size + 2 by rw [z, hsz]; exact Nat.lt_succ_self _) hs2.symm
    · exact Heap.lt_size ho
  refine ⟨_, _, [_], _, _, _, _, rfl, walks_tup (A := A.in1) _ s.heap.objs.size g (by rw [hsz]; exact Nat.ne_of_lt (Nat.lt_succ_self _)) (intItems #[(a, t), (b, u)]), ⟨⟨_, Heap.get?_push_size _ rfl, rfl, rfl⟩, hT.push _, hg1⟩, fun c hc => ?_, by simp [intItems], CmpOf.ints_gt (numAt #[(a, t), (b, u)]) (fun _ _ => intItems_at), fun v h' tk hP hk => ?_⟩
  · show c < ((s.heap.push _).push _).objs.size
    simp only [List.mem_cons, List.not_mem_nil, or_false] at hc
    rcases hc with q | q | q <;> rw [q]
    · exact Nat.lt_of_lt_of_eq (show (s.heap.push { cls := .type "tuple", data := .seq #[.int a t, .int b u] }).objs.size < s.heap.objs.size + 2 by rw [hsz]; exact Nat.lt_succ_self _) hs2.symm
    · exact Nat.lt_of_lt_of_eq (Nat.lt_succ_of_lt (Nat.lt_succ_self _)) hs2.symm
    · exact gl
  · have hold : ∀ c o, s.heap.get? c = some o → h'.get? c = some o := fun c o e => by
      refine hk c o (fun hm => ?_) (Heap.get?_push_of_some _ (Heap.get?_push_of_some _ e))
      have e1 := List.mem_singleton.mp hm
      have := Heap.lt_size e
      rw [e1, hsz] at this
      exact Nat.lt_irrefl _ (Nat.lt_of_succ_lt this)
    have q := h h' tk hold
    have hP' : (intItems #[(a, t), (b, u)])[argBest (fun i j => decide (numAt #[(a, t), (b, u)] i > numAt #[(a, t), (b, u)] j)) 1]? = some v := by
      have e2 : (intItems #[(a, t), (b, u)]).size - 1 = 1 := by simp [intItems]
      rw [← e2]
      exact hP
    have hv : v = if b > a then Value.int b u else Value.int a t := by
      by_cases hba : b > a
      · rw [show argBest (fun i j => decide (numAt #[(a, t), (b, u)] i > numAt #[(a, t), (b, u)] j)) 1 = 1 by simp [argBest, numAt, hba]] at hP'
        simpa [intItems, hba] using hP'.symm
      · rw [show argBest (fun i j => decide (numAt #[(a, t), (b, u)] i > numAt #[(a, t), (b, u)] j)) 1 = 0 by simp [argBest, numAt, hba]] at hP'
        simpa [intItems, hba] using hP'.symm
    rw [hv]
    exact q
theorem call_max2M {X : Cx} (hc : Calm X) : CallR X (.builtin "max") (fun xs H Q => ∃ i j, xs = [.int i, .int j] ∧ Q (.int (if j > i then j else i)) H) := by
  intro pins s σ H xs us Q I r h
  obtain ⟨i, j, rfl, q⟩ := h
  obtain ⟨u, w', rfl, ⟨t, rfl⟩, ⟨t', rfl⟩⟩ := vals2 r
  refine max_twoH (I.calm hc) fun h' tk k => ⟨_, H, I.kept k, ?_, q⟩
  by_cases hj : j > i
  · rw [if_pos hj, if_pos hj]; exact ⟨_, rfl⟩
  · rw [if_neg hj, if_neg hj]; exact ⟨_, rfl⟩
theorem comp_of {α : Type} {J : It} {H : Hp} {as : List α} {u g : α → V} {tt : TT} {te : TE} {cs : St} {F : List V → Hp → Prop} (S : SrcIs J H (as.map u)) (p : α → Bool) (htt : ∀ x ∈ as, ∀ Q : Bool → Hp → Prop, Q (p x) H → tt (some (u x) :: cs) H Q)
    (hte : ∀ x ∈ as, p x = true → ∀ Q : VK, Q (g x) H → te (some (u x) :: cs) H Q) (hn : as.length ≤ sizeLine) (hF : F ((as.filter p).map g) H) : ∃ W : Nat → Nat → List V → Hp → Prop, (∃ m, W 0 m [] H) ∧ CompW J (gName 0) tt te (none :: cs) W F := by
  refine ⟨fun i m ys H' => m = as.length - i ∧ i ≤ as.length ∧ H' = H ∧ ys = ((as.take i).filter p).map g, ⟨as.length, by simp, Nat.zero_le _, rfl, by simp⟩, ?_⟩
  rintro i m ys H' ⟨rfl, hi, rfl, rfl⟩
  have hlen : (((as.take i).filter p).map g).length ≤ sizeLine := by
    rw [List.length_map]
    refine Nat.le_trans (List.length_filter_le _ _) ?_
    rw [List.length_take]
    omega
  by_cases hlt : i < as.length
  · refine .inr ⟨S.go i (by rw [List.length_map]; exact hlt), fun ys' H'' => H'' = H' ∧ ys' = ((as.take (i + 1)).filter p).map g, fun ys' H'' h => ⟨as.length - (i + 1), by omega, rfl, hlt, h.1, h.2⟩, fun x H'' y => ?_⟩
    obtain ⟨rfl, hx⟩ := S.yld i x H'' (by rw [List.length_map]; exact hlt) y
    rw [List.getElem?_map] at hx
    obtain ⟨a, ha, rfl⟩ := Option.map_eq_some_iff.mp hx
    have htk : as.take (i + 1) = as.take i ++ [a] := by
      rw [List.take_add_one, ha]; rfl
    refine ⟨keeps_name, htt a (List.mem_of_getElem? ha) _ ?_⟩
    rw [htk, List.filter_append, List.map_append]
    cases hp : p a with
    | true =>
      rw [if_pos rfl]
      refine hte a (List.mem_of_getElem? ha) hp _ ⟨hlen, rfl, ?_⟩
      simp [hp]
    | false =>
      rw [if_neg (by decide)]
      refine ⟨rfl, ?_⟩
      simp [hp]
  · have e : i = as.length := by omega
    subst e
    have st := S.stop
    rw [List.length_map] at st
    refine .inl ⟨st, hlen, ?_⟩
    rw [List.take_length]
    exact hF
end L2
set_option Elab.async false
set_option linter.all false
set_option maxRecDepth 100000
namespace Bk
open PySem L2 Wy
def Tiny (b : Int) (c : List Int) : Prop := c ≠ [] ∧ c.length ≤ 100 ∧ 0 ≤ b ∧ b ≤ 200
structure Ent where
  k : Int
  v : V
  b : Int
  c : List Int
def kv (es : List Ent) : List (Int × V) := es.map fun e => (e.k, e.v)
def dw (es : List Ent) : List (Key × V) := (kv es).map fun q => ((Sum.inl q.1 : Key), q.2)
def KeyOk (k : Int) : Prop := (0 ≤ k ∧ k ≤ 5) ∨ k = 10 ^ 9
def EntOk (H : Hp) (e : Ent) : Prop := WayAt H e.v e.b e.c ∧ Tiny e.b e.c ∧ KeyOk e.k
structure Ents (H : Hp) (es : List Ent) : Prop where
  ok : ∀ e ∈ es, EntOk H e
  nd : (es.map (·.k)).Nodup
def Tups (H H' : Hp) : Prop := ∀ b xs, H b = some (.tup xs) → H' b = some (.tup xs)
theorem tups_of {H H' : Hp} (s : Same H H') : Tups H H' := fun b xs h => s b _ h
theorem WayAt.tups {H H' : Hp} {v : V} {b : Int} {c : List Int} (t : Tups H H') (h : WayAt H v b c) : WayAt H' v b c := by
  obtain ⟨p, q, e, h1, h2⟩ := h
  exact ⟨p, q, e, t _ _ h1, t _ _ h2⟩
theorem Ents.tups {H H' : Hp} {es : List Ent} (h : Ents H es) (t : Tups H H') : Ents H' es := ⟨fun e he => ⟨WayAt.tups t (h.ok e he).1, (h.ok e he).2⟩, h.nd⟩
theorem len_sub : ∀ {l m : List Int}, l.Nodup → (∀ x ∈ l, x ∈ m) → l.length ≤ m.length
  | [], m, _, _ => Nat.zero_le _
  | x :: l, m, nd, h => by
    have hx := h x (by simp)
    have ih := len_sub (l := l) (m := m.erase x) (List.nodup_cons.mp nd).2 fun y hy => (List.mem_erase_of_ne (show y ≠ x from fun z => (List.nodup_cons.mp nd).1 (by rw [← z]; exact hy))).mpr (h y (by simp [hy]))
    have e := List.length_erase_of_mem hx
    have : 0 < m.length := List.length_pos_of_mem hx
    simp only [List.length_cons]
    omega
theorem Ents.len {H : Hp} {es : List Ent} (h : Ents H es) : es.length ≤ 7 := by
  have := len_sub (m := [0, 1, 2, 3, 4, 5, 10 ^ 9]) h.nd (fun x hx => by
    obtain ⟨e, he, rfl⟩ := List.mem_map.mp hx
    have := (h.ok e he).2.2
    rcases this with ⟨h0, h1⟩ | z
    · have : e.k = 0 ∨ e.k = 1 ∨ e.k = 2 ∨ e.k = 3 ∨ e.k = 4 ∨ e.k = 5 := by omega
      rcases this with z | z | z | z | z | z <;> rw [z] <;> decide
    · rw [z]; decide)
  simpa using this
def dropE (es : List Ent) (n : Int) : List Ent := es.filter fun e => decide (e.k ≠ n)
def putE (es : List Ent) (e : Ent) : List Ent := if (es.any fun x => decide (x.k = e.k)) = true then es.map (fun x => if x.k = e.k then e else x) else es ++ [e]
theorem val_mem : ∀ {es : List Ent} {e : Ent}, (es.map (·.k)).Nodup → e ∈ es → valV (dw es) (.inl e.k) = some e.v
  | x :: es, e, nd, he => by
    by_cases z : x.k = e.k
    · rcases List.mem_cons.mp he with rfl | he
      · exact valV_pos (p := ((Sum.inl e.k : Key), e.v)) rfl
      · exact absurd (List.mem_map.mpr ⟨e, he, z.symm⟩) (List.nodup_cons.mp nd).1
    · rcases List.mem_cons.mp he with rfl | he
      · exact absurd rfl z
      · exact (valV_neg (p := ((Sum.inl x.k : Key), x.v)) (fun y => z (Sum.inl.inj y))).trans (val_mem (List.nodup_cons.mp nd).2 he)
theorem key_one : ∀ {es : List Ent} {e e' : Ent}, (es.map (·.k)).Nodup → e ∈ es → e' ∈ es → e'.k = e.k → e' = e
  | x :: es, e, e', nd, he, he', h => by
    have nx := (List.nodup_cons.mp nd).1
    rcases List.mem_cons.mp he with z | z <;> rcases List.mem_cons.mp he' with y | y
    · rw [z, y]
    · exact absurd (List.mem_map.mpr ⟨e', y, by rw [h, z]⟩) nx
    · exact absurd (List.mem_map.mpr ⟨e, z, by rw [← h, y]⟩) nx
    · exact key_one (List.nodup_cons.mp nd).2 z y h
theorem val_none : ∀ {es : List Ent} {n : Int}, (∀ e ∈ es, e.k ≠ n) → valV (dw es) (.inl n) = none
  | [], _, _ => rfl
  | x :: es, n, h => (valV_neg (p := ((Sum.inl x.k : Key), x.v)) (fun y => h x (by simp) (Sum.inl.inj y))).trans (val_none fun e he => h e (by simp [he]))
theorem dw_len (es : List Ent) : (dw es).length = es.length := by simp [dw, kv]
theorem kv_len (es : List Ent) : (kv es).length = es.length := by simp [kv]
theorem kv_keys (es : List Ent) : (kv es).map (·.1) = es.map (·.k) := by simp [kv]
theorem dw_any (es : List Ent) (n : Int) : ((dw es).any fun kv => decide (kv.1 = Sum.inl n)) = es.any fun x => decide (x.k = n) := by
  unfold dw kv
  rw [List.map_map, List.any_map]
  refine congrArg (fun f => List.any es f) (funext fun x => ?_)
  simp [Function.comp]
theorem dw_put (es : List Ent) (e : Ent) : putK (dw es) (.inl e.k) e.v = dw (putE es e) := by
  unfold putK putE
  rw [dw_any]
  split
  · unfold dw kv
    simp only [List.map_map]
    refine List.map_congr_left fun x _ => ?_
    simp only [Function.comp]
    by_cases z : x.k = e.k
    · rw [if_pos (by rw [z]), if_pos z, z]
    · rw [if_neg (fun y => z (Sum.inl.inj y)), if_neg z]
  · simp [dw, kv]
theorem dw_drop (es : List Ent) (n : Int) : dropK (dw es) (.inl n) = dw (dropE es n) := by
  unfold dropK dropE dw kv
  rw [List.map_map, List.filter_map, List.map_map]
  have : ((fun kv : Key × V => decide (kv.1 ≠ Sum.inl n)) ∘ ((fun q : Int × V => ((Sum.inl q.1 : Key), q.2)) ∘ fun e : Ent => (e.k, e.v))) = fun e : Ent => decide (e.k ≠ n) := by
    funext x
    simp [Function.comp]
  rw [this]
theorem Ents.put {H : Hp} {es : List Ent} {e : Ent} (h : Ents H es) (he : EntOk H e) : Ents H (putE es e) := by
  unfold putE
  split
  · refine ⟨fun x hx => ?_, ?_⟩
    · obtain ⟨y, hy, rfl⟩ := List.mem_map.mp hx
      split
      · exact he
      · exact h.ok y hy
    · have : (es.map fun x => if x.k = e.k then e else x).map (·.k) = es.map (·.k) := by
        rw [List.map_map]
        refine List.map_congr_left fun x _ => ?_
        simp only [Function.comp]
        split
        · rename_i z; exact z.symm
        · rfl
      rw [this]
      exact h.nd
  · rename_i hn
    refine ⟨fun x hx => ?_, ?_⟩
    · rcases List.mem_append.mp hx with z | z
      · exact h.ok x z
      · rw [List.mem_singleton.mp z]; exact he
    · rw [List.map_append]
      refine nd_snoc h.nd fun z => hn ?_
      obtain ⟨y, hy, e1⟩ := List.mem_map.mp z
      exact List.any_eq_true.mpr ⟨y, hy, decide_eq_true e1⟩
theorem Ents.drop {H : Hp} {es : List Ent} (n : Int) (h : Ents H es) : Ents H (dropE es n) :=
  ⟨fun e he => h.ok e (List.mem_filter.mp he).1, (List.Sublist.map _ List.filter_sublist).nodup h.nd⟩
def Mt (b : Int) (c : List Int) (b' : Int) (c' : List Int) : Prop := ∃ x, First b c b' c' (some x)
theorem mt_iff {b : Int} {c : List Int} {b' : Int} {c' : List Int} {o : Option (Int × Str)} (h : First b c b' c' o) : Mt b c b' c' ↔ o.isSome = true := by
  constructor
  · rintro ⟨x, hx⟩
    rw [h.uniq hx]
    rfl
  · intro z
    obtain ⟨x, rfl⟩ := Option.isSome_iff_exists.mp z
    exact ⟨x, h⟩
def PutIs (es : List Ent) (n b : Int) (c : List Int) : Option Int → Prop
  | none => ∀ e ∈ es, e.k ≠ n → ¬ Mt b c e.b e.c
  | some k => k ≠ n ∧ (∃ e ∈ es, e.k = k ∧ Mt b c e.b e.c) ∧ ∀ e ∈ es, e.k ≠ n → Mt b c e.b e.c → k ≤ e.k
theorem PutIs.uniq {es : List Ent} {n b : Int} {c : List Int} {o o' : Option Int} (h : PutIs es n b c o) (h' : PutIs es n b c o') : o = o' := by
  cases o with
  | none => cases o' with
    | none => rfl
    | some k =>
      obtain ⟨h1, ⟨e, he, rfl, hm⟩, _⟩ := h'
      exact absurd hm (h e he h1)
  | some k => 
    obtain ⟨h1, ⟨e, he, rfl, hm⟩, h2⟩ := h
    cases o' with
    | none => exact absurd hm (h' e he h1)
    | some k' =>
      obtain ⟨g1, ⟨e', he', rfl, gm⟩, g2⟩ := h'
      have := h2 e' he' g1 gm
      have := g2 e he h1 hm
      congr 1
      omega
theorem put_end {es : List Ent} {n b : Int} {c : List Int} {ms : List Int} (hp : ms.Perm (es.map (·.k))) (h : ∀ e ∈ es, e.k ∈ ms.take ms.length → e.k ≠ n → ¬ Mt b c e.b e.c) : PutIs es n b c none :=
  fun e he hn => h e he (by rw [List.take_length]; exact hp.mem_iff.mpr (List.mem_map.mpr ⟨e, he, rfl⟩)) hn
theorem put_hit {es : List Ent} {n b : Int} {c : List Int} {ms : List Int} {i : Nat} {e : Ent} (hp : ms.Perm (es.map (·.k))) (hs : ms.Pairwise (· ≤ ·)) (hi : ms[i]? = some e.k) (he : e ∈ es) (hn : e.k ≠ n) (hm : Mt b c e.b e.c) (h : ∀ e ∈ es, e.k ∈ ms.take i → e.k ≠ n → ¬ Mt b c e.b e.c) : PutIs es n b c (some e.k) := by
  refine ⟨hn, ⟨e, he, rfl, hm⟩, fun e' he' hn' hm' => ?_⟩
  have hin : e'.k ∈ ms := hp.mem_iff.mpr (List.mem_map.mpr ⟨e', he', rfl⟩)
  obtain ⟨j, hj⟩ := List.mem_iff_getElem?.mp hin
  by_cases z : j < i
  · exact absurd hm' (h e' he' (List.mem_iff_getElem?.mpr ⟨j, by rw [List.getElem?_take, if_pos z]; exact hj⟩) hn')
  · rcases Nat.lt_or_ge i j with y | y
    · exact List.pairwise_iff_getElem.mp hs i j (List.getElem?_eq_some_iff.mp hi).1 (List.getElem?_eq_some_iff.mp hj).1 y |> fun q => by
        rw [(List.getElem?_eq_some_iff.mp hi).2, (List.getElem?_eq_some_iff.mp hj).2] at q
        exact q
    · obtain rfl : i = j := by omega
      have := Option.some.inj (hi.symm.trans hj)
      omega
theorem take_more {es : List Ent} {n b : Int} {c : List Int} {ms : List Int} {i : Nat} {k : Int} (hi : ms[i]? = some k) (h : ∀ e ∈ es, e.k ∈ ms.take i → e.k ≠ n → ¬ Mt b c e.b e.c) (h2 : ∀ e ∈ es, e.k = k → e.k ≠ n → ¬ Mt b c e.b e.c) : ∀ e ∈ es, e.k ∈ ms.take (i + 1) → e.k ≠ n → ¬ Mt b c e.b e.c := fun e he ht hn => by
  rw [List.take_add_one, hi] at ht
  rcases List.mem_append.mp ht with z | z
  · exact h e he z hn
  · exact h2 e he (by simpa using z) hn
theorem bits_small {x : Int} (h0 : 0 ≤ x) (h1 : x < 2147483648) : Bits x := by
  unfold Bits Builtin.Int.intBits
  split
  · exact Nat.zero_le _
  · rename_i h
    have h0' : x.natAbs ≠ 0 := fun z => h (by have : x = 0 := by omega
                                              rw [this]; rfl)
    have := (Nat.log2_lt (k := 31) h0').mpr (by omega)
    omega
def wl (d : Addr) : List (Str × V) := putF "ways" (.ref d) []
theorem w_ways (d : Addr) : (wl d).lookup ("ways" : Str) = some (.ref d) := by unfold wl; rw [lookup_putF, if_pos rfl]
theorem w_no (d : Addr) {f : Str} (h : f ≠ "ways") : (wl d).lookup f = none := by unfold wl; rw [lookup_putF, if_neg h]; rfl
structure BookAt (C : Addr) (H : Hp) (p d : Addr) (es : List Ent) : Prop where
  ob : ∃ dx, H p = some (.ins C dx (wl d))
  tb : H d = some (.dK (dw es))
def SameB (k : Addr) (H H' : Hp) : Prop := ∀ b o, H b = some o → b ≠ k → H' b = some o
theorem same_b {k : Addr} {H H' : Hp} (s : Same H H') : SameB k H H' := fun b o h _ => s b o h
theorem SameB.trans {k : Addr} {H H1 H2 : Hp} (a : SameB k H H1) (b : SameB k H1 H2) : SameB k H H2 := fun c o h n => b c o (a c o h n) n
theorem sameB_upd {k : Addr} {H H1 : Hp} {o : HO} (s : SameB k H H1) : SameB k H (upd H1 k o) := fun b u h n => by rw [upd_ne n]; exact s b u h n
theorem SameB.new {k : Addr} {H H1 : Hp} {l : Addr} {o : HO} (s : SameB k H H1) (nl : H1 l = none) : SameB k H (upd H1 l o) := fun b u h n => (same_new nl) b u (s b u h n)
theorem SameB.tups {k : Addr} {H H' : Hp} (s : SameB k H H') (h : ∀ xs, H k ≠ some (.tup xs)) : Tups H H' := fun b xs e => s b _ e fun z => h xs (z ▸ e)
theorem BookAt.same {C : Addr} {H H' : Hp} {p d : Addr} {es : List Ent} (h : BookAt C H p d es) (s : Same H H') : BookAt C H' p d es := ⟨by obtain ⟨dx, e⟩ := h.ob; exact ⟨dx, s _ _ e⟩, s _ _ h.tb⟩
theorem wl_put (d d' : Addr) : putF "ways" (.ref d') (wl d) = wl d' := by unfold wl; simp [putF]
def hasE (es : List Ent) (n : Int) : Bool := es.any fun e => decide (e.k = n)
theorem hasE_t {es : List Ent} {n : Int} : hasE es n = true ↔ ∃ e ∈ es, e.k = n := by simp [hasE]
theorem hasE_f {es : List Ent} {n : Int} : hasE es n = false ↔ ∀ e ∈ es, e.k ≠ n := by simp [hasE]
def Pair (H : Hp) (x : V) (f g : Addr) : Prop := ∃ (t : Addr) (ms : List Int), x = .ref t ∧ H t = some (.tup [.ref f, .ref g]) ∧ H f = some (.lst (ms.map V.int)) ∧ H g = some (.lst (ms.map V.int))
structure Row where
  p : Addr
  d : Addr
  e : Addr
  es : List Ent
structure Apart (r s : Row) : Prop where
  dd : r.d ≠ s.d
  de : r.d ≠ s.e
  ed : r.e ≠ s.d
  ee : r.e ≠ s.e
structure RowAt (C : Addr) (H : Hp) (r : Row) : Prop where
  bk : BookAt C H r.p r.d r.es
  kp : H r.e = some (.dK (dw r.es))
  en : Ents H r.es
  ne : r.d ≠ r.e
structure Rows (C : Addr) (H : Hp) (rs : List Row) : Prop where
  ok : ∀ r ∈ rs, RowAt C H r
  ap : ∀ (i j : Nat) (r s : Row), rs[i]? = some r → rs[j]? = some s → i ≠ j → Apart r s
def SameD (l m : Addr) (H H' : Hp) : Prop := ∀ b o, H b = some o → b ≠ l → b ≠ m → (∀ kvs, o ≠ .dK kvs) → H' b = some o
def Keep (H H' : Hp) : Prop := ∀ b o, H b = some o → (∀ xs, o ≠ .lst xs) → H' b = some o
theorem keep_of {H H' : Hp} (s : Same H H') : Keep H H' := fun b o h _ => s b o h
theorem Keep.trans {H H1 H2 : Hp} (a : Keep H H1) (b : Keep H1 H2) : Keep H H2 := fun c o h n => b c o (a c o h n) n
theorem RowAt.keep {C : Addr} {H H' : Hp} {r : Row} (h : RowAt C H r) (k : Keep H H') : RowAt C H' r :=
  ⟨⟨by obtain ⟨dx, e⟩ := h.bk.ob; exact ⟨dx, k _ _ e fun xs z => by cases z⟩, k _ _ h.bk.tb fun xs z => (by cases z)⟩, k _ _ h.kp fun xs z => (by cases z), h.en.tups fun b xs e => k _ _ e fun ys z => (by cases z), h.ne⟩
theorem Rows.keep {C : Addr} {H H' : Hp} {rs : List Row} (h : Rows C H rs) (k : Keep H H') : Rows C H' rs := ⟨fun r hr => (h.ok r hr).keep k, h.ap⟩
theorem Rows.at {C : Addr} {H : Hp} {rs : List Row} {i : Nat} {r : Row} (h : Rows C H rs) (hi : rs[i]? = some r) : RowAt C H r := h.ok r (List.mem_of_getElem? hi)
theorem Apart.symm {r s : Row} (h : Apart r s) : Apart s r := ⟨h.dd.symm, h.ed.symm, h.de.symm, h.ee.symm⟩
theorem set_get {rs : List Row} {w i : Nat} {r' x : Row} (h : (rs.set w r')[i]? = some x) : (i = w ∧ x = r') ∨ (i ≠ w ∧ rs[i]? = some x) := by
  rw [List.getElem?_set] at h
  by_cases z : w = i
  · rw [if_pos z] at h
    split at h
    · exact .inl ⟨z.symm, (Option.some.inj h).symm⟩
    · cases h
  · rw [if_neg z] at h
    exact .inr ⟨fun y => z y.symm, h⟩
theorem Rows.put {C : Addr} {H H' : Hp} {rs : List Row} {w : Nat} {r1 : Row} (R : Rows C H rs) (o : ∀ j s, j ≠ w → rs[j]? = some s → RowAt C H' s ∧ Apart s r1) (h1 : RowAt C H' r1) : Rows C H' (rs.set w r1) := by
  refine ⟨fun x hx => ?_, fun i j x y hi hj n => ?_⟩
  · obtain ⟨j, hj⟩ := List.mem_iff_getElem?.mp hx
    rcases set_get hj with ⟨_, rfl⟩ | ⟨n, e⟩
    · exact h1
    · exact (o j x n e).1
  · rcases set_get hi with ⟨z1, rfl⟩ | ⟨n1, e1⟩ <;> rcases set_get hj with ⟨z2, rfl⟩ | ⟨n2, e2⟩
    · omega
    · exact (o j y n2 e2).2.symm
    · exact (o i x n1 e1).2
    · exact R.ap i j x y e1 e2 n
theorem Rows.snoc {C : Addr} {H : Hp} {rs : List Row} {s : Row} (R : Rows C H rs) (h : RowAt C H s) (a : ∀ x ∈ rs, Apart x s) : Rows C H (rs ++ [s]) := by
  have get : ∀ {i : Nat} {x : Row}, (rs ++ [s])[i]? = some x → (rs[i]? = some x ∧ x ∈ rs) ∨ (i = rs.length ∧ x = s) := fun {i x} e => by
    rw [List.getElem?_append] at e
    split at e
    · exact .inl ⟨e, List.mem_of_getElem? e⟩
    · rename_i n
      by_cases z : i = rs.length
      · subst z
        simp at e
        exact .inr ⟨rfl, e.symm⟩
      · rw [List.getElem?_eq_none (by simp; omega)] at e
        cases e
  refine ⟨fun x hx => ?_, fun i j x y hi hj n => ?_⟩
  · rcases List.mem_append.mp hx with z | z
    · exact R.ok x z
    · rw [List.mem_singleton.mp z]; exact h
  · rcases get hi with ⟨e1, m1⟩ | ⟨z1, rfl⟩ <;> rcases get hj with ⟨e2, m2⟩ | ⟨z2, rfl⟩
    · exact R.ap i j x y e1 e2 n
    · exact a x m1
    · exact (a y m2).symm
    · omega
theorem set_map {α : Type} (f : Row → α) {rs : List Row} {w : Nat} {r r' : Row} (hw : rs[w]? = some r) (h : f r' = f r) : (rs.set w r').map f = rs.map f := by
  rw [List.map_set, h]
  refine List.ext_getElem? fun i => ?_
  rw [List.getElem?_set]
  by_cases z : w = i
  · subst z
    rw [if_pos rfl, List.getElem?_map, hw]
    simp [(List.getElem?_eq_some_iff.mp hw).1]
  · rw [if_neg z]
theorem Rows.free {C : Addr} {H : Hp} {rs : List Row} {x : Row} {a : Addr} (R : Rows C H rs) (hx : x ∈ rs) (n : H a = none) : x.d ≠ a ∧ x.e ≠ a ∧ x.p ≠ a :=
  ⟨fun z => (by have := (R.ok x hx).bk.tb; rw [z, n] at this; cases this), fun z => (by have := (R.ok x hx).kp; rw [z, n] at this; cases this), fun z => (by obtain ⟨dx, e⟩ := (R.ok x hx).bk.ob; rw [z, n] at e; cases e)⟩
def Held (l m h : Addr) (H : Hp) (n : Nat) : Prop := ∃ xs : List V, H h = some (.lst xs) ∧ xs.length = n ∧ ∀ x ∈ xs, ∃ f g, Pair H x f g ∧ (f ≠ l ∧ f ≠ m ∧ f ≠ h) ∧ g ≠ l ∧ g ≠ m ∧ g ≠ h
theorem Pair.mono {H H' : Hp} {x : V} {f g : Addr} (p : Pair H x f g) (s : ∀ b o, H b = some o → ((∃ xs, o = .tup xs) ∨ b = f ∨ b = g) → H' b = some o) : Pair H' x f g := by
  obtain ⟨t, ms, e, h1, h2, h3⟩ := p
  exact ⟨t, ms, e, s _ _ h1 (.inl ⟨_, rfl⟩), s _ _ h2 (.inr (.inl rfl)), s _ _ h3 (.inr (.inr rfl))⟩
theorem Held.same {l m h : Addr} {H H' : Hp} {n : Nat} (x : Held l m h H n) (s : Same H H') : Held l m h H' n := by
  obtain ⟨xs, e, ln, p⟩ := x
  refine ⟨xs, s _ _ e, ln, fun x hx => ?_⟩
  obtain ⟨f, g, pr, ff⟩ := p x hx
  exact ⟨f, g, pr.mono fun b o hb _ => s _ _ hb, ff⟩
theorem Held.more {l m h : Addr} {H H' : Hp} {n : Nat} {xs : List V} {x : V} {f g : Addr} {ol om : HO} (hh : H h = some (.lst xs)) (ln : xs.length = n) (p : ∀ x ∈ xs, ∃ f g, Pair H x f g ∧ (f ≠ l ∧ f ≠ m ∧ f ≠ h) ∧ g ≠ l ∧ g ≠ m ∧ g ≠ h) (s : SameB h H H') (hh' : H' h = some (.lst (xs ++ [x]))) (q : Pair H' x f g) (nf : H f = none) (ng : H g = none) (hl : H l = some ol) (hm : H m = some om) : Held l m h H' (n + 1) := by
  refine ⟨_, hh', by simp [ln], fun y hy => ?_⟩
  rcases List.mem_append.mp hy with z | z
  · obtain ⟨f, g, pr, ⟨f1, f2, f3⟩, g1, g2, g3⟩ := p y z
    refine ⟨f, g, pr.mono fun b o hb z => s _ _ hb ?_, ⟨f1, f2, f3⟩, g1, g2, g3⟩
    rcases z with ⟨ys, rfl⟩ | rfl | rfl
    · exact ne_of hb hh (by intro z; cases z)
    · exact f3
    · exact g3
  · rw [List.mem_singleton.mp z]
    have nn : ∀ {a b : Addr} {o : HO}, H a = none → H b = some o → a ≠ b := fun {a b o} n e z => by rw [z, e] at n; cases n
    exact ⟨f, g, q, ⟨nn nf hl, nn nf hm, nn nf hh⟩, nn ng hl, nn ng hm, nn ng hh⟩
def KeepD (H H' : Hp) : Prop := ∀ b o, H b = some o → (∀ kvs, o ≠ .dK kvs) → H' b = some o
theorem KeepD.trans {H H1 H2 : Hp} (a : KeepD H H1) (b : KeepD H1 H2) : KeepD H H2 := fun c o h n => b c o (a c o h n) n
theorem KeepD.tups {H H' : Hp} (k : KeepD H H') : Tups H H' := fun b xs e => k b _ e fun kvs z => (by cases z)
theorem KeepD.d {H H' : Hp} (k : KeepD H H') (l m : Addr) : SameD l m H H' := fun b o e _ _ n => k b o e n
structure LawSt (K : PySem.W.Frag) (C a l m h : Addr) (ns : List Int) (H : Hp) (rs : List Row) (n : Nat) : Prop where
  sq : (Rd H a (.lst (ns.map V.int)) ∧ a ≠ l ∧ a ≠ m ∧ a ≠ h) ∨ ∀ H', SqL K H' a (ns.map V.int)
  hl : H l = some (.lst (rs.map fun r => V.ref r.p))
  hm : H m = some (.lst (rs.map fun r => V.ref r.e))
  lm : l ≠ m
  hn : h ≠ l
  hk : h ≠ m
  rows : Rows C H rs
  held : Held l m h H n
theorem LawSt.seq {K : PySem.W.Frag} {C a l m h : Addr} {ns : List Int} {H : Hp} {rs : List Row} {n : Nat} (L : LawSt K C a l m h ns H rs n) : SqL K H a (ns.map V.int) := by
  rcases L.sq with ⟨z, _⟩ | z
  · exact .inl z
  · exact z H
theorem LawSt.same {K : PySem.W.Frag} {C a l m h : Addr} {ns : List Int} {H H' : Hp} {rs : List Row} {n : Nat} (L : LawSt K C a l m h ns H rs n) (s : Same H H') : LawSt K C a l m h ns H' rs n := by
  refine ⟨?_, s _ _ L.hl, s _ _ L.hm, L.lm, L.hn, L.hk, L.rows.keep (keep_of s), L.held.same s⟩
  rcases L.sq with ⟨z | ⟨o, z⟩, r⟩ | z
  · exact .inl ⟨.inl (s _ _ z), r⟩
  · exact .inl ⟨.inr ⟨o, s _ _ z⟩, r⟩
  · exact .inr z
def SameL (l m : Addr) (H H' : Hp) : Prop := ∀ b o, H b = some o → b ≠ l → b ≠ m → H' b = some o
theorem SameL.keep {l m : Addr} {H H' : Hp} {xs ys : List V} (s : SameL l m H H') (hl : H l = some (.lst xs)) (hm : H m = some (.lst ys)) : Keep H H' := fun b o e n => s b o e (ne_of e hl (n xs)) (ne_of e hm (n ys))
theorem SameL.free {l m x : Addr} {H H' : Hp} {xs ys : List V} (s : SameL l m H H') (hl : H' l = some (.lst xs)) (hm : H' m = some (.lst ys)) (h : H' x = none) : H x = none := by
  cases q : H x with
  | none => rfl
  | some o =>
    rw [s x o q (fun z => by rw [z, hl] at h; cases h) (fun z => by rw [z, hm] at h; cases h)] at h
    cases h
theorem ne_dict {H : Hp} {a b : Addr} {xs : List V} {kvs : List (Key × V)} (h : H a = some (.tup xs)) (g : H b = some (.dK kvs)) : a ≠ b := ne_of h g (by intro z; cases z)
theorem made {H : Hp} {x dx d : Addr} {o1 o2 o3 o4 : HO} (nx : H x = none) (ndx : H dx = none) (nn : dx ≠ x) (n3 : upd (upd H dx o1) x o2 d = none) : Same H (upd (upd (upd (upd H dx o1) x o2) d o3) x o4) ∧ d ≠ x ∧ H d = none := by
  have dn : d ≠ x := fun z => by rw [z, upd_same] at n3; cases n3
  have dd : d ≠ dx := fun z => by rw [upd_ne dn, z, upd_same] at n3; cases n3
  have hd : H d = none := by rw [upd_ne dn, upd_ne dd] at n3; exact n3
  refine ⟨fun b o e => ?_, dn, hd⟩
  rw [upd_ne (ne_of_none e nx), upd_ne (ne_of_none e hd), upd_ne (ne_of_none e nx), upd_ne (ne_of_none e ndx)]
  exact e
theorem ents_nil {H : Hp} : Ents H [] := ⟨fun e he => (by cases he), List.nodup_nil⟩
end Bk
set_option Elab.async false
set_option linter.all false
set_option maxRecDepth 100000
namespace Bk
open PySem L2 Wy
theorem first_ex (b : Int) (c : List Int) (b' : Int) (c' : List Int) : ∃ o, First b c b' c' o := by
  by_cases h : ∃ t, b ≤ t ∧ b' ≤ t ∧ mtAt b c b' c' t ≠ none
  · obtain ⟨t, h1, h2, h3⟩ := h
    have go : ∀ (n : Nat) (t : Int), b ≤ t → b' ≤ t → (t - b).toNat < n → mtAt b c b' c' t ≠ none → ∃ o, First b c b' c' o := by
      intro n
      induction n with
      | zero => intro t _ _ hn _; omega
      | succ n ih =>
        intro t h1 h2 hn h3
        by_cases z : ∃ t', b ≤ t' ∧ b' ≤ t' ∧ t' < t ∧ mtAt b c b' c' t' ≠ none
        · obtain ⟨t', g1, g2, g3, g4⟩ := z
          exact ih t' g1 g2 (by omega) g4
        · cases hw : mtAt b c b' c' t with
          | none => exact absurd hw h3
          | some w => exact ⟨some (t, w), h1, h2, hw, fun t' g1 g2 g3 => Classical.byContradiction fun g4 => z ⟨t', g1, g2, g3, g4⟩⟩
    exact go _ t h1 h2 (Nat.lt_succ_self _) h3
  · exact ⟨none, fun t h1 h2 => Classical.byContradiction fun g => h ⟨t, h1, h2, g⟩⟩
theorem no_mt {b : Int} {c : List Int} {b' : Int} {c' : List Int} (h : ¬ Mt b c b' c') : First b c b' c' none := by
  obtain ⟨o, ho⟩ := first_ex b c b' c'
  cases o with
  | none => exact ho
  | some x => exact absurd ⟨x, ho⟩ h
theorem mt_comm {b : Int} {c : List Int} {b' : Int} {c' : List Int} (h : Mt b c b' c') : Mt b' c' b c := by
  obtain ⟨x, hx⟩ := h
  exact ⟨x, hx.comm⟩
def Apt (es : List Ent) : Prop := ∀ e ∈ es, ∀ e' ∈ es, e.k ≠ e'.k → ¬ Mt e.b e.c e'.b e'.c
theorem Apt.put {es : List Ent} {n b : Int} {v : V} {c : List Int} (h : Apt es) (p : PutIs es n b c none) : Apt (putE es ⟨n, v, b, c⟩) := by
  have mem : ∀ x ∈ putE es ⟨n, v, b, c⟩, x = ⟨n, v, b, c⟩ ∨ (x ∈ es ∧ x.k ≠ n) := fun x hx => by
    unfold putE at hx
    split at hx
    · obtain ⟨y, hy, rfl⟩ := List.mem_map.mp hx
      split
      · exact .inl rfl
      · rename_i z; exact .inr ⟨hy, z⟩
    · rename_i hn
      rcases List.mem_append.mp hx with z | z
      · exact .inr ⟨z, fun y => hn (List.any_eq_true.mpr ⟨x, z, decide_eq_true y⟩)⟩
      · exact .inl (List.mem_singleton.mp z)
  intro e he e' he' nk hm
  rcases mem e he with rfl | ⟨m1, n1⟩ <;> rcases mem e' he' with rfl | ⟨m2, n2⟩
  · exact nk rfl
  · exact p e' m2 n2 hm
  · exact p e m1 n1 (mt_comm hm)
  · exact h e m1 e' m2 nk hm
theorem Apt.sub {es fs : List Ent} (h : Apt es) (s : ∀ x ∈ fs, x ∈ es) : Apt fs := fun e he e' he' nk hm => h e (s e he) e' (s e' he') nk hm
theorem apart_plc {b : Int} {c : List Int} {b' : Int} {c' : List Int} {t z : Int} (h : ¬ Mt b c b' c') (p : plc b c t = .int z) (q : plc b' c' t = .int z) : False := by
  have h1 : b ≤ t := Int.not_lt.mp fun y => by rw [plc_non.mpr y] at p; cases p
  have h2 : b' ≤ t := Int.not_lt.mp fun y => by rw [plc_non.mpr y] at q; cases q
  have := no_mt h t h1 h2
  unfold mtAt mw at this
  rw [p, q, if_pos rfl] at this
  cases this
def besd (es : List Ent) (n : Int) : List Ent := dropE es n
theorem besd_in {es : List Ent} {n : Int} {e : Ent} : e ∈ besd es n ↔ e ∈ es ∧ e.k ≠ n := by simp [besd, dropE]
def whoIs (es : List Ent) (cell t : Int) : V := match es.find? fun e => decide (plc e.b e.c t = .int cell) with
  | some e => .int e.k
  | none => .non
theorem who_no {es : List Ent} {cell t : Int} (h : ∀ (i : Nat) (e : Ent), es[i]? = some e → plc e.b e.c t ≠ .int cell) : whoIs es cell t = .non := by
  unfold whoIs
  rw [List.find?_eq_none.mpr fun e he => ?_]
  obtain ⟨i, hi⟩ := List.mem_iff_getElem?.mp he
  simpa using h i e hi
theorem who_at : ∀ {es : List Ent} {cell t : Int} {i : Nat} {e : Ent}, (∀ (j : Nat) (e : Ent), j < i → es[j]? = some e → plc e.b e.c t ≠ .int cell) → es[i]? = some e → plc e.b e.c t = .int cell → whoIs es cell t = .int e.k
  | x :: es, cell, t, 0, e, _, hi, hp => by
    cases hi
    unfold whoIs
    rw [List.find?_cons_of_pos (by simpa using hp)]
  | x :: es, cell, t, i + 1, e, h, hi, hp => by
    have := who_at (es := es) (cell := cell) (t := t) (i := i) (e := e) (fun j y hj hy => h (j + 1) y (by omega) (by simpa using hy)) (by simpa using hi) hp
    unfold whoIs at this ⊢
    rw [List.find?_cons_of_neg (by simpa using h 0 x (by omega) rfl)]
    exact this
structure ComIs (es : List Ent) (t : Int) (kvs : List (Key × V)) : Prop where
  from' : ∀ (z : Int) (v : V), valV kvs (Sum.inl z) = some v → ∃ e ∈ es, plc e.b e.c (t + 1) = .int z ∧ plc e.b e.c t = v
  to : ∀ e ∈ es, ∀ z : Int, plc e.b e.c (t + 1) = .int z → (valV kvs (Sum.inl z)).isSome = true
  len : kvs.length ≤ es.length
def OpenIs (es : List Ent) (cell other t : Int) : Prop := ∀ e ∈ es, plc e.b e.c (t + 1) ≠ .int other ∧ ¬ (plc e.b e.c t = .int other ∧ plc e.b e.c (t + 1) = .int cell)
theorem open_iff {es : List Ent} {t cell other : Int} {kvs : List (Key × V)} (h : ComIs es t kvs) (a : Apt es) (nd : (es.map (·.k)).Nodup) : (valV kvs (Sum.inl other) = none ∧ (valV kvs (Sum.inl cell)).getD .non ≠ .int other) ↔ OpenIs es cell other t := by
  constructor
  · rintro ⟨h1, h2⟩ e he
    refine ⟨fun z => ?_, fun z => ?_⟩
    · have := h.to e he other z
      rw [h1] at this
      cases this
    · obtain ⟨z1, z2⟩ := z
      obtain ⟨v, hv⟩ := Option.isSome_iff_exists.mp (h.to e he cell z2)
      obtain ⟨e2, m2, p2, q2⟩ := h.from' cell v hv
      by_cases ek : e2.k = e.k
      · rw [key_one nd he m2 ek, z1] at q2
        exact h2 (by rw [hv, ← q2]; rfl)
      · exact apart_plc (a e2 m2 e he ek) p2 z2
  · intro o
    refine ⟨?_, fun z => ?_⟩
    · cases hv : valV kvs (Sum.inl other) with
      | none => rfl
      | some v =>
        obtain ⟨e, he, p, _⟩ := h.from' other v hv
        exact absurd p (o e he).1
    · cases hv : valV kvs (Sum.inl cell) with
      | none => rw [hv] at z; cases z
      | some v =>
        rw [hv] at z
        obtain ⟨e, he, p, q⟩ := h.from' cell v hv
        exact (o e he).2 ⟨by rw [q]; exact z, p⟩
theorem com_nil {t : Int} : ComIs [] t [] := ⟨fun z v h => (by cases h), fun e he => (by cases he), Nat.le_refl _⟩
theorem com_skip {es : List Ent} {t : Int} {kvs : List (Key × V)} {e : Ent} (h : ComIs es t kvs) (p : plc e.b e.c (t + 1) = .non) : ComIs (es ++ [e]) t kvs := by
  refine ⟨fun z v hv => ?_, fun x hx z pz => ?_, by rw [List.length_append]; have := h.len; omega⟩
  · obtain ⟨x, hx, r⟩ := h.from' z v hv
    exact ⟨x, List.mem_append.mpr (.inl hx), r⟩
  · rcases List.mem_append.mp hx with y | y
    · exact h.to x y z pz
    · rw [List.mem_singleton.mp y, p] at pz; cases pz
theorem com_put {es : List Ent} {t : Int} {kvs kvs' : List (Key × V)} {e : Ent} {z0 : Int} (h : ComIs es t kvs) (p : plc e.b e.c (t + 1) = .int z0) (hv : ∀ j, valV kvs' j = if j = Sum.inl z0 then some (plc e.b e.c t) else valV kvs j) (hl : kvs'.length ≤ kvs.length + 1) : ComIs (es ++ [e]) t kvs' := by
  refine ⟨fun z v hz => ?_, fun x hx z pz => ?_, by rw [List.length_append]; have := h.len; simp; omega⟩
  · rw [hv] at hz
    split at hz
    · rename_i y
      cases y
      exact ⟨e, by simp, p, Option.some.inj hz⟩
    · obtain ⟨x, hx, r⟩ := h.from' z v hz
      exact ⟨x, List.mem_append.mpr (.inl hx), r⟩
  · rw [hv]
    split
    · rfl
    · rename_i y
      rcases List.mem_append.mp hx with w | w
      · exact h.to x w z pz
      · rw [List.mem_singleton.mp w, p] at pz
        cases pz
        exact absurd rfl y
def endC (c : List Int) : Int := c.getD (c.length - 1) 0
structure FreeOk (es : List Ent) (cell n : Int) : Prop where
  pos : 0 ≤ n
  low : ∀ e ∈ es, ∀ t, 0 ≤ t → plc e.b e.c t = .int cell → t < n
  hit : n = 0 ∨ ∃ e ∈ es, plc e.b e.c (n - 1) = .int cell
theorem FreeOk.uniq {es : List Ent} {cell n n' : Int} (h : FreeOk es cell n) (h' : FreeOk es cell n') : n = n' := by
  have one : ∀ {n n' : Int}, FreeOk es cell n → FreeOk es cell n' → ¬ n < n' := fun {n n'} h h' z => by
    rcases h'.hit with y | ⟨e, he, p⟩
    · have := h.pos; omega
    · have := h.low e he (n' - 1) (by have := h.pos; omega) p
      omega
  have := one h h'
  have := one h' h
  omega
def FreeIs (es : List Ent) (cell : Int) (v : V) : Prop := (v = .non ∧ ∃ e ∈ es, endC e.c = cell) ∨ ∃ n, v = .int n ∧ (∀ e ∈ es, endC e.c ≠ cell) ∧ FreeOk es cell n
theorem FreeIs.uniq {es : List Ent} {cell : Int} {v v' : V} (h : FreeIs es cell v) (h' : FreeIs es cell v') : v = v' := by
  rcases h with ⟨h1, e, he, h2⟩ | ⟨n, h1, h2, h3⟩ <;> rcases h' with ⟨g1, e', ge, g2⟩ | ⟨n', g1, g2, g3⟩
  · rw [h1, g1]
  · exact absurd h2 (g2 e he)
  · exact absurd g2 (h2 e' ge)
  · rw [h1, g1, h3.uniq g3]
def LeftIs (b : Int) (c : List Int) (cell n : Int) (m : Nat) : Prop := (n = 0 ∧ ∀ i, i < m → c[i]? ≠ some cell) ∨ ∃ i, i < m ∧ c[i]? = some cell ∧ n = b + (i : Nat) + 1 ∧ ∀ j, i < j → j < m → c[j]? ≠ some cell
theorem left_step {b : Int} {c : List Int} {cell n x : Int} {m : Nat} (h : LeftIs b c cell n m) (hx : c[m]? = some x) : LeftIs b c cell (if x = cell then b + (m : Nat) + 1 else n) (m + 1) := by
  split
  · rename_i z
    subst z
    exact .inr ⟨m, Nat.lt_succ_self _, hx, rfl, fun j h1 h2 => by omega⟩
  · rename_i z
    rcases h with ⟨h1, h2⟩ | ⟨i, h1, h2, h3, h4⟩
    · refine .inl ⟨h1, fun i hi y => ?_⟩
      rcases Nat.lt_succ_iff_lt_or_eq.mp hi with w | w
      · exact h2 i w y
      · rw [w, hx] at y; exact z (Option.some.inj y)
    · refine .inr ⟨i, by omega, h2, h3, fun j g1 g2 y => ?_⟩
      rcases Nat.lt_succ_iff_lt_or_eq.mp g2 with w | w
      · exact h4 j g1 w y
      · rw [w, hx] at y; exact z (Option.some.inj y)
theorem plc_get {b : Int} {c : List Int} {i : Nat} {x : Int} (hi : c[i]? = some x) : plc b c (b + (i : Nat)) = .int x := by
  obtain ⟨h1, h2⟩ := List.getElem?_eq_some_iff.mp hi
  have e : idx b c (b + (i : Nat)) = (i : Nat) := by
    unfold idx
    rw [if_neg (by omega)]
    omega
  unfold plc
  rw [if_neg (by omega), e, Int.toNat_natCast, List.getD_eq_getElem?_getD, hi]
  rfl
theorem plc_of {b : Int} {c : List Int} {t cell : Int} (hc : c ≠ []) (hl : endC c ≠ cell) (h : plc b c t = .int cell) : ∃ i : Nat, c[i]? = some cell ∧ t = b + (i : Nat) := by
  have lp : 0 < c.length := List.length_pos_iff.mpr hc
  have h1 : b ≤ t := Int.not_lt.mp fun y => by rw [plc_non.mpr y] at h; cases h
  have h' := h
  unfold plc at h'
  rw [if_neg (by omega)] at h'
  by_cases z : (c.length : Int) - 1 < t - b
  · have e : idx b c t = (c.length : Int) - 1 := by unfold idx; rw [if_pos z]
    rw [e, show ((c.length : Int) - 1).toNat = c.length - 1 by omega] at h'
    exact absurd (V.int.inj h') hl
  · have e : idx b c t = t - b := by unfold idx; rw [if_neg z]
    rw [e] at h'
    have hi : (t - b).toNat < c.length := by omega
    refine ⟨(t - b).toNat, ?_, by omega⟩
    rw [List.getD_eq_getElem?_getD, List.getElem?_eq_getElem hi] at h'
    rw [List.getElem?_eq_getElem hi]
    exact congrArg some (V.int.inj h')
theorem free_nil {cell : Int} : FreeOk [] cell 0 := ⟨Int.le_refl _, fun e he => (by cases he), .inl rfl⟩
theorem free_left {es : List Ent} {cell n m : Int} {e : Ent} (h : FreeOk es cell n) (hc : e.c ≠ []) (b0 : 0 ≤ e.b) (hl : endC e.c ≠ cell) (hm : LeftIs e.b e.c cell m e.c.length) : FreeOk (es ++ [e]) cell (if m > n then m else n) := by
  have old : ∀ {x : Int}, n ≤ x → (∀ t, 0 ≤ t → plc e.b e.c t = .int cell → t < x) → ∀ y ∈ es ++ [e], ∀ t, 0 ≤ t → plc y.b y.c t = .int cell → t < x := fun {x} h1 h2 y hy t t0 p => by
    rcases List.mem_append.mp hy with w | w
    · have := h.low y w t t0 p; omega
    · rw [List.mem_singleton.mp w] at p; exact h2 t t0 p
  have hp := h.pos
  rcases hm with ⟨h1, h2⟩ | ⟨i, h1, h2, h3, h4⟩
  · rw [if_neg (by omega)]
    refine ⟨hp, old (Int.le_refl _) (fun t t0 p => ?_), h.hit.imp id fun ⟨y, hy, r⟩ => ⟨y, List.mem_append.mpr (.inl hy), r⟩⟩
    obtain ⟨i, hi, _⟩ := plc_of hc hl p
    exact absurd hi (h2 i (List.getElem?_eq_some_iff.mp hi).1)
  · have top : ∀ t, 0 ≤ t → plc e.b e.c t = .int cell → t < m := fun t t0 p => by
      obtain ⟨j, hj, ej⟩ := plc_of hc hl p
      by_cases z : i < j
      · exact absurd hj (h4 j z (List.getElem?_eq_some_iff.mp hj).1)
      · omega
    by_cases z : m > n
    · rw [if_pos z]
      refine ⟨by omega, old (by omega) top, .inr ⟨e, by simp, ?_⟩⟩
      rw [h3, show e.b + (i : Nat) + 1 - 1 = e.b + (i : Nat) by omega]
      exact plc_get h2
    · rw [if_neg z]
      exact ⟨hp, old (Int.le_refl _) (fun t t0 p => by have := top t t0 p; omega), h.hit.imp id fun ⟨y, hy, r⟩ => ⟨y, List.mem_append.mpr (.inl hy), r⟩⟩
theorem plc_late {b : Int} {c : List Int} {t : Int} (hc : c ≠ []) (h : b + (c.length : Int) - 1 ≤ t) : plc b c t = .int (endC c) := by
  have lp : 0 < c.length := List.length_pos_iff.mpr hc
  unfold plc
  rw [if_neg (by omega)]
  have e : (idx b c t).toNat = c.length - 1 := by
    unfold idx
    split <;> omega
  rw [e]
  rfl
structure FreeTo (es : List Ent) (e : Ent) (cell n : Int) (j : Int) : Prop where
  pos : 0 ≤ n
  low : ∀ x ∈ es, ∀ t, 0 ≤ t → plc x.b x.c t = .int cell → t < n
  lo2 : ∀ t, 0 ≤ t → t < j → plc e.b e.c t = .int cell → t < n
  hit : n = 0 ∨ ∃ x ∈ es ++ [e], plc x.b x.c (n - 1) = .int cell
theorem frT_0 {es : List Ent} {e : Ent} {cell n : Int} (h : FreeOk es cell n) : FreeTo es e cell n 0 := ⟨h.pos, h.low, fun t h1 h2 => (by omega), h.hit.imp id fun ⟨y, hy, r⟩ => ⟨y, List.mem_append.mpr (.inl hy), r⟩⟩
theorem frT_no {es : List Ent} {e : Ent} {cell n j : Int} (h : FreeTo es e cell n j) (p : plc e.b e.c j ≠ .int cell) : FreeTo es e cell n (j + 1) :=
  ⟨h.pos, h.low, fun t h1 h2 q => (by
    by_cases z : t = j
    · rw [z] at q; exact absurd q p
    · exact h.lo2 t h1 (by omega) q), h.hit⟩
theorem frT_yes {es : List Ent} {e : Ent} {cell n j : Int} (h : FreeTo es e cell n j) (p : plc e.b e.c j = .int cell) (j0 : 0 ≤ j) : FreeTo es e cell (if j + 1 > n then j + 1 else n) (j + 1) := by
  have hp := h.pos
  split
  · refine ⟨by omega, fun x hx t h1 h2 => ?_, fun t h1 h2 q => by omega, .inr ⟨e, by simp, by rw [show j + 1 - 1 = j by omega]; exact p⟩⟩
    have := h.low x hx t h1 h2
    omega
  · exact ⟨hp, h.low, fun t h1 h2 q => by omega, h.hit⟩
theorem frT_end {es : List Ent} {e : Ent} {cell n j : Int} (h : FreeTo es e cell n j) (hc : e.c ≠ []) (hl : endC e.c ≠ cell) (hj : e.b + (e.c.length : Int) ≤ j) : FreeOk (es ++ [e]) cell n := by
  refine ⟨h.pos, fun x hx t h1 h2 => ?_, h.hit⟩
  rcases List.mem_append.mp hx with z | z
  · exact h.low x z t h1 h2
  · rw [List.mem_singleton.mp z] at h2
    obtain ⟨i, hi, et⟩ := plc_of hc hl h2
    have := (List.getElem?_eq_some_iff.mp hi).1
    exact h.lo2 t h1 (by omega) h2
theorem besd_take {es : List Ent} {i : Nat} {e : Ent} {n : Int} (hi : es[i]? = some e) : besd (es.take (i + 1)) n = if e.k = n then besd (es.take i) n else besd (es.take i) n ++ [e] := by
  unfold besd dropE
  rw [List.take_add_one, hi, List.filter_append]
  split
  · rename_i z; simp [z]
  · rename_i z; simp [z]
def neV (n : Int) : V → Bool
  | .int k => decide (k ≠ n)
  | _ => true
def atV (es : List Ent) : V → V
  | .int k => (valV (dw es) (Sum.inl k)).getD .non
  | _ => .non
theorem dw_keys (es : List Ent) : ((dw es).map fun kv => kV kv.1) = es.map fun e => V.int e.k := by
  unfold dw kv
  rw [List.map_map, List.map_map]
  rfl
theorem dw_vals (es : List Ent) : ((dw es).map (·.2)) = es.map (·.v) := by
  unfold dw kv
  rw [List.map_map, List.map_map]
  rfl
theorem dw_at {es : List Ent} {i : Nat} {k : Key} {v : V} (h : (dw es)[i]? = some (k, v)) : ∃ e, es[i]? = some e ∧ k = Sum.inl e.k ∧ v = e.v := by
  unfold dw kv at h
  rw [List.getElem?_map, List.getElem?_map] at h
  cases he : es[i]? with
  | none => rw [he] at h; cases h
  | some e =>
    rw [he] at h
    cases h
    exact ⟨e, rfl, rfl, rfl⟩
theorem beside_map (es : List Ent) (n : Int) (f : V → V) (g : Ent → V) (h : ∀ e ∈ es, f (.int e.k) = g e) : ((((dw es).map fun kv => kV kv.1).filter (neV n)).map f) = (besd es n).map g := by
  rw [dw_keys]
  unfold besd dropE
  rw [List.filter_map, List.map_map]
  have e : (neV n ∘ fun e : Ent => V.int e.k) = fun e : Ent => decide (e.k ≠ n) := rfl
  rw [e]
  exact List.map_congr_left fun x hx => h x (List.mem_filter.mp hx).1
theorem thaw_same {H H2 : Hp} {a : Addr} {kvs : List (Key × V)} (h : H a = some (.dK kvs)) (s : SameB a H H2) : Same H (upd H2 a (.dK kvs)) := fun b o e => by
  by_cases z : b = a
  · subst z
    rw [h] at e
    rw [upd_same, e]
  · rw [upd_ne z]
    exact s b o e z
theorem fz_get {H : Hp} {d : Addr} {o : Obj} {es : List Ent} {e : Ent} (hf : H d = some (.frz o (.dK (dw es)))) (nd : (es.map (·.k)).Nodup) (he : e ∈ es) : DGet H d (.int e.k) (some e.v) := by
  have : DGet H d (kV (Sum.inl e.k)) (valV (dw es) (Sum.inl e.k)) := .inl ⟨_, _, .inr ⟨o, hf⟩, rfl, rfl⟩
  rw [val_mem nd he] at this
  exact this
end Bk
set_option Elab.async false
set_option linter.all false
set_option maxRecDepth 100000
namespace Pf
open PySem L2
def top (i : Nat) : Stmt := PySem.Challenge.pw_floorways_k14_who_and_open.main.body.getD i (.Pass ⟨0, 0, 0, 0⟩)
abbrev s_q9 : Stmt := inClass (top 4) 0
abbrev s_q17 : Stmt := top 6
abbrev s_q13 : Stmt := top 8
abbrev s_q18 : Stmt := top 9
abbrev s_q19 : Stmt := top 10
abbrev s_q4 : Stmt := top 11
abbrev s_q3 : Stmt := top 12
abbrev s_q14 : Stmt := inClass (top 14) 0
abbrev s_q20 : Stmt := inClass (top 14) 1
abbrev s_q15 : Stmt := inClass (top 14) 2
abbrev s_q5 : Stmt := inClass (top 14) 4
abbrev s_q8 : Stmt := inClass (top 14) 5
abbrev s_q21 : Stmt := inClass (top 14) 6
abbrev s_q6 : Stmt := inClass (top 14) 7
abbrev s_q7 : Stmt := inClass (top 14) 8
abbrev s_q10 : Stmt := inClass (top 14) 9
abbrev s_q2 : Stmt := inClass (top 14) 10
abbrev s_q1 : Stmt := inClass (top 14) 12
abbrev s_q0 : Stmt := inClass (top 14) 13
abbrev s_q22 : Stmt := top 15
abbrev s_q16 : Stmt := top 16
abbrev s_q23 : Stmt := top 18
abbrev s_q28 : Stmt := top 19
abbrev s_q29 : Stmt := top 20
abbrev s_Lrows : Stmt := top 21
abbrev s_q24 : Stmt := top 22
abbrev s_q11 : Stmt := top 23
abbrev s_q27 : Stmt := top 24
abbrev s_Lfits : Stmt := top 25
abbrev s_Lend : Stmt := top 26
abbrev s_Lwho : Stmt := top 27
abbrev s_q25 : Stmt := top 28
abbrev s_q30 : Stmt := top 29
abbrev s_q12 : Stmt := top 30
abbrev s_Ldue : Stmt := top 31
abbrev s_Ltold : Stmt := top 32
abbrev s_q31 : Stmt := top 33
abbrev s_q26 : Stmt := top 34
abbrev s_law : Stmt := top 35
structure Ad where
  q9 : Addr
  q17 : Addr
  q13 : Addr
  q18 : Addr
  q19 : Addr
  q4 : Addr
  q3 : Addr
  q14 : Addr
  q20 : Addr
  q15 : Addr
  q5 : Addr
  q8 : Addr
  q21 : Addr
  q6 : Addr
  q7 : Addr
  q10 : Addr
  q2 : Addr
  q1 : Addr
  q0 : Addr
  q22 : Addr
  q16 : Addr
  q23 : Addr
  q28 : Addr
  q29 : Addr
  Lrows : Addr
  q24 : Addr
  q11 : Addr
  q27 : Addr
  Lfits : Addr
  Lend : Addr
  Lwho : Addr
  q25 : Addr
  q30 : Addr
  q12 : Addr
  Ldue : Addr
  Ltold : Addr
  q31 : Addr
  q26 : Addr
  law : Addr
  C_Book : Addr
  C_NoCarrier : Addr
  C_FloorError : Addr
  C_Meets : Addr
structure Txt (K : PySem.W.Frag) (mg : Str → Option Value) (ad : Ad) : Prop where
  b_len : mg "len" = none
  b_range : mg "range" = none
  b_isinstance : mg "isinstance" = none
  b_int : mg "int" = none
  b_bool : mg "bool" = none
  b_list : mg "list" = none
  b_tuple : mg "tuple" = none
  b_dict : mg "dict" = none
  b_min : mg "min" = none
  b_max : mg "max" = none
  b_sorted : mg "sorted" = none
  b_enumerate : mg "enumerate" = none
  b_ValueError : mg "ValueError" = none
  mg_q17 : mg "is_whole" = some (.ref ad.q17)
  k_q17 : PySem.W.keepIn K (.ref ad.q17) = true
  mg_q13 : mg "last_time" = some (.ref ad.q13)
  k_q13 : PySem.W.keepIn K (.ref ad.q13) = true
  mg_q18 : mg "index_at" = some (.ref ad.q18)
  k_q18 : PySem.W.keepIn K (.ref ad.q18) = true
  mg_q19 : mg "place_at" = some (.ref ad.q19)
  k_q19 : PySem.W.keepIn K (.ref ad.q19) = true
  mg_q4 : mg "meeting_word" = some (.ref ad.q4)
  k_q4 : PySem.W.keepIn K (.ref ad.q4) = true
  mg_q3 : mg "first_meeting" = some (.ref ad.q3)
  k_q3 : PySem.W.keepIn K (.ref ad.q3) = true
  m_q20 : Meth K ad.C_Book "put" ad.q20
  m_q15 : Meth K ad.C_Book "drop" ad.q15
  m_q5 : Meth K ad.C_Book "numbers" ad.q5
  m_q8 : Meth K ad.C_Book "copied" ad.q8
  m_q21 : Meth K ad.C_Book "who" ad.q21
  m_q6 : Meth K ad.C_Book "is_open" ad.q6
  m_q7 : Meth K ad.C_Book "comings" ad.q7
  m_q10 : Meth K ad.C_Book "quiet" ad.q10
  m_q2 : Meth K ad.C_Book "free_from" ad.q2
  m_q1 : Meth K ad.C_Book "ways_beside" ad.q1
  m_q0 : Meth K ad.C_Book "check_number" ad.q0
  mg_q22 : mg "is_clear" = some (.ref ad.q22)
  k_q22 : PySem.W.keepIn K (.ref ad.q22) = true
  mg_q16 : mg "left_from" = some (.ref ad.q16)
  k_q16 : PySem.W.keepIn K (.ref ad.q16) = true
  mg_q23 : mg "_law_cell_at" = some (.ref ad.q23)
  k_q23 : PySem.W.keepIn K (.ref ad.q23) = true
  mg_q28 : mg "_law_mixed" = some (.ref ad.q28)
  k_q28 : PySem.W.keepIn K (.ref ad.q28) = true
  mg_q29 : mg "_law_whole" = some (.ref ad.q29)
  k_q29 : PySem.W.keepIn K (.ref ad.q29) = true
  mg_Lrows : mg "_law_rows" = some (.ref ad.Lrows)
  k_Lrows : PySem.W.keepIn K (.ref ad.Lrows) = true
  mg_q24 : mg "_law_meeting" = some (.ref ad.q24)
  k_q24 : PySem.W.keepIn K (.ref ad.q24) = true
  mg_q11 : mg "_law_drawn_way" = some (.ref ad.q11)
  k_q11 : PySem.W.keepIn K (.ref ad.q11) = true
  mg_q27 : mg "_law_filled" = some (.ref ad.q27)
  k_q27 : PySem.W.keepIn K (.ref ad.q27) = true
  mg_Lfits : mg "_law_fits" = some (.ref ad.Lfits)
  k_Lfits : PySem.W.keepIn K (.ref ad.Lfits) = true
  mg_Lend : mg "_law_end" = some (.ref ad.Lend)
  k_Lend : PySem.W.keepIn K (.ref ad.Lend) = true
  mg_Lwho : mg "_law_who" = some (.ref ad.Lwho)
  k_Lwho : PySem.W.keepIn K (.ref ad.Lwho) = true
  mg_q25 : mg "_law_is_open" = some (.ref ad.q25)
  k_q25 : PySem.W.keepIn K (.ref ad.q25) = true
  mg_q30 : mg "_law_quiet" = some (.ref ad.q30)
  k_q30 : PySem.W.keepIn K (.ref ad.q30) = true
  mg_q12 : mg "_law_free_from" = some (.ref ad.q12)
  k_q12 : PySem.W.keepIn K (.ref ad.q12) = true
  mg_Ldue : mg "_law_due" = some (.ref ad.Ldue)
  k_Ldue : PySem.W.keepIn K (.ref ad.Ldue) = true
  mg_Ltold : mg "_law_told" = some (.ref ad.Ltold)
  k_Ltold : PySem.W.keepIn K (.ref ad.Ltold) = true
  mg_q31 : mg "_law_right" = some (.ref ad.q31)
  k_q31 : PySem.W.keepIn K (.ref ad.q31) = true
  mg_q26 : mg "_law_changed" = some (.ref ad.q26)
  k_q26 : PySem.W.keepIn K (.ref ad.q26) = true
  mg_law : mg "law" = some (.ref ad.law)
  k_law : PySem.W.keepIn K (.ref ad.law) = true
  mg_Book : mg "Book" = some (.ref ad.C_Book)
  cl_Book : Cls K ad.C_Book
  n_Book_ways : NoAttr K ad.C_Book "ways"
  mk_Book : Mk K ad.C_Book ad.q14
  mg_NoCarrier : mg "NoCarrier" = some (.ref ad.C_NoCarrier)
  er_NoCarrier : ErrC K ad.C_NoCarrier
  mg_FloorError : mg "FloorError" = some (.ref ad.C_FloorError)
  mg_Meets : mg "Meets" = some (.ref ad.C_Meets)
  xm_Meets_Meets : PySem.W.exmOne K (.ref ad.C_Meets) (.ref ad.C_Meets) = some true
  xn_Meets : PySem.W.findIn K (.ref ad.C_Meets) "__init__" = some (some (.ref ad.q9))
  xi_Meets : exiIn K ad.C_Meets ad.q9 = true
  xf_Meets : PySem.W.isFn K (.ref ad.q9) = true
  xt_sa : PySem.W.findIn K (.ref ad.C_Meets) "__setattr__" = some (some (.builtin "object.__setattr__"))
  xt_mro : (PySem.W.clsIn K ad.C_Meets).any (fun cd => onlyValue cd.mro) = true
  xt_dict : (PySem.W.clsIn K ad.C_Meets).any (·.hasDict) = true
  xt_no : PySem.W.findIn K (.ref ad.C_Meets) "other" = some none
  xt_hd : PySem.W.hasDictIn K ad.C_Meets = true
def isI : V → Bool
  | .int _ => true
  | _ => false
def isIB : V → Bool
  | .int _ => true
  | .bl _ => true
  | _ => false
def isB : V → Bool
  | .bl _ => true
  | _ => false
def TyB (K : PySem.W.Frag) (H : Hp) (x : V) : Prop := ∃ n, TyOf K H x (.type n)
theorem kit_int {K : PySem.W.Frag} {H : Hp} {x : V} {n : String} (h : TyOf K H x (.type n)) : PySem.W.kitOne K (.type n) (.type "int") = some (isIB x) := by
  cases h <;> rfl
theorem kit_bool {K : PySem.W.Frag} {H : Hp} {x : V} {n : String} (h : TyOf K H x (.type n)) : PySem.W.kitOne K (.type n) (.type "bool") = some (isB x) := by
  cases h <;> rfl
def spWhole (K : PySem.W.Frag) : Sp := fun vs H Q _ => ∃ x, vs = [x] ∧ TyB K H x ∧ Q (.bl (isI x)) H
theorem tSeq_cut {t u : TS} {D : Ends} {σ : St} {H : Hp} (M : St → Hp → Prop) (h1 : ∀ nx : St → Hp → Prop, (∀ σ' H', M σ' H' → nx σ' H') → t { D with nx := nx } σ H) (h2 : ∀ σ' H', M σ' H' → u D σ' H') : tSeq t u D σ H := h1 (u D) h2
open Wy
def spLast : Sp := fun vs H Q _ => ∃ v b cs, vs = [v] ∧ WayAt H v b cs ∧ Q (.int (b + (cs.length : Int) - 1)) H
def spIdx : Sp := fun vs H Q _ => ∃ v b cs t, vs = [v, .int t] ∧ WayAt H v b cs ∧ Q (.int (idx b cs t)) H
def spPlace : Sp := fun vs H Q _ => ∃ v b cs t, vs = [v, .int t] ∧ WayAt H v b cs ∧ cs ≠ [] ∧ Q (plc b cs t) H
def spCell (K : PySem.W.Frag) : Sp := fun vs H Q _ => ∃ (a : Addr) (ns : List Int) (k : Int), vs = [.ref a, .int k] ∧ SqL K H a (ns.map V.int) ∧ (∀ i ∈ ns, Bits i) ∧ 0 ≤ k ∧ ∀ r : Int, Bits r → Q (.int r) H
def spMixed : Sp := fun vs H Q _ => ∃ (c k : Int), vs = [.int c, .int k] ∧ Bits c ∧ 0 ≤ k ∧ k ≤ 100 ∧ ∀ r : Int, 0 ≤ r → r < 2147483647 → Q (.int r) H
def wordV : Option Str → V
  | some w => .str w
  | none => .non
def spWord : Sp := fun vs H Q _ => ∃ v b c v' b' c' t, vs = [v, v', .int t] ∧ WayAt H v b c ∧ WayAt H v' b' c' ∧ c ≠ [] ∧ c' ≠ [] ∧ Q (wordV (mtAt b c b' c' t)) H
theorem sc_plc {x y : V} (hx : x = .non ∨ ∃ z, x = .int z) (hy : y = .non ∨ ∃ z, y = .int z) : scal x y = true := by
  rcases hx with rfl | ⟨z, rfl⟩ <;> rcases hy with rfl | ⟨w, rfl⟩ <;> rfl
open Bk
def Good (b : Int) (c : List Int) : Prop := c ≠ [] ∧ c.length ≤ 1000 ∧ 0 ≤ b ∧ b ≤ 10 ^ 15
def spFirst : Sp := fun vs H Q _ => ∃ v b c v' b' c', vs = [v, v'] ∧ WayAt H v b c ∧ WayAt H v' b' c' ∧ Good b c ∧ Good b' c' ∧ ∀ r H' o, Same H H' → MeetAt H' r o → First b c b' c' o → Q r H'
def spMeeting : Sp := fun vs H Q _ => ∃ v b c v' b' c', vs = [v, v'] ∧ WayAt H v b c ∧ WayAt H v' b' c' ∧ Tiny b c ∧ Tiny b' c' ∧ ∀ r H' o, Same H H' → MeetAt H' r o → First b c b' c' o → Q r H'
def spMInit (ad : Ad) : Sp := fun vs H Q _ => ∃ (x : Addr) (k : Int) (fs : Array Value) (sl : Array (Option Value)), vs = [.ref x, .int k] ∧ H x = some (.ext (XObj x ad.C_Meets none fs sl)) ∧ ∀ dx, H dx = none → dx ≠ x → Q .non (upd (upd H dx (.xd (putF "other" (.int k) []))) x (.ext (XObj x ad.C_Meets (some dx) fs sl)))
def spBInit (ad : Ad) : Sp := fun vs H Q _ => ∃ (p dx : Addr), vs = [.ref p] ∧ H p = some (.ins ad.C_Book dx []) ∧ ∀ d, H d = none → Q .non (upd (upd H d (.dK [])) p (.ins ad.C_Book dx (wl d)))
def spCheck (ad : Ad) : Sp := fun vs H Q E => ∃ (p d : Addr) (es : List Ent) (n : Int), vs = [.ref p, .int n] ∧ BookAt ad.C_Book H p d es ∧ ((∃ e ∈ es, e.k = n) → Q .non H) ∧ ((∀ e ∈ es, e.k ≠ n) → E (.ref ad.C_NoCarrier) none H)
def spNumbers (ad : Ad) : Sp := fun vs H Q _ => ∃ (p d : Addr) (es : List Ent), vs = [.ref p] ∧ BookAt ad.C_Book H p d es ∧ es.length < 64 ∧ ∀ (l : Addr) (ms : List Int), H l = none → ms.Perm (es.map (·.k)) → ms.Pairwise (· ≤ ·) → Q (.ref l) (upd H l (.lst (ms.map V.int)))
def spPut (ad : Ad) : Sp := fun vs H Q E => ∃ (p d : Addr) (es : List Ent) (n : Int) (v : V) (b : Int) (c : List Int), vs = [.ref p, .int n, v] ∧ BookAt ad.C_Book H p d es ∧ Ents H es ∧ WayAt H v b c ∧ Tiny b c ∧
  ∀ H', Same H H' → (PutIs es n b c none → Q .non (upd H' d (.dK (dw (putE es ⟨n, v, b, c⟩))))) ∧ ∀ k x, PutIs es n b c (some k) → H' x = some (.xd (putF "other" (.int k) [])) → E (.ref ad.C_Meets) (some x) H'
def spDrop (ad : Ad) : Sp := fun vs H Q E => ∃ (p d : Addr) (es : List Ent) (n : Int), vs = [.ref p, .int n] ∧ BookAt ad.C_Book H p d es ∧ (es.map (·.k)).Nodup ∧ ((∃ e ∈ es, e.k = n) → Q .non (upd H d (.dK (dw (dropE es n))))) ∧ ((∀ e ∈ es, e.k ≠ n) → E (.ref ad.C_NoCarrier) none H)
def spCopied (ad : Ad) : Sp := fun vs H Q _ => ∃ (p d : Addr) (es : List Ent), vs = [.ref p] ∧ BookAt ad.C_Book H p d es ∧ ∀ p' d' H', Same H H' → H p' = none → H d' = none → BookAt ad.C_Book H' p' d' es → Q (.ref p') H'
def spDrawn : Sp := fun vs H Q _ => ∃ (x m : Int), vs = [.int x, .int m] ∧ 0 ≤ x ∧ x < 2147483647 ∧ 1 ≤ m ∧ m ≤ 100 ∧ ∀ v b c H', Same H H' → WayAt H' v b c → Tiny b c → Q v H'
theorem atI_end {c : List Int} (h : c ≠ []) : atI (c.map V.int) (-1) = some (.int (endC c)) := by
  have lp : 0 < c.length := List.length_pos_iff.mpr h
  unfold atI ixN
  rw [if_neg (by decide), if_pos (by rw [List.length_map]; omega)]
  show (c.map V.int)[((-1 : Int) + ((c.map V.int).length : Int)).toNat]? = _
  rw [List.length_map, show (-1 + (c.length : Int)).toNat = c.length - 1 by omega, List.getElem?_map, List.getElem?_eq_getElem (by omega)]
  unfold endC
  rw [List.getD_eq_getElem?_getD, List.getElem?_eq_getElem (by omega)]
  rfl
theorem cut_two {b : Int} {c : List Int} {t : Nat} {N : Nat} (h : t + 2 ≤ N) : cutV ((List.range N).map fun i => plc b c (i : Nat)) (some (t : Int)) (some ((t : Int) + 2)) = [plc b c (t : Int), plc b c ((t : Int) + 1)] := by
  have e1 : HT.sIx N 0 (some (t : Int)) = t := by rw [HT.sIx_nat]; omega
  have e2 : HT.sIx N N (some ((t : Int) + 2)) = t + 2 := by rw [show ((t : Int) + 2) = ((t + 2 : Nat) : Int) by omega, HT.sIx_nat]; omega
  unfold cutV
  rw [List.length_map, List.length_range, e1, e2, show t + 2 - t = 2 by omega]
  refine List.ext_getElem? fun i => ?_
  rw [List.getElem?_take]
  match i with
  | 0 => rw [if_pos (by decide), List.getElem?_drop, List.getElem?_map, List.getElem?_range (by omega)]; rfl
  | 1 => rw [if_pos (by decide), List.getElem?_drop, List.getElem?_map, List.getElem?_range (by omega)]; rfl
  | (i + 2) => rw [if_neg (by omega)]; rfl
theorem open_0 {es : List Ent} {n cell other t : Int} : OpenIs (besd (es.take 0) n) cell other t := fun e he => by rw [List.take_zero] at he; cases he
theorem ends_0 {es : List Ent} {cell : Int} : ∀ e ∈ es.take 0, endC e.c ≠ cell := fun e he => by rw [List.take_zero] at he; cases he
theorem free_0 {es : List Ent} {cell : Int} : FreeOk (es.take 0) cell 0 := by rw [List.take_zero]; exact free_nil
theorem endsb_0 {es : List Ent} {n cell : Int} : ∀ e ∈ besd (es.take 0) n, endC e.c ≠ cell := fun e he => by rw [List.take_zero] at he; cases he
theorem freeb_0 {es : List Ent} {n cell : Int} : FreeOk (besd (es.take 0) n) cell 0 := by rw [List.take_zero]; exact free_nil
def spRowsN : Sp := fun vs H Q _ => ∃ (v : V) (b : Int) (c : List Int) (e : Int), vs = [v, .int e] ∧ WayAt H v b c ∧ c ≠ [] ∧ c.length ≤ 100 ∧ 0 ≤ b ∧ b ≤ 200 ∧ 0 ≤ e ∧ e ≤ 1000 ∧ ∀ l H' (N : Nat), H l = none → Same H H' → H' l = some (.lst ((List.range N).map fun i => plc b c (i : Nat))) → e + 1 ≤ N → b + (c.length : Int) ≤ N → N ≤ 2000 → Q (.ref l) H'
def BkAt (C : Addr) (H : Hp) (p d : Addr) (es : List Ent) : Prop := BookAt C H p d es ∧ Ents H es
theorem BkAt.same {C : Addr} {H H' : Hp} {p d : Addr} {es : List Ent} (h : BkAt C H p d es) (s : Same H H') : BkAt C H' p d es := ⟨h.1.same s, h.2.tups (tups_of s)⟩
def KpAt (H : Hp) (e : Addr) (es : List Ent) : Prop := H e = some (.dK (dw es)) ∧ Ents H es
theorem KpAt.same {H H' : Hp} {e : Addr} {es : List Ent} (h : KpAt H e es) (s : Same H H') : KpAt H' e es := ⟨s _ _ h.1, h.2.tups (tups_of s)⟩
def spWho (ad : Ad) : Sp := fun vs H Q _ => ∃ (p d : Addr) (es : List Ent) (cell t : Int), vs = [.ref p, .int cell, .int t] ∧ BkAt ad.C_Book H p d es ∧ ∀ H', Same H H' → Q (whoIs es cell t) H'
def spBeside (ad : Ad) : Sp := fun vs H Q _ => ∃ (p d : Addr) (es : List Ent) (n : Int), vs = [.ref p, .int n] ∧ BkAt ad.C_Book H p d es ∧ ∀ l H', H l = none → Same H H' → H' l = some (.lst ((besd es n).map (·.v))) → Q (.ref l) H'
def spComings (ad : Ad) : Sp := fun vs H Q _ => ∃ (p d : Addr) (es : List Ent) (n t : Int), vs = [.ref p, .int n, .int t] ∧ BkAt ad.C_Book H p d es ∧ ∀ l kvs H', H l = none → Same H H' → H' l = some (.dK kvs) → ComIs (besd es n) t kvs → Q (.ref l) H'
def spClear : Sp := fun vs H Q _ => ∃ (l : Addr) (kvs : List (Key × V)) (cell other : Int), vs = [.ref l, .int cell, .int other] ∧ H l = some (.dK kvs) ∧ (∀ (z : Int) v, valV kvs (.inl z) = some v → v = .non ∨ ∃ i, v = .int i) ∧
  ∀ b : Bool, (b = true ↔ (valV kvs (.inl other) = none ∧ (valV kvs (.inl cell)).getD .non ≠ .int other)) → Q (.bl b) H
def spIsOpen (ad : Ad) : Sp := fun vs H Q _ => ∃ (p d : Addr) (es : List Ent) (n cell other t : Int), vs = [.ref p, .int n, .int cell, .int other, .int t] ∧ BkAt ad.C_Book H p d es ∧ Apt es ∧ ∀ H' (b : Bool), Same H H' → (b = true ↔ OpenIs (besd es n) cell other t) → Q (.bl b) H'
def lastT (e : Ent) : Int := e.b + (e.c.length : Int) - 1
def spQuiet (ad : Ad) : Sp := fun vs H Q _ => ∃ (p d : Addr) (es : List Ent) (n : Int), vs = [.ref p, .int n] ∧ BkAt ad.C_Book H p d es ∧ ∀ H' m, Same H H' → MaxD ((besd es n).map lastT) 0 m → Q (.int m) H'
def spLeft : Sp := fun vs H Q _ => ∃ (v : V) (b : Int) (c : List Int) (cell : Int), vs = [v, .int cell] ∧ WayAt H v b c ∧ ∀ H' n, Same H H' → LeftIs b c cell n c.length → Q (.int n) H'
def spFree (ad : Ad) : Sp := fun vs H Q _ => ∃ (p d : Addr) (es : List Ent) (n cell : Int), vs = [.ref p, .int n, .int cell] ∧ BkAt ad.C_Book H p d es ∧ ∀ H' v, Same H H' → FreeIs (besd es n) cell v → Q v H'
def spFits : Sp := fun vs H Q _ => ∃ (d : Addr) (es : List Ent) (n : Int) (v : V) (b : Int) (c : List Int), vs = [.ref d, .int n, v] ∧ KpAt H d es ∧ WayAt H v b c ∧ Tiny b c ∧ ∀ H' (r : Bool), Same H H' → (r = true ↔ PutIs es n b c none) → Q (.bl r) H'
structure Two (C : Addr) (H : Hp) (p d e : Addr) (es : List Ent) : Prop where
  bk : BookAt C H p d es
  kp : H e = some (.dK (dw es))
  en : Ents H es
  ap : Apt es
  ne : d ≠ e
theorem Two.same {C : Addr} {H H' : Hp} {p d e : Addr} {es : List Ent} (h : Two C H p d e es) (s : Same H H') : Two C H' p d e es := ⟨h.bk.same s, s _ _ h.kp, h.en.tups (tups_of s), h.ap, h.ne⟩
theorem Two.b {C : Addr} {H : Hp} {p d e : Addr} {es : List Ent} (h : Two C H p d e es) : BkAt C H p d es := ⟨h.bk, h.en⟩
theorem Two.k {C : Addr} {H : Hp} {p d e : Addr} {es : List Ent} (h : Two C H p d e es) : KpAt H e es := ⟨h.kp, h.en⟩
def But2 (d e : Addr) (H H' : Hp) : Prop := ∀ b o, H b = some o → b ≠ d → b ≠ e → H' b = some o
theorem but2_of {d e : Addr} {H H' : Hp} (s : Same H H') : But2 d e H H' := fun b o h _ _ => s b o h
theorem But2.trans {d e : Addr} {H H1 H2 : Hp} (a : But2 d e H H1) (b : But2 d e H1 H2) : But2 d e H H2 := fun c o h n1 n2 => b c o (a c o h n1 n2) n1 n2
theorem but2_set {d e : Addr} {H : Hp} {o o' : HO} : But2 d e H (upd (upd H d o) e o') := fun b u h n1 n2 => by rw [upd_ne n2, upd_ne n1]; exact h
theorem But2.seq {K : PySem.W.Frag} {d e a : Addr} {H H' : Hp} {xs : List V} {k1 k2 : List (Key × V)} (s : But2 d e H H') (hd : H d = some (.dK k1)) (he : H e = some (.dK k2)) (h : SqL K H a xs) : SqL K H' a xs := by
  rcases h with (h | ⟨o, h⟩) | h
  · exact .inl (.inl (s _ _ h (ne_of h hd (by intro z; cases z)) (ne_of h he (by intro z; cases z))))
  · exact .inl (.inr ⟨o, s _ _ h (ne_of h hd (by intro z; cases z)) (ne_of h he (by intro z; cases z))⟩)
  · exact .inr h
theorem same_both {H H' : Hp} {e : Addr} {o : HO} (s : Same H H') : Same (upd H e o) (upd H' e o) := fun b u h => by
  by_cases z : b = e
  · rw [z, upd_same] at h ⊢; exact h
  · rw [upd_ne z] at h ⊢; exact s b u h
theorem But2.tups {d e : Addr} {H H' : Hp} {k1 k2 : List (Key × V)} (s : But2 d e H H') (hd : H d = some (.dK k1)) (he : H e = some (.dK k2)) : Tups H H' := fun b xs h => s _ _ h (ne_dict h hd) (ne_dict h he)
theorem Two.but {C : Addr} {H H' : Hp} {p d e d' e' : Addr} {es : List Ent} {k1 k2 : List (Key × V)} (t : Two C H p d e es) (s : But2 d' e' H H') (hd : H d' = some (.dK k1)) (he : H e' = some (.dK k2)) (n1 : d ≠ d') (n2 : d ≠ e') (n3 : e ≠ d') (n4 : e ≠ e') : Two C H' p d e es := by
  obtain ⟨dx, ho⟩ := t.bk.ob
  exact ⟨⟨⟨dx, s _ _ ho (ne_of ho hd (by intro z; cases z)) (ne_of ho he (by intro z; cases z))⟩, s _ _ t.bk.tb n1 n2⟩, s _ _ t.kp n3 n4, t.en.tups (s.tups hd he), t.ap, t.ne⟩
theorem Two.set {C : Addr} {H : Hp} {p d e : Addr} {es es' : List Ent} (t : Two C H p d e es) (en : Ents H es') (ap : Apt es') : Two C (upd (upd H d (.dK (dw es'))) e (.dK (dw es'))) p d e es' := by
  obtain ⟨dx, ho⟩ := t.bk.ob
  exact ⟨⟨⟨dx, by rw [upd_ne (ne_of ho t.kp (by intro z; cases z)), upd_ne (ne_of ho t.bk.tb (by intro z; cases z))]; exact ho⟩, by rw [upd_ne t.ne, upd_same]⟩, upd_same, en.tups ((but2_set (H := H)).tups t.bk.tb t.kp), ap, t.ne⟩
def spFilled (ad : Ad) (K : PySem.W.Frag) : Sp := fun vs H Q _ => ∃ (a p d e : Addr) (ns : List Int) (m : Int), vs = [.ref a, .ref p, .ref e, .int m] ∧ SqL K H a (ns.map V.int) ∧ (∀ i ∈ ns, Bits i) ∧ 1 ≤ m ∧ m ≤ 100 ∧ Two ad.C_Book H p d e [] ∧ ∀ H' es, But2 d e H H' → Two ad.C_Book H' p d e es → Q .non H'
def EndIs (es : List Ent) (x : Int) : Prop := 3 ≤ x ∧ x ≤ 303 ∧ ∀ e ∈ es, e.b + (e.c.length : Int) + 3 ≤ x
def endT (e : Ent) : Int := e.b + (e.c.length : Int)
theorem end_of {H : Hp} {es : List Ent} {m : Int} (en : Ents H es) (h : MaxD (es.map endT) 0 m) : EndIs es (3 + m) := by
  rcases h with ⟨h1, h2⟩ | ⟨h1, h2⟩
  · refine ⟨by omega, by omega, fun e he => ?_⟩
    rw [List.map_eq_nil_iff] at h1
    rw [h1] at he
    cases he
  · obtain ⟨e, he, rfl⟩ := List.mem_map.mp h1
    have ty := (en.ok e he).2.1
    obtain ⟨t1, t2, t3, t4⟩ := ty
    have : 0 < e.c.length := List.length_pos_iff.mpr t1
    refine ⟨by unfold endT; omega, by unfold endT; omega, fun x hx => ?_⟩
    have := h2 _ (List.mem_map.mpr ⟨x, hx, rfl⟩)
    unfold endT at this ⊢
    omega
def spEnd : Sp := fun vs H Q _ => ∃ (d : Addr) (es : List Ent), vs = [.ref d] ∧ KpAt H d es ∧ ∀ H' x, Same H H' → EndIs es x → Q (.int x) H'
def spLWho : Sp := fun vs H Q _ => ∃ (d : Addr) (es : List Ent) (cell t : Int), vs = [.ref d, .int cell, .int t] ∧ KpAt H d es ∧ 0 ≤ t ∧ t ≤ 500 ∧ ∀ H', Same H H' → Q (whoIs es cell t) H'
def spLOpen : Sp := fun vs H Q _ => ∃ (d : Addr) (es : List Ent) (n cell other t : Int), vs = [.ref d, .int n, .int cell, .int other, .int t] ∧ KpAt H d es ∧ 0 ≤ t ∧ t ≤ 500 ∧ ∀ H' (b : Bool), Same H H' → (b = true ↔ OpenIs (besd es n) cell other t) → Q (.bl b) H'
def spLQuiet : Sp := fun vs H Q _ => ∃ (d : Addr) (es : List Ent) (n : Int), vs = [.ref d, .int n] ∧ KpAt H d es ∧ ∀ H' m, Same H H' → MaxD ((besd es n).map lastT) 0 m → Q (.int m) H'
def spLFree : Sp := fun vs H Q _ => ∃ (d : Addr) (es : List Ent) (n cell : Int), vs = [.ref d, .int n, .int cell] ∧ KpAt H d es ∧ ∀ H' v, Same H H' → FreeIs (besd es n) cell v → Q v H'
def AnsIs (es : List Ent) (w n cell other t : Int) (v : V) : Prop := (w = 0 ∧ v = whoIs es cell t) ∨ (w = 1 ∧ ∃ b : Bool, v = .bl b ∧ (b = true ↔ OpenIs (besd es n) cell other t)) ∨ (w = 2 ∧ ∃ m, v = .int m ∧ MaxD ((besd es n).map lastT) 0 m) ∨ (w = 3 ∧ FreeIs (besd es n) cell v)
theorem AnsIs.uniq {es : List Ent} {w n cell other t : Int} {v v' : V} (h : AnsIs es w n cell other t v) (h' : AnsIs es w n cell other t v') : v = v' := by
  rcases h with ⟨h1, h2⟩ | ⟨h1, b, h2, h3⟩ | ⟨h1, m, h2, h3⟩ | ⟨h1, h2⟩ <;> rcases h' with ⟨g1, g2⟩ | ⟨g1, b', g2, g3⟩ | ⟨g1, m', g2, g3⟩ | ⟨g1, g2⟩
  all_goals first | omega | skip
  · rw [h2, g2]
  · rw [h2, g2]
    congr 1
    exact Bool.eq_iff_iff.mpr (h3.trans g3.symm)
  · rw [h2, g2, h3.uniq g3]
  · exact h2.uniq g2
def spDue : Sp := fun vs H Q _ => ∃ (e : Addr) (es : List Ent) (w n cell other t : Int), vs = [.ref e, .int w, .int n, .int cell, .int other, .int t] ∧ KpAt H e es ∧ 0 ≤ w ∧ w ≤ 3 ∧ 0 ≤ t ∧ t ≤ 500 ∧ ∀ H' v, Same H H' → AnsIs es w n cell other t v → Q v H'
def spTold (ad : Ad) : Sp := fun vs H Q _ => ∃ (p d : Addr) (es : List Ent) (w n cell other t : Int), vs = [.ref p, .int w, .int n, .int cell, .int other, .int t] ∧ BkAt ad.C_Book H p d es ∧ Apt es ∧ 0 ≤ w ∧ w ≤ 3 ∧ ∀ H' v, Same H H' → AnsIs es w n cell other t v → Q v H'
def spRight (ad : Ad) : Sp := fun vs H Q _ => ∃ (p d e : Addr) (es : List Ent) (n m : Int), vs = [.ref p, .ref e, .int n, .int m] ∧ Two ad.C_Book H p d e es ∧ 0 ≤ n ∧ 1 ≤ m ∧ m ≤ 100 ∧ ∀ H', Same H H' → Q (.bl true) H'
def spChanged (ad : Ad) : Sp := fun vs H Q _ => ∃ (p d e : Addr) (es : List Ent) (n m : Int), vs = [.ref p, .ref e, .int n, .int m] ∧ Two ad.C_Book H p d e es ∧ 0 ≤ n ∧ n < 2147483647 ∧ 1 ≤ m ∧ m ≤ 100 ∧ ∀ H' es', But2 d e H H' → Two ad.C_Book H' p d e es' → Q (.bl true) H'
theorem apt_nil : Apt [] := fun e he => by cases he
theorem two_new {C : Addr} {H : Hp} {p d e : Addr} (b : BookAt C H p d []) (n : H e = none) : Two C (upd H e (.dK [])) p d e [] := ⟨b.same (same_new n), upd_same, ents_nil, apt_nil, ne_of_none b.tb n⟩
structure Both (K : PySem.W.Frag) (C a bp bd ke op od fe : Addr) (ns : List Int) (H : Hp) : Prop where
  sq : SqL K H a (ns.map V.int)
  one : ∃ es, Two C H bp bd ke es
  two : ∃ es, Two C H op od fe es
  n1 : od ≠ bd
  n2 : od ≠ ke
  n3 : fe ≠ bd
  n4 : fe ≠ ke
theorem Both.same {K : PySem.W.Frag} {C a bp bd ke op od fe : Addr} {ns : List Int} {H H' : Hp} (B : Both K C a bp bd ke op od fe ns H) (s : Same H H') : Both K C a bp bd ke op od fe ns H' := by
  obtain ⟨es, t1⟩ := B.one
  obtain ⟨es2, t2⟩ := B.two
  exact ⟨s.seq B.sq, ⟨es, t1.same s⟩, ⟨es2, t2.same s⟩, B.n1, B.n2, B.n3, B.n4⟩
theorem Both.but {K : PySem.W.Frag} {C a bp bd ke op od fe : Addr} {ns : List Int} {H H' : Hp} {es : List Ent} (B : Both K C a bp bd ke op od fe ns H) (s : But2 bd ke H H') (t : Two C H' bp bd ke es) : Both K C a bp bd ke op od fe ns H' := by
  obtain ⟨es1, t1⟩ := B.one
  obtain ⟨es2, t2⟩ := B.two
  exact ⟨s.seq t1.bk.tb t1.kp B.sq, ⟨es, t⟩, ⟨es2, t2.but s t1.bk.tb t1.kp B.n1 B.n2 B.n3 B.n4⟩, B.n1, B.n2, B.n3, B.n4⟩
def spLaw (K : PySem.W.Frag) : Sp := fun vs H Q _ => ∃ (a : Addr) (ns : List Int), vs = [.ref a] ∧ SqL K H a (ns.map V.int) ∧ ns.length ≤ 63 ∧ (∀ i ∈ ns, Bits i) ∧ ∀ H', Q (.bl true) H'
seal PA PE PS PSs PI PG
section
variable {P : Program} {w : World} {K : PySem.W.Frag} {mg : Str → Option Value} {base : Heap} {ad : Ad}
theorem d_Book : (("Book" : Str) == ("__debug__" : Str)) = false := by decide +kernel
theorem d_Meets : (("Meets" : Str) == ("__debug__" : Str)) = false := by decide +kernel
theorem d_NoCarrier : (("NoCarrier" : Str) == ("__debug__" : Str)) = false := by decide +kernel
theorem d__law_book : (("_law_book" : Str) == ("__debug__" : Str)) = false := by decide +kernel
theorem e__law_book : (("_law_book" : Str) == ("__classdict__" : Str)) = false := by decide +kernel
theorem d__law_cell : (("_law_cell" : Str) == ("__debug__" : Str)) = false := by decide +kernel
theorem e__law_cell : (("_law_cell" : Str) == ("__classdict__" : Str)) = false := by decide +kernel
theorem d__law_cell_at : (("_law_cell_at" : Str) == ("__debug__" : Str)) = false := by decide +kernel
theorem d__law_cells : (("_law_cells" : Str) == ("__debug__" : Str)) = false := by decide +kernel
theorem e__law_cells : (("_law_cells" : Str) == ("__classdict__" : Str)) = false := by decide +kernel
theorem d__law_changed : (("_law_changed" : Str) == ("__debug__" : Str)) = false := by decide +kernel
theorem d__law_drawn_way : (("_law_drawn_way" : Str) == ("__debug__" : Str)) = false := by decide +kernel
theorem d__law_due : (("_law_due" : Str) == ("__debug__" : Str)) = false := by decide +kernel
theorem d__law_due_here : (("_law_due_here" : Str) == ("__debug__" : Str)) = false := by decide +kernel
theorem e__law_due_here : (("_law_due_here" : Str) == ("__classdict__" : Str)) = false := by decide +kernel
theorem d__law_end : (("_law_end" : Str) == ("__debug__" : Str)) = false := by decide +kernel
theorem d__law_end_here : (("_law_end_here" : Str) == ("__debug__" : Str)) = false := by decide +kernel
theorem e__law_end_here : (("_law_end_here" : Str) == ("__classdict__" : Str)) = false := by decide +kernel
theorem d__law_filled : (("_law_filled" : Str) == ("__debug__" : Str)) = false := by decide +kernel
theorem d__law_first : (("_law_first" : Str) == ("__debug__" : Str)) = false := by decide +kernel
theorem e__law_first : (("_law_first" : Str) == ("__classdict__" : Str)) = false := by decide +kernel
theorem d__law_fits : (("_law_fits" : Str) == ("__debug__" : Str)) = false := by decide +kernel
theorem d__law_found : (("_law_found" : Str) == ("__debug__" : Str)) = false := by decide +kernel
theorem e__law_found : (("_law_found" : Str) == ("__classdict__" : Str)) = false := by decide +kernel
theorem d__law_free_from : (("_law_free_from" : Str) == ("__debug__" : Str)) = false := by decide +kernel
theorem d__law_here : (("_law_here" : Str) == ("__debug__" : Str)) = false := by decide +kernel
theorem e__law_here : (("_law_here" : Str) == ("__classdict__" : Str)) = false := by decide +kernel
theorem d__law_is_open : (("_law_is_open" : Str) == ("__debug__" : Str)) = false := by decide +kernel
theorem d__law_k : (("_law_k" : Str) == ("__debug__" : Str)) = false := by decide +kernel
theorem e__law_k : (("_law_k" : Str) == ("__classdict__" : Str)) = false := by decide +kernel
theorem d__law_kept : (("_law_kept" : Str) == ("__debug__" : Str)) = false := by decide +kernel
theorem e__law_kept : (("_law_kept" : Str) == ("__classdict__" : Str)) = false := by decide +kernel
theorem d__law_meeting : (("_law_meeting" : Str) == ("__debug__" : Str)) = false := by decide +kernel
theorem d__law_mine : (("_law_mine" : Str) == ("__debug__" : Str)) = false := by decide +kernel
theorem e__law_mine : (("_law_mine" : Str) == ("__classdict__" : Str)) = false := by decide +kernel
theorem d__law_mixed : (("_law_mixed" : Str) == ("__debug__" : Str)) = false := by decide +kernel
theorem d__law_most : (("_law_most" : Str) == ("__debug__" : Str)) = false := by decide +kernel
theorem e__law_most : (("_law_most" : Str) == ("__classdict__" : Str)) = false := by decide +kernel
theorem d__law_number : (("_law_number" : Str) == ("__debug__" : Str)) = false := by decide +kernel
theorem e__law_number : (("_law_number" : Str) == ("__classdict__" : Str)) = false := by decide +kernel
theorem d__law_one : (("_law_one" : Str) == ("__debug__" : Str)) = false := by decide +kernel
theorem e__law_one : (("_law_one" : Str) == ("__classdict__" : Str)) = false := by decide +kernel
theorem d__law_other : (("_law_other" : Str) == ("__debug__" : Str)) = false := by decide +kernel
theorem e__law_other : (("_law_other" : Str) == ("__classdict__" : Str)) = false := by decide +kernel
theorem d__law_place : (("_law_place" : Str) == ("__debug__" : Str)) = false := by decide +kernel
theorem e__law_place : (("_law_place" : Str) == ("__classdict__" : Str)) = false := by decide +kernel
theorem d__law_quiet : (("_law_quiet" : Str) == ("__debug__" : Str)) = false := by decide +kernel
theorem d__law_right : (("_law_right" : Str) == ("__debug__" : Str)) = false := by decide +kernel
theorem d__law_rows : (("_law_rows" : Str) == ("__debug__" : Str)) = false := by decide +kernel
theorem d__law_rows_here : (("_law_rows_here" : Str) == ("__debug__" : Str)) = false := by decide +kernel
theorem e__law_rows_here : (("_law_rows_here" : Str) == ("__classdict__" : Str)) = false := by decide +kernel
theorem d__law_script : (("_law_script" : Str) == ("__debug__" : Str)) = false := by decide +kernel
theorem e__law_script : (("_law_script" : Str) == ("__classdict__" : Str)) = false := by decide +kernel
theorem d__law_size : (("_law_size" : Str) == ("__debug__" : Str)) = false := by decide +kernel
theorem e__law_size : (("_law_size" : Str) == ("__classdict__" : Str)) = false := by decide +kernel
theorem d__law_spot : (("_law_spot" : Str) == ("__debug__" : Str)) = false := by decide +kernel
theorem e__law_spot : (("_law_spot" : Str) == ("__classdict__" : Str)) = false := by decide +kernel
theorem d__law_there : (("_law_there" : Str) == ("__debug__" : Str)) = false := by decide +kernel
theorem e__law_there : (("_law_there" : Str) == ("__classdict__" : Str)) = false := by decide +kernel
theorem d__law_time : (("_law_time" : Str) == ("__debug__" : Str)) = false := by decide +kernel
theorem e__law_time : (("_law_time" : Str) == ("__classdict__" : Str)) = false := by decide +kernel
theorem d__law_told : (("_law_told" : Str) == ("__debug__" : Str)) = false := by decide +kernel
theorem d__law_turn : (("_law_turn" : Str) == ("__debug__" : Str)) = false := by decide +kernel
theorem e__law_turn : (("_law_turn" : Str) == ("__classdict__" : Str)) = false := by decide +kernel
theorem d__law_way : (("_law_way" : Str) == ("__debug__" : Str)) = false := by decide +kernel
theorem e__law_way : (("_law_way" : Str) == ("__classdict__" : Str)) = false := by decide +kernel
theorem d__law_which : (("_law_which" : Str) == ("__debug__" : Str)) = false := by decide +kernel
theorem e__law_which : (("_law_which" : Str) == ("__classdict__" : Str)) = false := by decide +kernel
theorem d__law_who : (("_law_who" : Str) == ("__debug__" : Str)) = false := by decide +kernel
theorem d__law_whole : (("_law_whole" : Str) == ("__debug__" : Str)) = false := by decide +kernel
theorem d__law_yours : (("_law_yours" : Str) == ("__debug__" : Str)) = false := by decide +kernel
theorem e__law_yours : (("_law_yours" : Str) == ("__classdict__" : Str)) = false := by decide +kernel
theorem d_begin : (("begin" : Str) == ("__debug__" : Str)) = false := by decide +kernel
theorem e_begin : (("begin" : Str) == ("__classdict__" : Str)) = false := by decide +kernel
theorem d_book : (("book" : Str) == ("__debug__" : Str)) = false := by decide +kernel
theorem e_book : (("book" : Str) == ("__classdict__" : Str)) = false := by decide +kernel
theorem d_bool : (("bool" : Str) == ("__debug__" : Str)) = false := by decide +kernel
theorem n_bool : ("bool" : Str) ≠ "__name__" := by decide +kernel
theorem d_cell : (("cell" : Str) == ("__debug__" : Str)) = false := by decide +kernel
theorem e_cell : (("cell" : Str) == ("__classdict__" : Str)) = false := by decide +kernel
theorem d_comings : (("comings" : Str) == ("__debug__" : Str)) = false := by decide +kernel
theorem e_comings : (("comings" : Str) == ("__classdict__" : Str)) = false := by decide +kernel
theorem d_dict : (("dict" : Str) == ("__debug__" : Str)) = false := by decide +kernel
theorem n_dict : ("dict" : Str) ≠ "__name__" := by decide +kernel
theorem d_end : (("end" : Str) == ("__debug__" : Str)) = false := by decide +kernel
theorem e_end : (("end" : Str) == ("__classdict__" : Str)) = false := by decide +kernel
theorem d_far : (("far" : Str) == ("__debug__" : Str)) = false := by decide +kernel
theorem e_far : (("far" : Str) == ("__classdict__" : Str)) = false := by decide +kernel
theorem d_q3 : (("first_meeting" : Str) == ("__debug__" : Str)) = false := by decide +kernel
theorem d_free : (("free" : Str) == ("__debug__" : Str)) = false := by decide +kernel
theorem e_free : (("free" : Str) == ("__classdict__" : Str)) = false := by decide +kernel
theorem d_index : (("index" : Str) == ("__debug__" : Str)) = false := by decide +kernel
theorem e_index : (("index" : Str) == ("__classdict__" : Str)) = false := by decide +kernel
theorem d_q18 : (("index_at" : Str) == ("__debug__" : Str)) = false := by decide +kernel
theorem d_int : (("int" : Str) == ("__debug__" : Str)) = false := by decide +kernel
theorem n_int : ("int" : Str) ≠ "__name__" := by decide +kernel
theorem d_q22 : (("is_clear" : Str) == ("__debug__" : Str)) = false := by decide +kernel
theorem d_q17 : (("is_whole" : Str) == ("__debug__" : Str)) = false := by decide +kernel
theorem d_isinstance : (("isinstance" : Str) == ("__debug__" : Str)) = false := by decide +kernel
theorem n_isinstance : ("isinstance" : Str) ≠ "__name__" := by decide +kernel
theorem d_q13 : (("last_time" : Str) == ("__debug__" : Str)) = false := by decide +kernel
theorem d_later : (("later" : Str) == ("__debug__" : Str)) = false := by decide +kernel
theorem e_later : (("later" : Str) == ("__classdict__" : Str)) = false := by decide +kernel
theorem d_left : (("left" : Str) == ("__debug__" : Str)) = false := by decide +kernel
theorem e_left : (("left" : Str) == ("__classdict__" : Str)) = false := by decide +kernel
theorem d_q16 : (("left_from" : Str) == ("__debug__" : Str)) = false := by decide +kernel
theorem d_len : (("len" : Str) == ("__debug__" : Str)) = false := by decide +kernel
theorem n_len : ("len" : Str) ≠ "__name__" := by decide +kernel
theorem d_list : (("list" : Str) == ("__debug__" : Str)) = false := by decide +kernel
theorem n_list : ("list" : Str) ≠ "__name__" := by decide +kernel
theorem d_max : (("max" : Str) == ("__debug__" : Str)) = false := by decide +kernel
theorem n_max : ("max" : Str) ≠ "__name__" := by decide +kernel
theorem d_q4 : (("meeting_word" : Str) == ("__debug__" : Str)) = false := by decide +kernel
theorem d_min : (("min" : Str) == ("__debug__" : Str)) = false := by decide +kernel
theorem n_min : ("min" : Str) ≠ "__name__" := by decide +kernel
theorem d_number : (("number" : Str) == ("__debug__" : Str)) = false := by decide +kernel
theorem e_number : (("number" : Str) == ("__classdict__" : Str)) = false := by decide +kernel
theorem d_one : (("one" : Str) == ("__debug__" : Str)) = false := by decide +kernel
theorem e_one : (("one" : Str) == ("__classdict__" : Str)) = false := by decide +kernel
theorem d_other : (("other" : Str) == ("__debug__" : Str)) = false := by decide +kernel
theorem e_other : (("other" : Str) == ("__classdict__" : Str)) = false := by decide +kernel
theorem d_place : (("place" : Str) == ("__debug__" : Str)) = false := by decide +kernel
theorem e_place : (("place" : Str) == ("__classdict__" : Str)) = false := by decide +kernel
theorem d_q19 : (("place_at" : Str) == ("__debug__" : Str)) = false := by decide +kernel
theorem d_places : (("places" : Str) == ("__debug__" : Str)) = false := by decide +kernel
theorem e_places : (("places" : Str) == ("__classdict__" : Str)) = false := by decide +kernel
theorem d_self : (("self" : Str) == ("__debug__" : Str)) = false := by decide +kernel
theorem e_self : (("self" : Str) == ("__classdict__" : Str)) = false := by decide +kernel
theorem d_sorted : (("sorted" : Str) == ("__debug__" : Str)) = false := by decide +kernel
theorem n_sorted : ("sorted" : Str) ≠ "__name__" := by decide +kernel
theorem d_thing : (("thing" : Str) == ("__debug__" : Str)) = false := by decide +kernel
theorem e_thing : (("thing" : Str) == ("__classdict__" : Str)) = false := by decide +kernel
theorem d_time : (("time" : Str) == ("__debug__" : Str)) = false := by decide +kernel
theorem e_time : (("time" : Str) == ("__classdict__" : Str)) = false := by decide +kernel
theorem d_tuple : (("tuple" : Str) == ("__debug__" : Str)) = false := by decide +kernel
theorem n_tuple : ("tuple" : Str) ≠ "__name__" := by decide +kernel
theorem d_way : (("way" : Str) == ("__debug__" : Str)) = false := by decide +kernel
theorem e_way : (("way" : Str) == ("__classdict__" : Str)) = false := by decide +kernel
theorem d_word : (("word" : Str) == ("__debug__" : Str)) = false := by decide +kernel
theorem e_word : (("word" : Str) == ("__classdict__" : Str)) = false := by decide +kernel
theorem l_q17_thing : (defScope s_q17).names.lookup ("thing" : Str) = some .local := by decide +kernel
theorem v_q17_thing : Vis (defScope s_q17) "thing" := Or.inl l_q17_thing
theorem l_q13_way : (defScope s_q13).names.lookup ("way" : Str) = some .local := by decide +kernel
theorem v_q13_way : Vis (defScope s_q13) "way" := Or.inl l_q13_way
theorem l_q18_way : (defScope s_q18).names.lookup ("way" : Str) = some .local := by decide +kernel
theorem v_q18_way : Vis (defScope s_q18) "way" := Or.inl l_q18_way
theorem l_q18_time : (defScope s_q18).names.lookup ("time" : Str) = some .local := by decide +kernel
theorem v_q18_time : Vis (defScope s_q18) "time" := Or.inl l_q18_time
theorem l_q19_way : (defScope s_q19).names.lookup ("way" : Str) = some .local := by decide +kernel
theorem v_q19_way : Vis (defScope s_q19) "way" := Or.inl l_q19_way
theorem l_q19_time : (defScope s_q19).names.lookup ("time" : Str) = some .local := by decide +kernel
theorem v_q19_time : Vis (defScope s_q19) "time" := Or.inl l_q19_time
theorem l_q4_one : (defScope s_q4).names.lookup ("one" : Str) = some .local := by decide +kernel
theorem v_q4_one : Vis (defScope s_q4) "one" := Or.inl l_q4_one
theorem l_q4_other : (defScope s_q4).names.lookup ("other" : Str) = some .local := by decide +kernel
theorem v_q4_other : Vis (defScope s_q4) "other" := Or.inl l_q4_other
theorem l_q4_time : (defScope s_q4).names.lookup ("time" : Str) = some .local := by decide +kernel
theorem v_q4_time : Vis (defScope s_q4) "time" := Or.inl l_q4_time
theorem l_q4_place : (defScope s_q4).names.lookup ("place" : Str) = some .local := by decide +kernel
theorem v_q4_place : Vis (defScope s_q4) "place" := Or.inl l_q4_place
theorem l_q4_far : (defScope s_q4).names.lookup ("far" : Str) = some .local := by decide +kernel
theorem v_q4_far : Vis (defScope s_q4) "far" := Or.inl l_q4_far
theorem l_q3_one : (defScope s_q3).names.lookup ("one" : Str) = some .local := by decide +kernel
theorem v_q3_one : Vis (defScope s_q3) "one" := Or.inl l_q3_one
theorem l_q3_other : (defScope s_q3).names.lookup ("other" : Str) = some .local := by decide +kernel
theorem v_q3_other : Vis (defScope s_q3) "other" := Or.inl l_q3_other
theorem l_q3_begin : (defScope s_q3).names.lookup ("begin" : Str) = some .local := by decide +kernel
theorem v_q3_begin : Vis (defScope s_q3) "begin" := Or.inl l_q3_begin
theorem l_q3_end : (defScope s_q3).names.lookup ("end" : Str) = some .local := by decide +kernel
theorem v_q3_end : Vis (defScope s_q3) "end" := Or.inl l_q3_end
theorem l_q3_time : (defScope s_q3).names.lookup ("time" : Str) = some .local := by decide +kernel
theorem v_q3_time : Vis (defScope s_q3) "time" := Or.inl l_q3_time
theorem l_q3_word : (defScope s_q3).names.lookup ("word" : Str) = some .local := by decide +kernel
theorem v_q3_word : Vis (defScope s_q3) "word" := Or.inl l_q3_word
theorem l_q9_self : (defScope s_q9).names.lookup ("self" : Str) = some .local := by decide +kernel
theorem v_q9_self : Vis (defScope s_q9) "self" := Or.inl l_q9_self
theorem l_q9_other : (defScope s_q9).names.lookup ("other" : Str) = some .local := by decide +kernel
theorem v_q9_other : Vis (defScope s_q9) "other" := Or.inl l_q9_other
theorem l_q14_self : (defScope s_q14).names.lookup ("self" : Str) = some .local := by decide +kernel
theorem v_q14_self : Vis (defScope s_q14) "self" := Or.inl l_q14_self
theorem l_q0_self : (defScope s_q0).names.lookup ("self" : Str) = some .local := by decide +kernel
theorem v_q0_self : Vis (defScope s_q0) "self" := Or.inl l_q0_self
theorem l_q0_number : (defScope s_q0).names.lookup ("number" : Str) = some .local := by decide +kernel
theorem v_q0_number : Vis (defScope s_q0) "number" := Or.inl l_q0_number
theorem l_q5_self : (defScope s_q5).names.lookup ("self" : Str) = some .local := by decide +kernel
theorem v_q5_self : Vis (defScope s_q5) "self" := Or.inl l_q5_self
theorem l_q20_self : (defScope s_q20).names.lookup ("self" : Str) = some .local := by decide +kernel
theorem v_q20_self : Vis (defScope s_q20) "self" := Or.inl l_q20_self
theorem l_q20_number : (defScope s_q20).names.lookup ("number" : Str) = some .local := by decide +kernel
theorem v_q20_number : Vis (defScope s_q20) "number" := Or.inl l_q20_number
theorem l_q20_way : (defScope s_q20).names.lookup ("way" : Str) = some .local := by decide +kernel
theorem v_q20_way : Vis (defScope s_q20) "way" := Or.inl l_q20_way
theorem l_q20_other : (defScope s_q20).names.lookup ("other" : Str) = some .local := by decide +kernel
theorem v_q20_other : Vis (defScope s_q20) "other" := Or.inl l_q20_other
theorem l_q15_self : (defScope s_q15).names.lookup ("self" : Str) = some .local := by decide +kernel
theorem v_q15_self : Vis (defScope s_q15) "self" := Or.inl l_q15_self
theorem l_q15_number : (defScope s_q15).names.lookup ("number" : Str) = some .local := by decide +kernel
theorem v_q15_number : Vis (defScope s_q15) "number" := Or.inl l_q15_number
theorem l_q8_self : (defScope s_q8).names.lookup ("self" : Str) = some .local := by decide +kernel
theorem v_q8_self : Vis (defScope s_q8) "self" := Or.inl l_q8_self
theorem l_q8_book : (defScope s_q8).names.lookup ("book" : Str) = some .local := by decide +kernel
theorem v_q8_book : Vis (defScope s_q8) "book" := Or.inl l_q8_book
theorem l_q21_self : (defScope s_q21).names.lookup ("self" : Str) = some .local := by decide +kernel
theorem v_q21_self : Vis (defScope s_q21) "self" := Or.inl l_q21_self
theorem l_q21_cell : (defScope s_q21).names.lookup ("cell" : Str) = some .local := by decide +kernel
theorem v_q21_cell : Vis (defScope s_q21) "cell" := Or.inl l_q21_cell
theorem l_q21_time : (defScope s_q21).names.lookup ("time" : Str) = some .local := by decide +kernel
theorem v_q21_time : Vis (defScope s_q21) "time" := Or.inl l_q21_time
theorem l_q21_number : (defScope s_q21).names.lookup ("number" : Str) = some .local := by decide +kernel
theorem v_q21_number : Vis (defScope s_q21) "number" := Or.inl l_q21_number
theorem l_q1_self : (defScope s_q1).names.lookup ("self" : Str) = some .cell := by decide +kernel
theorem v_q1_self : Vis (defScope s_q1) "self" := Or.inr (Or.inl l_q1_self)
theorem l_q7_self : (defScope s_q7).names.lookup ("self" : Str) = some .local := by decide +kernel
theorem v_q7_self : Vis (defScope s_q7) "self" := Or.inl l_q7_self
theorem l_q7_number : (defScope s_q7).names.lookup ("number" : Str) = some .local := by decide +kernel
theorem v_q7_number : Vis (defScope s_q7) "number" := Or.inl l_q7_number
theorem l_q7_time : (defScope s_q7).names.lookup ("time" : Str) = some .local := by decide +kernel
theorem v_q7_time : Vis (defScope s_q7) "time" := Or.inl l_q7_time
theorem l_q7_places : (defScope s_q7).names.lookup ("places" : Str) = some .local := by decide +kernel
theorem v_q7_places : Vis (defScope s_q7) "places" := Or.inl l_q7_places
theorem l_q7_way : (defScope s_q7).names.lookup ("way" : Str) = some .local := by decide +kernel
theorem v_q7_way : Vis (defScope s_q7) "way" := Or.inl l_q7_way
theorem l_q7_later : (defScope s_q7).names.lookup ("later" : Str) = some .local := by decide +kernel
theorem v_q7_later : Vis (defScope s_q7) "later" := Or.inl l_q7_later
theorem l_q22_comings : (defScope s_q22).names.lookup ("comings" : Str) = some .local := by decide +kernel
theorem v_q22_comings : Vis (defScope s_q22) "comings" := Or.inl l_q22_comings
theorem l_q22_cell : (defScope s_q22).names.lookup ("cell" : Str) = some .local := by decide +kernel
theorem v_q22_cell : Vis (defScope s_q22) "cell" := Or.inl l_q22_cell
theorem l_q22_other : (defScope s_q22).names.lookup ("other" : Str) = some .local := by decide +kernel
theorem v_q22_other : Vis (defScope s_q22) "other" := Or.inl l_q22_other
theorem l_q6_self : (defScope s_q6).names.lookup ("self" : Str) = some .local := by decide +kernel
theorem v_q6_self : Vis (defScope s_q6) "self" := Or.inl l_q6_self
theorem l_q6_number : (defScope s_q6).names.lookup ("number" : Str) = some .local := by decide +kernel
theorem v_q6_number : Vis (defScope s_q6) "number" := Or.inl l_q6_number
theorem l_q6_cell : (defScope s_q6).names.lookup ("cell" : Str) = some .local := by decide +kernel
theorem v_q6_cell : Vis (defScope s_q6) "cell" := Or.inl l_q6_cell
theorem l_q6_other : (defScope s_q6).names.lookup ("other" : Str) = some .local := by decide +kernel
theorem v_q6_other : Vis (defScope s_q6) "other" := Or.inl l_q6_other
theorem l_q6_time : (defScope s_q6).names.lookup ("time" : Str) = some .local := by decide +kernel
theorem v_q6_time : Vis (defScope s_q6) "time" := Or.inl l_q6_time
theorem l_q10_self : (defScope s_q10).names.lookup ("self" : Str) = some .local := by decide +kernel
theorem v_q10_self : Vis (defScope s_q10) "self" := Or.inl l_q10_self
theorem l_q10_number : (defScope s_q10).names.lookup ("number" : Str) = some .local := by decide +kernel
theorem v_q10_number : Vis (defScope s_q10) "number" := Or.inl l_q10_number
theorem l_q16_way : (defScope s_q16).names.lookup ("way" : Str) = some .local := by decide +kernel
theorem v_q16_way : Vis (defScope s_q16) "way" := Or.inl l_q16_way
theorem l_q16_cell : (defScope s_q16).names.lookup ("cell" : Str) = some .local := by decide +kernel
theorem v_q16_cell : Vis (defScope s_q16) "cell" := Or.inl l_q16_cell
theorem l_q16_left : (defScope s_q16).names.lookup ("left" : Str) = some .local := by decide +kernel
theorem v_q16_left : Vis (defScope s_q16) "left" := Or.inl l_q16_left
theorem l_q16_index : (defScope s_q16).names.lookup ("index" : Str) = some .local := by decide +kernel
theorem v_q16_index : Vis (defScope s_q16) "index" := Or.inl l_q16_index
theorem l_q16_place : (defScope s_q16).names.lookup ("place" : Str) = some .local := by decide +kernel
theorem v_q16_place : Vis (defScope s_q16) "place" := Or.inl l_q16_place
theorem l_q2_self : (defScope s_q2).names.lookup ("self" : Str) = some .local := by decide +kernel
theorem v_q2_self : Vis (defScope s_q2) "self" := Or.inl l_q2_self
theorem l_q2_number : (defScope s_q2).names.lookup ("number" : Str) = some .local := by decide +kernel
theorem v_q2_number : Vis (defScope s_q2) "number" := Or.inl l_q2_number
theorem l_q2_cell : (defScope s_q2).names.lookup ("cell" : Str) = some .local := by decide +kernel
theorem v_q2_cell : Vis (defScope s_q2) "cell" := Or.inl l_q2_cell
theorem l_q2_free : (defScope s_q2).names.lookup ("free" : Str) = some .local := by decide +kernel
theorem v_q2_free : Vis (defScope s_q2) "free" := Or.inl l_q2_free
theorem l_q2_way : (defScope s_q2).names.lookup ("way" : Str) = some .local := by decide +kernel
theorem v_q2_way : Vis (defScope s_q2) "way" := Or.inl l_q2_way
theorem l_q23__law_script : (defScope s_q23).names.lookup ("_law_script" : Str) = some .local := by decide +kernel
theorem v_q23__law_script : Vis (defScope s_q23) "_law_script" := Or.inl l_q23__law_script
theorem l_q23__law_k : (defScope s_q23).names.lookup ("_law_k" : Str) = some .local := by decide +kernel
theorem v_q23__law_k : Vis (defScope s_q23) "_law_k" := Or.inl l_q23__law_k
theorem l_q28__law_cell : (defScope s_q28).names.lookup ("_law_cell" : Str) = some .local := by decide +kernel
theorem v_q28__law_cell : Vis (defScope s_q28) "_law_cell" := Or.inl l_q28__law_cell
theorem l_q28__law_k : (defScope s_q28).names.lookup ("_law_k" : Str) = some .local := by decide +kernel
theorem v_q28__law_k : Vis (defScope s_q28) "_law_k" := Or.inl l_q28__law_k
theorem l_q28__law_number : (defScope s_q28).names.lookup ("_law_number" : Str) = some .local := by decide +kernel
theorem v_q28__law_number : Vis (defScope s_q28) "_law_number" := Or.inl l_q28__law_number
theorem l_q29__law_found : (defScope s_q29).names.lookup ("_law_found" : Str) = some .local := by decide +kernel
theorem v_q29__law_found : Vis (defScope s_q29) "_law_found" := Or.inl l_q29__law_found
theorem l_Lrows__law_way : (defScope s_Lrows).names.lookup ("_law_way" : Str) = some .local := by decide +kernel
theorem v_Lrows__law_way : Vis (defScope s_Lrows) "_law_way" := Or.inl l_Lrows__law_way
theorem l_Lrows__law_end_here : (defScope s_Lrows).names.lookup ("_law_end_here" : Str) = some .local := by decide +kernel
theorem v_Lrows__law_end_here : Vis (defScope s_Lrows) "_law_end_here" := Or.inl l_Lrows__law_end_here
theorem l_Lrows__law_found : (defScope s_Lrows).names.lookup ("_law_found" : Str) = some .local := by decide +kernel
theorem v_Lrows__law_found : Vis (defScope s_Lrows) "_law_found" := Or.inl l_Lrows__law_found
theorem l_q24__law_one : (defScope s_q24).names.lookup ("_law_one" : Str) = some .local := by decide +kernel
theorem v_q24__law_one : Vis (defScope s_q24) "_law_one" := Or.inl l_q24__law_one
theorem l_q24__law_other : (defScope s_q24).names.lookup ("_law_other" : Str) = some .local := by decide +kernel
theorem v_q24__law_other : Vis (defScope s_q24) "_law_other" := Or.inl l_q24__law_other
theorem l_q24__law_end_here : (defScope s_q24).names.lookup ("_law_end_here" : Str) = some .local := by decide +kernel
theorem v_q24__law_end_here : Vis (defScope s_q24) "_law_end_here" := Or.inl l_q24__law_end_here
theorem l_q24__law_mine : (defScope s_q24).names.lookup ("_law_mine" : Str) = some .local := by decide +kernel
theorem v_q24__law_mine : Vis (defScope s_q24) "_law_mine" := Or.inl l_q24__law_mine
theorem l_q24__law_yours : (defScope s_q24).names.lookup ("_law_yours" : Str) = some .local := by decide +kernel
theorem v_q24__law_yours : Vis (defScope s_q24) "_law_yours" := Or.inl l_q24__law_yours
theorem l_q24__law_time : (defScope s_q24).names.lookup ("_law_time" : Str) = some .local := by decide +kernel
theorem v_q24__law_time : Vis (defScope s_q24) "_law_time" := Or.inl l_q24__law_time
theorem l_q11__law_cell : (defScope s_q11).names.lookup ("_law_cell" : Str) = some .local := by decide +kernel
theorem v_q11__law_cell : Vis (defScope s_q11) "_law_cell" := Or.inl l_q11__law_cell
theorem l_q11__law_most : (defScope s_q11).names.lookup ("_law_most" : Str) = some .local := by decide +kernel
theorem v_q11__law_most : Vis (defScope s_q11) "_law_most" := Or.inl l_q11__law_most
theorem l_q11__law_size : (defScope s_q11).names.lookup ("_law_size" : Str) = some .local := by decide +kernel
theorem v_q11__law_size : Vis (defScope s_q11) "_law_size" := Or.inl l_q11__law_size
theorem l_q11__law_spot : (defScope s_q11).names.lookup ("_law_spot" : Str) = some .local := by decide +kernel
theorem v_q11__law_spot : Vis (defScope s_q11) "_law_spot" := Or.inl l_q11__law_spot
theorem l_q11__law_cells : (defScope s_q11).names.lookup ("_law_cells" : Str) = some .local := by decide +kernel
theorem v_q11__law_cells : Vis (defScope s_q11) "_law_cells" := Or.inl l_q11__law_cells
theorem l_q11__law_k : (defScope s_q11).names.lookup ("_law_k" : Str) = some .local := by decide +kernel
theorem v_q11__law_k : Vis (defScope s_q11) "_law_k" := Or.inl l_q11__law_k
theorem l_q11__law_number : (defScope s_q11).names.lookup ("_law_number" : Str) = some .local := by decide +kernel
theorem v_q11__law_number : Vis (defScope s_q11) "_law_number" := Or.inl l_q11__law_number
theorem l_Lfits__law_kept : (defScope s_Lfits).names.lookup ("_law_kept" : Str) = some .local := by decide +kernel
theorem v_Lfits__law_kept : Vis (defScope s_Lfits) "_law_kept" := Or.inl l_Lfits__law_kept
theorem l_Lfits__law_number : (defScope s_Lfits).names.lookup ("_law_number" : Str) = some .local := by decide +kernel
theorem v_Lfits__law_number : Vis (defScope s_Lfits) "_law_number" := Or.inl l_Lfits__law_number
theorem l_Lfits__law_way : (defScope s_Lfits).names.lookup ("_law_way" : Str) = some .local := by decide +kernel
theorem v_Lfits__law_way : Vis (defScope s_Lfits) "_law_way" := Or.inl l_Lfits__law_way
theorem l_Lfits__law_other : (defScope s_Lfits).names.lookup ("_law_other" : Str) = some .local := by decide +kernel
theorem v_Lfits__law_other : Vis (defScope s_Lfits) "_law_other" := Or.inl l_Lfits__law_other
theorem l_q27__law_script : (defScope s_q27).names.lookup ("_law_script" : Str) = some .local := by decide +kernel
theorem v_q27__law_script : Vis (defScope s_q27) "_law_script" := Or.inl l_q27__law_script
theorem l_q27__law_book : (defScope s_q27).names.lookup ("_law_book" : Str) = some .local := by decide +kernel
theorem v_q27__law_book : Vis (defScope s_q27) "_law_book" := Or.inl l_q27__law_book
theorem l_q27__law_kept : (defScope s_q27).names.lookup ("_law_kept" : Str) = some .local := by decide +kernel
theorem v_q27__law_kept : Vis (defScope s_q27) "_law_kept" := Or.inl l_q27__law_kept
theorem l_q27__law_most : (defScope s_q27).names.lookup ("_law_most" : Str) = some .local := by decide +kernel
theorem v_q27__law_most : Vis (defScope s_q27) "_law_most" := Or.inl l_q27__law_most
theorem l_q27__law_number : (defScope s_q27).names.lookup ("_law_number" : Str) = some .local := by decide +kernel
theorem v_q27__law_number : Vis (defScope s_q27) "_law_number" := Or.inl l_q27__law_number
theorem l_q27__law_way : (defScope s_q27).names.lookup ("_law_way" : Str) = some .local := by decide +kernel
theorem v_q27__law_way : Vis (defScope s_q27) "_law_way" := Or.inl l_q27__law_way
theorem l_Lend__law_kept : (defScope s_Lend).names.lookup ("_law_kept" : Str) = some .local := by decide +kernel
theorem v_Lend__law_kept : Vis (defScope s_Lend) "_law_kept" := Or.inl l_Lend__law_kept
theorem l_Lwho__law_kept : (defScope s_Lwho).names.lookup ("_law_kept" : Str) = some .local := by decide +kernel
theorem v_Lwho__law_kept : Vis (defScope s_Lwho) "_law_kept" := Or.inl l_Lwho__law_kept
theorem l_Lwho__law_place : (defScope s_Lwho).names.lookup ("_law_place" : Str) = some .local := by decide +kernel
theorem v_Lwho__law_place : Vis (defScope s_Lwho) "_law_place" := Or.inl l_Lwho__law_place
theorem l_Lwho__law_time : (defScope s_Lwho).names.lookup ("_law_time" : Str) = some .local := by decide +kernel
theorem v_Lwho__law_time : Vis (defScope s_Lwho) "_law_time" := Or.inl l_Lwho__law_time
theorem l_Lwho__law_number : (defScope s_Lwho).names.lookup ("_law_number" : Str) = some .local := by decide +kernel
theorem v_Lwho__law_number : Vis (defScope s_Lwho) "_law_number" := Or.inl l_Lwho__law_number
theorem l_q25__law_kept : (defScope s_q25).names.lookup ("_law_kept" : Str) = some .local := by decide +kernel
theorem v_q25__law_kept : Vis (defScope s_q25) "_law_kept" := Or.inl l_q25__law_kept
theorem l_q25__law_number : (defScope s_q25).names.lookup ("_law_number" : Str) = some .local := by decide +kernel
theorem v_q25__law_number : Vis (defScope s_q25) "_law_number" := Or.inl l_q25__law_number
theorem l_q25__law_place : (defScope s_q25).names.lookup ("_law_place" : Str) = some .local := by decide +kernel
theorem v_q25__law_place : Vis (defScope s_q25) "_law_place" := Or.inl l_q25__law_place
theorem l_q25__law_other : (defScope s_q25).names.lookup ("_law_other" : Str) = some .local := by decide +kernel
theorem v_q25__law_other : Vis (defScope s_q25) "_law_other" := Or.inl l_q25__law_other
theorem l_q25__law_time : (defScope s_q25).names.lookup ("_law_time" : Str) = some .local := by decide +kernel
theorem v_q25__law_time : Vis (defScope s_q25) "_law_time" := Or.inl l_q25__law_time
theorem l_q25__law_one : (defScope s_q25).names.lookup ("_law_one" : Str) = some .local := by decide +kernel
theorem v_q25__law_one : Vis (defScope s_q25) "_law_one" := Or.inl l_q25__law_one
theorem l_q25__law_here : (defScope s_q25).names.lookup ("_law_here" : Str) = some .local := by decide +kernel
theorem v_q25__law_here : Vis (defScope s_q25) "_law_here" := Or.inl l_q25__law_here
theorem l_q25__law_there : (defScope s_q25).names.lookup ("_law_there" : Str) = some .local := by decide +kernel
theorem v_q25__law_there : Vis (defScope s_q25) "_law_there" := Or.inl l_q25__law_there
theorem l_q30__law_kept : (defScope s_q30).names.lookup ("_law_kept" : Str) = some .cell := by decide +kernel
theorem v_q30__law_kept : Vis (defScope s_q30) "_law_kept" := Or.inr (Or.inl l_q30__law_kept)
theorem l_q12__law_kept : (defScope s_q12).names.lookup ("_law_kept" : Str) = some .local := by decide +kernel
theorem v_q12__law_kept : Vis (defScope s_q12) "_law_kept" := Or.inl l_q12__law_kept
theorem l_q12__law_number : (defScope s_q12).names.lookup ("_law_number" : Str) = some .local := by decide +kernel
theorem v_q12__law_number : Vis (defScope s_q12) "_law_number" := Or.inl l_q12__law_number
theorem l_q12__law_place : (defScope s_q12).names.lookup ("_law_place" : Str) = some .local := by decide +kernel
theorem v_q12__law_place : Vis (defScope s_q12) "_law_place" := Or.inl l_q12__law_place
theorem l_q12__law_found : (defScope s_q12).names.lookup ("_law_found" : Str) = some .local := by decide +kernel
theorem v_q12__law_found : Vis (defScope s_q12) "_law_found" := Or.inl l_q12__law_found
theorem l_q12__law_end_here : (defScope s_q12).names.lookup ("_law_end_here" : Str) = some .local := by decide +kernel
theorem v_q12__law_end_here : Vis (defScope s_q12) "_law_end_here" := Or.inl l_q12__law_end_here
theorem l_q12__law_one : (defScope s_q12).names.lookup ("_law_one" : Str) = some .local := by decide +kernel
theorem v_q12__law_one : Vis (defScope s_q12) "_law_one" := Or.inl l_q12__law_one
theorem l_q12__law_rows_here : (defScope s_q12).names.lookup ("_law_rows_here" : Str) = some .local := by decide +kernel
theorem v_q12__law_rows_here : Vis (defScope s_q12) "_law_rows_here" := Or.inl l_q12__law_rows_here
theorem l_q12__law_time : (defScope s_q12).names.lookup ("_law_time" : Str) = some .local := by decide +kernel
theorem v_q12__law_time : Vis (defScope s_q12) "_law_time" := Or.inl l_q12__law_time
theorem l_Ldue__law_kept : (defScope s_Ldue).names.lookup ("_law_kept" : Str) = some .local := by decide +kernel
theorem v_Ldue__law_kept : Vis (defScope s_Ldue) "_law_kept" := Or.inl l_Ldue__law_kept
theorem l_Ldue__law_which : (defScope s_Ldue).names.lookup ("_law_which" : Str) = some .local := by decide +kernel
theorem v_Ldue__law_which : Vis (defScope s_Ldue) "_law_which" := Or.inl l_Ldue__law_which
theorem l_Ldue__law_number : (defScope s_Ldue).names.lookup ("_law_number" : Str) = some .local := by decide +kernel
theorem v_Ldue__law_number : Vis (defScope s_Ldue) "_law_number" := Or.inl l_Ldue__law_number
theorem l_Ldue__law_place : (defScope s_Ldue).names.lookup ("_law_place" : Str) = some .local := by decide +kernel
theorem v_Ldue__law_place : Vis (defScope s_Ldue) "_law_place" := Or.inl l_Ldue__law_place
theorem l_Ldue__law_other : (defScope s_Ldue).names.lookup ("_law_other" : Str) = some .local := by decide +kernel
theorem v_Ldue__law_other : Vis (defScope s_Ldue) "_law_other" := Or.inl l_Ldue__law_other
theorem l_Ldue__law_time : (defScope s_Ldue).names.lookup ("_law_time" : Str) = some .local := by decide +kernel
theorem v_Ldue__law_time : Vis (defScope s_Ldue) "_law_time" := Or.inl l_Ldue__law_time
theorem l_Ltold__law_book : (defScope s_Ltold).names.lookup ("_law_book" : Str) = some .local := by decide +kernel
theorem v_Ltold__law_book : Vis (defScope s_Ltold) "_law_book" := Or.inl l_Ltold__law_book
theorem l_Ltold__law_which : (defScope s_Ltold).names.lookup ("_law_which" : Str) = some .local := by decide +kernel
theorem v_Ltold__law_which : Vis (defScope s_Ltold) "_law_which" := Or.inl l_Ltold__law_which
theorem l_Ltold__law_number : (defScope s_Ltold).names.lookup ("_law_number" : Str) = some .local := by decide +kernel
theorem v_Ltold__law_number : Vis (defScope s_Ltold) "_law_number" := Or.inl l_Ltold__law_number
theorem l_Ltold__law_place : (defScope s_Ltold).names.lookup ("_law_place" : Str) = some .local := by decide +kernel
theorem v_Ltold__law_place : Vis (defScope s_Ltold) "_law_place" := Or.inl l_Ltold__law_place
theorem l_Ltold__law_other : (defScope s_Ltold).names.lookup ("_law_other" : Str) = some .local := by decide +kernel
theorem v_Ltold__law_other : Vis (defScope s_Ltold) "_law_other" := Or.inl l_Ltold__law_other
theorem l_Ltold__law_time : (defScope s_Ltold).names.lookup ("_law_time" : Str) = some .local := by decide +kernel
theorem v_Ltold__law_time : Vis (defScope s_Ltold) "_law_time" := Or.inl l_Ltold__law_time
theorem l_q31__law_book : (defScope s_q31).names.lookup ("_law_book" : Str) = some .local := by decide +kernel
theorem v_q31__law_book : Vis (defScope s_q31) "_law_book" := Or.inl l_q31__law_book
theorem l_q31__law_kept : (defScope s_q31).names.lookup ("_law_kept" : Str) = some .local := by decide +kernel
theorem v_q31__law_kept : Vis (defScope s_q31) "_law_kept" := Or.inl l_q31__law_kept
theorem l_q31__law_number : (defScope s_q31).names.lookup ("_law_number" : Str) = some .local := by decide +kernel
theorem v_q31__law_number : Vis (defScope s_q31) "_law_number" := Or.inl l_q31__law_number
theorem l_q31__law_most : (defScope s_q31).names.lookup ("_law_most" : Str) = some .local := by decide +kernel
theorem v_q31__law_most : Vis (defScope s_q31) "_law_most" := Or.inl l_q31__law_most
theorem l_q31__law_which : (defScope s_q31).names.lookup ("_law_which" : Str) = some .local := by decide +kernel
theorem v_q31__law_which : Vis (defScope s_q31) "_law_which" := Or.inl l_q31__law_which
theorem l_q31__law_one : (defScope s_q31).names.lookup ("_law_one" : Str) = some .local := by decide +kernel
theorem v_q31__law_one : Vis (defScope s_q31) "_law_one" := Or.inl l_q31__law_one
theorem l_q31__law_place : (defScope s_q31).names.lookup ("_law_place" : Str) = some .local := by decide +kernel
theorem v_q31__law_place : Vis (defScope s_q31) "_law_place" := Or.inl l_q31__law_place
theorem l_q31__law_other : (defScope s_q31).names.lookup ("_law_other" : Str) = some .local := by decide +kernel
theorem v_q31__law_other : Vis (defScope s_q31) "_law_other" := Or.inl l_q31__law_other
theorem l_q31__law_time : (defScope s_q31).names.lookup ("_law_time" : Str) = some .local := by decide +kernel
theorem v_q31__law_time : Vis (defScope s_q31) "_law_time" := Or.inl l_q31__law_time
theorem l_q31__law_found : (defScope s_q31).names.lookup ("_law_found" : Str) = some .local := by decide +kernel
theorem v_q31__law_found : Vis (defScope s_q31) "_law_found" := Or.inl l_q31__law_found
theorem l_q31__law_due_here : (defScope s_q31).names.lookup ("_law_due_here" : Str) = some .local := by decide +kernel
theorem v_q31__law_due_here : Vis (defScope s_q31) "_law_due_here" := Or.inl l_q31__law_due_here
theorem l_q26__law_book : (defScope s_q26).names.lookup ("_law_book" : Str) = some .local := by decide +kernel
theorem v_q26__law_book : Vis (defScope s_q26) "_law_book" := Or.inl l_q26__law_book
theorem l_q26__law_kept : (defScope s_q26).names.lookup ("_law_kept" : Str) = some .local := by decide +kernel
theorem v_q26__law_kept : Vis (defScope s_q26) "_law_kept" := Or.inl l_q26__law_kept
theorem l_q26__law_number : (defScope s_q26).names.lookup ("_law_number" : Str) = some .local := by decide +kernel
theorem v_q26__law_number : Vis (defScope s_q26) "_law_number" := Or.inl l_q26__law_number
theorem l_q26__law_most : (defScope s_q26).names.lookup ("_law_most" : Str) = some .local := by decide +kernel
theorem v_q26__law_most : Vis (defScope s_q26) "_law_most" := Or.inl l_q26__law_most
theorem l_q26__law_one : (defScope s_q26).names.lookup ("_law_one" : Str) = some .local := by decide +kernel
theorem v_q26__law_one : Vis (defScope s_q26) "_law_one" := Or.inl l_q26__law_one
theorem l_q26__law_way : (defScope s_q26).names.lookup ("_law_way" : Str) = some .local := by decide +kernel
theorem v_q26__law_way : Vis (defScope s_q26) "_law_way" := Or.inl l_q26__law_way
theorem l_law__law_script : (defScope s_law).names.lookup ("_law_script" : Str) = some .local := by decide +kernel
theorem v_law__law_script : Vis (defScope s_law) "_law_script" := Or.inl l_law__law_script
theorem l_law__law_most : (defScope s_law).names.lookup ("_law_most" : Str) = some .local := by decide +kernel
theorem v_law__law_most : Vis (defScope s_law) "_law_most" := Or.inl l_law__law_most
theorem l_law__law_book : (defScope s_law).names.lookup ("_law_book" : Str) = some .local := by decide +kernel
theorem v_law__law_book : Vis (defScope s_law) "_law_book" := Or.inl l_law__law_book
theorem l_law__law_kept : (defScope s_law).names.lookup ("_law_kept" : Str) = some .local := by decide +kernel
theorem v_law__law_kept : Vis (defScope s_law) "_law_kept" := Or.inl l_law__law_kept
theorem l_law__law_other : (defScope s_law).names.lookup ("_law_other" : Str) = some .local := by decide +kernel
theorem v_law__law_other : Vis (defScope s_law) "_law_other" := Or.inl l_law__law_other
theorem l_law__law_first : (defScope s_law).names.lookup ("_law_first" : Str) = some .local := by decide +kernel
theorem v_law__law_first : Vis (defScope s_law) "_law_first" := Or.inl l_law__law_first
theorem l_law__law_k : (defScope s_law).names.lookup ("_law_k" : Str) = some .local := by decide +kernel
theorem v_law__law_k : Vis (defScope s_law) "_law_k" := Or.inl l_law__law_k
theorem l_law__law_number : (defScope s_law).names.lookup ("_law_number" : Str) = some .local := by decide +kernel
theorem v_law__law_number : Vis (defScope s_law) "_law_number" := Or.inl l_law__law_number
theorem l_law__law_turn : (defScope s_law).names.lookup ("_law_turn" : Str) = some .local := by decide +kernel
theorem v_law__law_turn : Vis (defScope s_law) "_law_turn" := Or.inl l_law__law_turn
theorem g_q0_NoCarrier : (defScope s_q0).names.lookup ("NoCarrier" : Str) = some .globalImplicit := by decide +kernel
theorem g_q0_q17 : (defScope s_q0).names.lookup ("is_whole" : Str) = some .globalImplicit := by decide +kernel
theorem g_q7_q19 : (defScope s_q7).names.lookup ("place_at" : Str) = some .globalImplicit := by decide +kernel
theorem g_q8_Book : (defScope s_q8).names.lookup ("Book" : Str) = some .globalImplicit := by decide +kernel
theorem g_q8_dict : (defScope s_q8).names.lookup ("dict" : Str) = some .globalImplicit := by decide +kernel
theorem g_q2_q16 : (defScope s_q2).names.lookup ("left_from" : Str) = some .globalImplicit := by decide +kernel
theorem g_q2_max : (defScope s_q2).names.lookup ("max" : Str) = some .globalImplicit := by decide +kernel
theorem g_q6_q22 : (defScope s_q6).names.lookup ("is_clear" : Str) = some .globalImplicit := by decide +kernel
theorem g_q5_sorted : (defScope s_q5).names.lookup ("sorted" : Str) = some .globalImplicit := by decide +kernel
theorem g_q20_Meets : (defScope s_q20).names.lookup ("Meets" : Str) = some .globalImplicit := by decide +kernel
theorem g_q20_q3 : (defScope s_q20).names.lookup ("first_meeting" : Str) = some .globalImplicit := by decide +kernel
theorem g_q10_max : (defScope s_q10).names.lookup ("max" : Str) = some .globalImplicit := by decide +kernel
theorem g_q21_q19 : (defScope s_q21).names.lookup ("place_at" : Str) = some .globalImplicit := by decide +kernel
theorem g_q23_len : (defScope s_q23).names.lookup ("len" : Str) = some .globalImplicit := by decide +kernel
theorem g_q26_Meets : (defScope s_q26).names.lookup ("Meets" : Str) = some .globalImplicit := by decide +kernel
theorem g_q26__law_drawn_way : (defScope s_q26).names.lookup ("_law_drawn_way" : Str) = some .globalImplicit := by decide +kernel
theorem g_q26__law_fits : (defScope s_q26).names.lookup ("_law_fits" : Str) = some .globalImplicit := by decide +kernel
theorem g_q26__law_mixed : (defScope s_q26).names.lookup ("_law_mixed" : Str) = some .globalImplicit := by decide +kernel
theorem g_q11__law_mixed : (defScope s_q11).names.lookup ("_law_mixed" : Str) = some .globalImplicit := by decide +kernel
theorem g_q11_range : (defScope s_q11).names.lookup ("range" : Str) = some .globalImplicit := by decide +kernel
theorem g_q11_tuple : (defScope s_q11).names.lookup ("tuple" : Str) = some .globalImplicit := by decide +kernel
theorem g_Ldue__law_free_from : (defScope s_Ldue).names.lookup ("_law_free_from" : Str) = some .globalImplicit := by decide +kernel
theorem g_Ldue__law_is_open : (defScope s_Ldue).names.lookup ("_law_is_open" : Str) = some .globalImplicit := by decide +kernel
theorem g_Ldue__law_quiet : (defScope s_Ldue).names.lookup ("_law_quiet" : Str) = some .globalImplicit := by decide +kernel
theorem g_Ldue__law_who : (defScope s_Ldue).names.lookup ("_law_who" : Str) = some .globalImplicit := by decide +kernel
theorem g_Lend_max : (defScope s_Lend).names.lookup ("max" : Str) = some .globalImplicit := by decide +kernel
theorem g_q27__law_cell_at : (defScope s_q27).names.lookup ("_law_cell_at" : Str) = some .globalImplicit := by decide +kernel
theorem g_q27__law_drawn_way : (defScope s_q27).names.lookup ("_law_drawn_way" : Str) = some .globalImplicit := by decide +kernel
theorem g_q27__law_fits : (defScope s_q27).names.lookup ("_law_fits" : Str) = some .globalImplicit := by decide +kernel
theorem g_q27__law_mixed : (defScope s_q27).names.lookup ("_law_mixed" : Str) = some .globalImplicit := by decide +kernel
theorem g_q27_range : (defScope s_q27).names.lookup ("range" : Str) = some .globalImplicit := by decide +kernel
theorem g_Lfits__law_meeting : (defScope s_Lfits).names.lookup ("_law_meeting" : Str) = some .globalImplicit := by decide +kernel
theorem g_q12__law_end : (defScope s_q12).names.lookup ("_law_end" : Str) = some .globalImplicit := by decide +kernel
theorem g_q12__law_rows : (defScope s_q12).names.lookup ("_law_rows" : Str) = some .globalImplicit := by decide +kernel
theorem g_q12_max : (defScope s_q12).names.lookup ("max" : Str) = some .globalImplicit := by decide +kernel
theorem g_q12_range : (defScope s_q12).names.lookup ("range" : Str) = some .globalImplicit := by decide +kernel
theorem g_q25__law_rows : (defScope s_q25).names.lookup ("_law_rows" : Str) = some .globalImplicit := by decide +kernel
theorem g_q24__law_rows : (defScope s_q24).names.lookup ("_law_rows" : Str) = some .globalImplicit := by decide +kernel
theorem g_q24_len : (defScope s_q24).names.lookup ("len" : Str) = some .globalImplicit := by decide +kernel
theorem g_q24_max : (defScope s_q24).names.lookup ("max" : Str) = some .globalImplicit := by decide +kernel
theorem g_q24_range : (defScope s_q24).names.lookup ("range" : Str) = some .globalImplicit := by decide +kernel
theorem g_q30_max : (defScope s_q30).names.lookup ("max" : Str) = some .globalImplicit := by decide +kernel
theorem g_q31__law_due : (defScope s_q31).names.lookup ("_law_due" : Str) = some .globalImplicit := by decide +kernel
theorem g_q31__law_end : (defScope s_q31).names.lookup ("_law_end" : Str) = some .globalImplicit := by decide +kernel
theorem g_q31__law_told : (defScope s_q31).names.lookup ("_law_told" : Str) = some .globalImplicit := by decide +kernel
theorem g_q31__law_whole : (defScope s_q31).names.lookup ("_law_whole" : Str) = some .globalImplicit := by decide +kernel
theorem g_q31_bool : (defScope s_q31).names.lookup ("bool" : Str) = some .globalImplicit := by decide +kernel
theorem g_q31_isinstance : (defScope s_q31).names.lookup ("isinstance" : Str) = some .globalImplicit := by decide +kernel
theorem g_Lrows_len : (defScope s_Lrows).names.lookup ("len" : Str) = some .globalImplicit := by decide +kernel
theorem g_Lrows_list : (defScope s_Lrows).names.lookup ("list" : Str) = some .globalImplicit := by decide +kernel
theorem g_Lwho__law_rows : (defScope s_Lwho).names.lookup ("_law_rows" : Str) = some .globalImplicit := by decide +kernel
theorem g_q29_bool : (defScope s_q29).names.lookup ("bool" : Str) = some .globalImplicit := by decide +kernel
theorem g_q29_int : (defScope s_q29).names.lookup ("int" : Str) = some .globalImplicit := by decide +kernel
theorem g_q29_isinstance : (defScope s_q29).names.lookup ("isinstance" : Str) = some .globalImplicit := by decide +kernel
theorem g_q3_q13 : (defScope s_q3).names.lookup ("last_time" : Str) = some .globalImplicit := by decide +kernel
theorem g_q3_max : (defScope s_q3).names.lookup ("max" : Str) = some .globalImplicit := by decide +kernel
theorem g_q3_q4 : (defScope s_q3).names.lookup ("meeting_word" : Str) = some .globalImplicit := by decide +kernel
theorem g_q3_range : (defScope s_q3).names.lookup ("range" : Str) = some .globalImplicit := by decide +kernel
theorem g_q18_len : (defScope s_q18).names.lookup ("len" : Str) = some .globalImplicit := by decide +kernel
theorem g_q18_min : (defScope s_q18).names.lookup ("min" : Str) = some .globalImplicit := by decide +kernel
theorem g_q17_bool : (defScope s_q17).names.lookup ("bool" : Str) = some .globalImplicit := by decide +kernel
theorem g_q17_int : (defScope s_q17).names.lookup ("int" : Str) = some .globalImplicit := by decide +kernel
theorem g_q17_isinstance : (defScope s_q17).names.lookup ("isinstance" : Str) = some .globalImplicit := by decide +kernel
theorem g_q13_len : (defScope s_q13).names.lookup ("len" : Str) = some .globalImplicit := by decide +kernel
theorem g_law_Book : (defScope s_law).names.lookup ("Book" : Str) = some .globalImplicit := by decide +kernel
theorem g_law__law_cell_at : (defScope s_law).names.lookup ("_law_cell_at" : Str) = some .globalImplicit := by decide +kernel
theorem g_law__law_changed : (defScope s_law).names.lookup ("_law_changed" : Str) = some .globalImplicit := by decide +kernel
theorem g_law__law_filled : (defScope s_law).names.lookup ("_law_filled" : Str) = some .globalImplicit := by decide +kernel
theorem g_law__law_mixed : (defScope s_law).names.lookup ("_law_mixed" : Str) = some .globalImplicit := by decide +kernel
theorem g_law__law_right : (defScope s_law).names.lookup ("_law_right" : Str) = some .globalImplicit := by decide +kernel
theorem g_law_dict : (defScope s_law).names.lookup ("dict" : Str) = some .globalImplicit := by decide +kernel
theorem g_law_len : (defScope s_law).names.lookup ("len" : Str) = some .globalImplicit := by decide +kernel
theorem g_law_min : (defScope s_law).names.lookup ("min" : Str) = some .globalImplicit := by decide +kernel
theorem g_law_range : (defScope s_law).names.lookup ("range" : Str) = some .globalImplicit := by decide +kernel
theorem g_q16_enumerate : (defScope s_q16).names.lookup ("enumerate" : Str) = some .globalImplicit := by decide +kernel
theorem g_q4_q19 : (defScope s_q4).names.lookup ("place_at" : Str) = some .globalImplicit := by decide +kernel
theorem g_q19_q18 : (defScope s_q19).names.lookup ("index_at" : Str) = some .globalImplicit := by decide +kernel
theorem sc_q17 : FnScope ["thing"] ["thing"] (defScope s_q17) := ⟨rfl, rfl, rfl, by decide +kernel, rfl, by decide +kernel, by decide +kernel⟩
set_option maxHeartbeats 4000000 in
local macro_rules | `(tactic| walk_at "RD") => `(tactic| simp only [tFor_eq, iRng1, iRng2, gTup, gTupL, gCons, gNil, tRevT, rRep01, rCatT, rCat, rRep, cxKm, cxKs, cxKt, tTryAs, tTry, onlyRet, tDGet1, tDIn, tDNotIn, tDNewK, sDPut, tDGet, tDPop1, tXGetO, tXGet, tRaiseI, sXFld, iZip, tStepL, iEnum, iVals, tMaxD, tThawK, tThawE, iDictK, Ends.thawK, tSeq, tCallX, tMethX, tMakeX, tRaise, noW, tAsg, tOp, tUn, tVar, tC, rI0, rI, rU, tTest, tIfS, tNext, tRet, tRetN, tDrop, gName, tCB, tCons, tNil, tAndV, tOrV, tNotV, tAnd, tOr, tNot, tB, tIf, tChain, tCall, tBM, tBM0, tLst, tTup, tNoPart, tPart, tSlS, tSl, tBreak, tCont, rSlA, rSlL, rPopAt, rIn, rIxL, rIxT, rIxS, rEq, rNe, scal, rAppend, rPop, rIndex, tFld, sFld, tMeth, tMake, tDNewK, gSub, rSetL, tJoinRev, tComp, sComp, capσ, iStr, iList, iTup, rEqD, cxK, cxA, cxKc, cxAc, L2.start, List.map_cons, List.map_nil, List.length_cons, List.length_nil, List.replicate_succ, List.replicate_zero, List.cons_append, List.nil_append, List.append_nil, Nat.reduceAdd, Nat.reduceSub, List.set_cons_zero, List.set_cons_succ, List.getElem?_cons_zero, List.getElem?_cons_succ, Option.getD_some, Option.getD_none, Option.some.injEq, V.int.injEq, V.ref.injEq, V.bl.injEq, V.str.injEq, V.ty.injEq, exists_eq_left', exists_eq_left, exists_and_left, and_assoc, List.cons.injEq, and_true, true_and, decide_eq_true_eq, Bool.not_eq_true', decide_eq_false_iff_not, Bool.false_eq_true, if_false, if_true, reduceIte, Bool.not_true, Bool.not_false, beq_self_eq_true])
theorem ok_q17 {fd : FuncData} (F : Fun K "is_whole" "is_whole" s_q17 ad.q17 fd) (T : Txt K mg ad) : FnOk P w K mg base CX0 1 ad.q17 fd ["thing"] (spWhole K) := by
  refine F.ok sc_q17 (fun vs H Q E h => ?_) (fun cdv A outer s H vs Q E HR h => ?_)
  · obtain ⟨x, rfl, _⟩ := h
    rfl
  · obtain ⟨x, rfl, ty, hq⟩ := h
    have ND := sc_q17.nd
    have HU0 := HR.units0
    have HU := HR.units
    have hA := HR.hd
    have hz : (100000 : Nat) ≤ sizeLine := by rw [sizeLine_eq]; decide
    refine ⟨_, (pss_one (ps_ret (pe_and (pe_callB call_isinst (gl_of g_q17_isinstance) T.b_isinstance PyProof.Rows.Boot.«isinstance» (pa_cons (pe_var (i := 0) (x := "thing") rfl (vis_of v_q17_thing) d_thing e_thing) (pa_cons (pe_bltn (v := .ty "int") (gl_of g_q17_int) T.b_int PyProof.Rows.Boot.«int» rfl (hn := n_int) (hd := d_int)) pa_nil (stp rfl)) (stp rfl)) (hn := n_isinstance) (hdb := d_isinstance) (he := stp rfl) (hpl := anp rfl)) (pe_one (pe_not (pe_callB call_isinst (gl_of g_q17_isinstance) T.b_isinstance PyProof.Rows.Boot.«isinstance» (pa_cons (pe_var (i := 0) (x := "thing") rfl (vis_of v_q17_thing) d_thing e_thing) (pa_cons (pe_bltn (v := .ty "bool") (gl_of g_q17_bool) T.b_bool PyProof.Rows.Boot.«bool» rfl (hn := n_bool) (hd := d_bool)) pa_nil (stp rfl)) (stp rfl)) (hn := n_isinstance) (hdb := d_isinstance) (he := stp rfl) (hpl := anp rfl))))))), ?_⟩
    obtain ⟨n, ty⟩ := ty
    have e1 := kit_int ty
    have e2 := kit_bool ty
    walk_at "RD"
    refine ⟨_, ty, _, e1, ?_⟩
    cases hb : isIB x with
    | true =>
      rw [if_pos rfl]
      refine ⟨_, ty, _, e2, ?_⟩
      cases x <;> simp_all [isI, isB, isIB]
    | false =>
      rw [if_neg (by decide)]
      cases x <;> simp_all [isI, isB, isIB]
theorem sc_q13 : FnScope ["way"] ["way"] (defScope s_q13) := ⟨rfl, rfl, rfl, by decide +kernel, rfl, by decide +kernel, by decide +kernel⟩
set_option maxHeartbeats 4000000 in
theorem ok_q13 {fd : FuncData} (F : Fun K "last_time" "last_time" s_q13 ad.q13 fd) (T : Txt K mg ad) : FnOk P w K mg base CX0 1 ad.q13 fd ["way"] (spLast) := by
  refine F.ok sc_q13 (fun vs H Q E h => ?_) (fun cdv A outer s H vs Q E HR h => ?_)
  · obtain ⟨v, b, cs, rfl, _⟩ := h
    rfl
  · obtain ⟨v, b, cs, rfl, hw, hq⟩ := h
    have ND := sc_q13.nd
    have HU0 := HR.units0
    have HU := HR.units
    have hA := HR.hd
    have hz : (100000 : Nat) ≤ sizeLine := by rw [sizeLine_eq]; decide
    refine ⟨_, (pss_one (ps_ret (pe_op op_sub (pe_op op_add (pe_ix ix_tup (pe_var (i := 0) (x := "way") rfl (vis_of v_q13_way) d_way e_way) pe_int (fun _ _ => rfl)) (pe_callB call_len_seq (gl_of g_q13_len) T.b_len PyProof.Rows.Boot.«len» (pa_cons (pe_ix ix_tup (pe_var (i := 0) (x := "way") rfl (vis_of v_q13_way) d_way e_way) pe_int (fun _ _ => rfl)) pa_nil (stp rfl)) (hn := n_len) (hdb := d_len) (he := stp rfl) (hpl := anp rfl))) pe_int))), ?_⟩
    obtain ⟨p, q, rfl, h1, h2⟩ := hw
    walk_at "RD"
    exact ⟨_, SqT.of h1, _, rfl, _, SqT.of h1, _, rfl, _, rfl, _, .inr (SqT.of h2), _, rfl, by rw [List.length_map]; exact hq⟩
theorem sc_q18 : FnScope ["way", "time"] ["way", "time"] (defScope s_q18) := ⟨rfl, rfl, rfl, by decide +kernel, rfl, by decide +kernel, by decide +kernel⟩
set_option maxHeartbeats 4000000 in
theorem ok_q18 {fd : FuncData} (F : Fun K "index_at" "index_at" s_q18 ad.q18 fd) (T : Txt K mg ad) : FnOk P w K mg base CX0 1 ad.q18 fd ["way", "time"] (spIdx) := by
  refine F.ok sc_q18 (fun vs H Q E h => ?_) (fun cdv A outer s H vs Q E HR h => ?_)
  · obtain ⟨v, b, cs, t, rfl, _⟩ := h
    rfl
  · obtain ⟨v, b, cs, t, rfl, hw, hq⟩ := h
    have ND := sc_q18.nd
    have HU0 := HR.units0
    have HU := HR.units
    have hA := HR.hd
    have hz : (100000 : Nat) ≤ sizeLine := by rw [sizeLine_eq]; decide
    refine ⟨_, (pss_one (ps_ret (pe_callB (call_min2 rfl) (gl_of g_q18_min) T.b_min PyProof.Rows.Boot.«min» (pa_cons (pe_op op_sub (pe_var (i := 1) (x := "time") rfl (vis_of v_q18_time) d_time e_time) (pe_ix ix_tup (pe_var (i := 0) (x := "way") rfl (vis_of v_q18_way) d_way e_way) pe_int (fun _ _ => rfl))) (pa_cons (pe_op op_sub (pe_callB call_len_seq (gl_of g_q18_len) T.b_len PyProof.Rows.Boot.«len» (pa_cons (pe_ix ix_tup (pe_var (i := 0) (x := "way") rfl (vis_of v_q18_way) d_way e_way) pe_int (fun _ _ => rfl)) pa_nil (stp rfl)) (hn := n_len) (hdb := d_len) (he := stp rfl) (hpl := anp rfl)) pe_int) pa_nil (stp rfl)) (stp rfl)) (hn := n_min) (hdb := d_min) (he := stp rfl) (hpl := anp rfl)))), ?_⟩
    obtain ⟨p, q, rfl, h1, h2⟩ := hw
    walk_at "RD"
    exact ⟨_, SqT.of h1, _, rfl, _, rfl, _, SqT.of h1, _, rfl, _, rfl, _, .inr (SqT.of h2), by rw [List.length_map]; exact hq⟩
theorem sc_q19 : FnScope ["way", "time"] ["way", "time"] (defScope s_q19) := ⟨rfl, rfl, rfl, by decide +kernel, rfl, by decide +kernel, by decide +kernel⟩
set_option maxHeartbeats 4000000 in
theorem ok_q19 {fd : FuncData} (F : Fun K "place_at" "place_at" s_q19 ad.q19 fd) (T : Txt K mg ad) {fd_q18 : FuncData} (B_q18 : Binds K fd_q18 ["way", "time"] []) (G_q18 : FnOk P w K mg base CX0 1 ad.q18 fd_q18 ["way", "time"] (spIdx)) : FnOk P w K mg base CX0 2 ad.q19 fd ["way", "time"] (spPlace) := by
  refine F.ok sc_q19 (fun vs H Q E h => ?_) (fun cdv A outer s H vs Q E HR h => ?_)
  · obtain ⟨v, b, cs, t, rfl, _⟩ := h
    rfl
  · obtain ⟨v, b, cs, t, rfl, hw, hc, hq⟩ := h
    have ND := sc_q19.nd
    have HU0 := HR.units0
    have HU := HR.units
    have hA := HR.hd
    have hz : (100000 : Nat) ≤ sizeLine := by rw [sizeLine_eq]; decide
    refine ⟨_, (pss_cons (ps_if (pt_cmpR op_lt (pe_var (i := 1) (x := "time") rfl (vis_of v_q19_time) d_time e_time) (pe_ix ix_tup (pe_var (i := 0) (x := "way") rfl (vis_of v_q19_way) d_way e_way) pe_int (fun _ _ => rfl)) (nomark _))
 (pss_one (ps_ret pe_non))
 pss_nil)
 (pss_one (ps_ret (pe_ix ix_tup (pe_ix ix_tup (pe_var (i := 0) (x := "way") rfl (vis_of v_q19_way) d_way e_way) pe_int (fun _ _ => rfl)) (pe_call G_q18 (HR.mono (by decide)) (gl_of g_q19_q18) T.mg_q18 T.k_q18 B_q18 .nil pass0 (pa_cons (pe_var (i := 0) (x := "way") rfl (vis_of v_q19_way) d_way e_way) (pa_cons (pe_var (i := 1) (x := "time") rfl (vis_of v_q19_time) d_time e_time) pa_nil (stp rfl)) (stp rfl)) (hdb := d_q18) (he := stp rfl) (hpl := anp rfl)) (fun _ _ => rfl))))), ?_⟩
    obtain ⟨p, q, rfl, h1, h2⟩ := id hw
    walk_at "RD"
    refine ⟨_, SqT.of h1, _, rfl, _, rfl, ?_⟩
    unfold plc at hq
    split
    · rename_i h
      rw [if_pos h] at hq
      exact hq
    · rename_i h
      rw [if_neg h] at hq
      obtain ⟨i0, i1⟩ := idx_in (b := b) (cs := cs) (t := t) (by omega) hc
      exact ⟨_, SqT.of h1, _, rfl, _, b, cs, t, rfl, hw, _, rfl, _, _, rfl, SqT.of h2, _, atI_int i0 i1, hq⟩
theorem sc_q4 : FnScope ["one", "other", "time", "place", "far"] ["one", "other", "time"] (defScope s_q4) := ⟨rfl, rfl, rfl, by decide +kernel, rfl, by decide +kernel, by decide +kernel⟩
set_option maxHeartbeats 4000000 in
theorem ok_q4 {fd : FuncData} (F : Fun K "meeting_word" "meeting_word" s_q4 ad.q4 fd) (T : Txt K mg ad) {fd_q19 : FuncData} (B_q19 : Binds K fd_q19 ["way", "time"] []) (G_q19 : FnOk P w K mg base CX0 2 ad.q19 fd_q19 ["way", "time"] (spPlace)) : FnOk P w K mg base CX0 3 ad.q4 fd ["one", "other", "time"] (spWord) := by
  refine F.ok sc_q4 (fun vs H Q E h => ?_) (fun cdv A outer s H vs Q E HR h => ?_)
  · obtain ⟨v, b, c, v', b', c', t, rfl, _⟩ := h
    rfl
  · obtain ⟨v, b, c, v', b', c', t, rfl, hw, hw', hc, hc', hq⟩ := h
    have ND := sc_q4.nd
    have HU0 := HR.units0
    have HU := HR.units
    have hA := HR.hd
    have hz : (100000 : Nat) ≤ sizeLine := by rw [sizeLine_eq]; decide
    refine ⟨_, (pss_cons (ps_set (i := 3) ND rfl (loc_of (Or.inl l_q4_place)) (pe_call G_q19 (HR.mono (by decide)) (gl_of g_q4_q19) T.mg_q19 T.k_q19 B_q19 .nil pass0 (pa_cons (pe_var (i := 0) (x := "one") rfl (vis_of v_q4_one) d_one e_one) (pa_cons (pe_var (i := 2) (x := "time") rfl (vis_of v_q4_time) d_time e_time) pa_nil (stp rfl)) (stp rfl)) (hdb := d_q19) (he := stp rfl) (hpl := anp rfl)))
 (pss_cons (ps_set (i := 4) ND rfl (loc_of (Or.inl l_q4_far)) (pe_call G_q19 (HR.mono (by decide)) (gl_of g_q4_q19) T.mg_q19 T.k_q19 B_q19 .nil pass0 (pa_cons (pe_var (i := 1) (x := "other") rfl (vis_of v_q4_other) d_other e_other) (pa_cons (pe_var (i := 2) (x := "time") rfl (vis_of v_q4_time) d_time e_time) pa_nil (stp rfl)) (stp rfl)) (hdb := d_q19) (he := stp rfl) (hpl := anp rfl)))
 (pss_cons (ps_if (pt_cmpR op_eq (pe_var (i := 3) (x := "place") rfl (vis_of v_q4_place) d_place e_place) (pe_var (i := 4) (x := "far") rfl (vis_of v_q4_far) d_far e_far) (nomark _))
 (pss_one (ps_ret pe_str))
 pss_nil)
 (pss_cons (ps_if (PW.pt (pw_and (pt_cmpR op_eq (pe_call G_q19 (HR.mono (by decide)) (gl_of g_q4_q19) T.mg_q19 T.k_q19 B_q19 .nil pass0 (pa_cons (pe_var (i := 0) (x := "one") rfl (vis_of v_q4_one) d_one e_one) (pa_cons (pe_op op_add (pe_var (i := 2) (x := "time") rfl (vis_of v_q4_time) d_time e_time) pe_int) pa_nil (stp rfl)) (stp rfl)) (hdb := d_q19) (he := stp rfl) (hpl := anp rfl)) (pe_var (i := 4) (x := "far") rfl (vis_of v_q4_far) d_far e_far) (nomark _)) (pw_and1 (pt_cmpR op_eq (pe_call G_q19 (HR.mono (by decide)) (gl_of g_q4_q19) T.mg_q19 T.k_q19 B_q19 .nil pass0 (pa_cons (pe_var (i := 1) (x := "other") rfl (vis_of v_q4_other) d_other e_other) (pa_cons (pe_op op_add (pe_var (i := 2) (x := "time") rfl (vis_of v_q4_time) d_time e_time) pe_int) pa_nil (stp rfl)) (stp rfl)) (hdb := d_q19) (he := stp rfl) (hpl := anp rfl)) (pe_var (i := 3) (x := "place") rfl (vis_of v_q4_place) d_place e_place) (nomark _)))))
 (pss_one (ps_ret pe_str))
 pss_nil)
 (pss_one (ps_ret pe_non)))))), ?_⟩
    have o1 := plc_or b c t
    have o2 := plc_or b' c' t
    have o3 := plc_or b c (t + 1)
    have o4 := plc_or b' c' (t + 1)
    unfold mtAt mw at hq
    walk_at "RD"
    refine ⟨v, b, c, t, rfl, hw, hc, v', b', c', t, rfl, hw', hc', sc_plc o1 o2, ?_⟩
    by_cases h : plc b c t = plc b' c' t
    · rw [if_pos h] at hq ⊢
      exact hq
    · rw [if_neg h] at hq ⊢
      refine ⟨v, b, c, t + 1, rfl, hw, hc, sc_plc o3 o2, ?_⟩
      by_cases h2 : plc b c (t + 1) = plc b' c' t
      · rw [if_pos h2]
        refine ⟨v', b', c', t + 1, rfl, hw', hc', sc_plc o4 o1, ?_⟩
        by_cases h3 : plc b' c' (t + 1) = plc b c t
        · rw [if_pos ⟨h2, h3⟩] at hq
          rw [if_pos h3]
          exact hq
        · rw [if_neg (fun z => h3 z.2)] at hq
          rw [if_neg h3]
          exact hq
      · rw [if_neg (fun z => h2 z.1)] at hq
        rw [if_neg h2]
        exact hq
theorem sc_q3 : FnScope ["one", "other", "begin", "end", "time", "word"] ["one", "other"] (defScope s_q3) := ⟨rfl, rfl, rfl, by decide +kernel, rfl, by decide +kernel, by decide +kernel⟩
set_option maxHeartbeats 4000000 in
theorem ok_q3 {fd : FuncData} (F : Fun K "first_meeting" "first_meeting" s_q3 ad.q3 fd) (T : Txt K mg ad) {fd_q13 : FuncData} (B_q13 : Binds K fd_q13 ["way"] []) (G_q13 : FnOk P w K mg base CX0 1 ad.q13 fd_q13 ["way"] (spLast)) {fd_q4 : FuncData} (B_q4 : Binds K fd_q4 ["one", "other", "time"] []) (G_q4 : FnOk P w K mg base CX0 3 ad.q4 fd_q4 ["one", "other", "time"] (spWord)) : FnOk P w K mg base CX0 4 ad.q3 fd ["one", "other"] (spFirst) := by
  refine F.ok sc_q3 (fun vs H Q E h => ?_) (fun cdv A outer s H vs Q E HR h => ?_)
  · obtain ⟨v, b, c, v', b', c', rfl, _⟩ := h
    rfl
  · obtain ⟨v, b, c, v', b', c', rfl, hw, hw', g, g', hq⟩ := h
    have ND := sc_q3.nd
    have HU0 := HR.units0
    have HU := HR.units
    have hA := HR.hd
    have hz : (100000 : Nat) ≤ sizeLine := by rw [sizeLine_eq]; decide
    refine ⟨_, (pss_cons (ps_set (i := 2) ND rfl (loc_of (Or.inl l_q3_begin)) (pe_callB (call_max2 rfl) (gl_of g_q3_max) T.b_max PyProof.Rows.Boot.«max» (pa_cons (pe_ix ix_tup (pe_var (i := 0) (x := "one") rfl (vis_of v_q3_one) d_one e_one) pe_int (fun _ _ => rfl)) (pa_cons (pe_ix ix_tup (pe_var (i := 1) (x := "other") rfl (vis_of v_q3_other) d_other e_other) pe_int (fun _ _ => rfl)) pa_nil (stp rfl)) (stp rfl)) (hn := n_max) (hdb := d_max) (he := stp rfl) (hpl := anp rfl)))
 (pss_cons (ps_set (i := 3) ND rfl (loc_of (Or.inl l_q3_end)) (pe_callB (call_max2 rfl) (gl_of g_q3_max) T.b_max PyProof.Rows.Boot.«max» (pa_cons (pe_call G_q13 (HR.mono (by decide)) (gl_of g_q3_q13) T.mg_q13 T.k_q13 B_q13 .nil pass0 (pa_cons (pe_var (i := 0) (x := "one") rfl (vis_of v_q3_one) d_one e_one) pa_nil (stp rfl)) (hdb := d_q13) (he := stp rfl) (hpl := anp rfl)) (pa_cons (pe_call G_q13 (HR.mono (by decide)) (gl_of g_q3_q13) T.mg_q13 T.k_q13 B_q13 .nil pass0 (pa_cons (pe_var (i := 1) (x := "other") rfl (vis_of v_q3_other) d_other e_other) pa_nil (stp rfl)) (hdb := d_q13) (he := stp rfl) (hpl := anp rfl)) pa_nil (stp rfl)) (stp rfl)) (hn := n_max) (hdb := d_max) (he := stp rfl) (hpl := anp rfl)))
 (pss_cons (ps_for PassesOwn.never (calm0 rfl) (pi_range2 (gl_of g_q3_range) T.b_range (pa_cons (pe_var (i := 2) (x := "begin") rfl (vis_of v_q3_begin) d_begin e_begin) (pa_cons (pe_op op_add (pe_var (i := 3) (x := "end") rfl (vis_of v_q3_end) d_end e_end) pe_int) pa_nil (stp rfl)) (stp rfl)) (st2 rfl rfl) (st1 rfl)) (pg_name (i := 4) ND rfl (loc_of (Or.inl l_q3_time)))
 (pss_cons (ps_set (i := 5) ND rfl (loc_of (Or.inl l_q3_word)) (pe_call G_q4 (HR.mono (by decide)) (gl_of g_q3_q4) T.mg_q4 T.k_q4 B_q4 .nil pass0 (pa_cons (pe_var (i := 0) (x := "one") rfl (vis_of v_q3_one) d_one e_one) (pa_cons (pe_var (i := 1) (x := "other") rfl (vis_of v_q3_other) d_other e_other) (pa_cons (pe_var (i := 4) (x := "time") rfl (vis_of v_q3_time) d_time e_time) pa_nil (stp rfl)) (stp rfl)) (stp rfl)) (hdb := d_q4) (he := stp rfl) (hpl := anp rfl)))
 (pss_one (ps_if (pt_cmpR op_notN (pe_var (i := 5) (x := "word") rfl (vis_of v_q3_word) d_word e_word) pe_non (nomark _))
 (pss_one (ps_ret (pe_tup (pa_cons (pe_var (i := 4) (x := "time") rfl (vis_of v_q3_time) d_time e_time) (pa_cons (pe_var (i := 5) (x := "word") rfl (vis_of v_q3_word) d_word e_word) pa_nil (stp rfl)) (stp rfl)))))
 pss_nil))))
 (pss_one (ps_ret pe_non))))), ?_⟩
    obtain ⟨p, q, rfl, h1, h2⟩ := id hw
    obtain ⟨p', q', rfl, h1', h2'⟩ := id hw'
    obtain ⟨hc, hl, b0, b1⟩ := g
    obtain ⟨hc', hl', b0', b1'⟩ := g'
    have lp : 0 < c.length := List.length_pos_iff.mpr hc
    have lp' : 0 < c'.length := List.length_pos_iff.mpr hc'
    walk_at "RD"
    refine ⟨_, SqT.of h1, _, rfl, _, SqT.of h1', _, rfl, _, rfl, _, rfl, _, b, c, rfl, hw, _, b', c', rfl, hw', _, rfl, _, rfl, ?_⟩
    obtain ⟨B, hB⟩ : ∃ B, B = (if b' > b then b' else b) := ⟨_, rfl⟩
    obtain ⟨e, he⟩ : ∃ e, e = (if b' + (c'.length : Int) - 1 > b + (c.length : Int) - 1 then b' + (c'.length : Int) - 1 else b + (c.length : Int) - 1) := ⟨_, rfl⟩
    rw [← hB, ← he]
    have B1 : b ≤ B ∧ b' ≤ B ∧ B ≤ 10 ^ 15 ∧ (B = b ∨ B = b') := by rw [hB]; split <;> omega
    have e1 : b + (c.length : Int) - 1 ≤ e ∧ b' + (c'.length : Int) - 1 ≤ e ∧ e ≤ 10 ^ 15 + 1000 := by rw [he]; split <;> omega
    refine ⟨by omega, by omega, by omega, by omega, for_range (fun i σ H' => ∃ x y, H' = H ∧ σ = [some (V.ref p), some (V.ref p'), some (V.int B), some (V.int e), x, y] ∧ ∀ j : Nat, j < i → mtAt b c b' c' (B + (j : Int)) = none) ⟨none, none, rfl, rfl, fun j hj => absurd hj (Nat.not_lt_zero j)⟩ ?_ ?_⟩
    · rintro i σ H' hi ⟨x, y, rfl, rfl, hn⟩
      walk_at "RD"
      refine ⟨_, b, c, _, b', c', B + (i : Int), rfl, hw, hw', hc, hc', ?_⟩
      dsimp only
      cases hm : mtAt b c b' c' (B + (i : Int)) with
      | none =>
        rw [if_neg (by simp [wordV])]
        refine ⟨rfl, fun j hj => ?_⟩
        rcases Nat.lt_succ_iff_lt_or_eq.mp hj with z | z
        · exact hn j z
        · rw [z]; exact hm
      | some w =>
        rw [if_pos (by simp [wordV])]
        refine ⟨by omega, fun r nr => hq _ _ (some (B + (i : Int), w)) (same_new nr) ⟨r, rfl, upd_same⟩ ⟨by omega, by omega, hm, fun t' g1 g2 g3 => ?_⟩⟩
        have := hn (t' - B).toNat (by omega)
        rw [show B + ((t' - B).toNat : Int) = t' by omega] at this
        exact this
    · rintro σ H' ⟨x, y, rfl, rfl, hn⟩
      walk_at "RD"
      refine hq _ _ none (Same.refl _) rfl (First.none_of hc hc' (e := e) e1.1 e1.2.1 fun t' g1 g2 g3 => ?_)
      have := hn (t' - B).toNat (by omega)
      rw [show B + ((t' - B).toNat : Int) = t' by omega] at this
      exact this
theorem sc_q9 : FnScope ["self", "other"] ["self", "other"] (defScope s_q9) := ⟨rfl, rfl, rfl, by decide +kernel, rfl, by decide +kernel, by decide +kernel⟩
set_option maxHeartbeats 4000000 in
theorem ok_q9 {fd : FuncData} (F : Fun K "__init__" "Meets.__init__" s_q9 ad.q9 fd) (T : Txt K mg ad) : FnOk P w K mg base (CXE P w) 1 ad.q9 fd ["self", "other"] (spMInit ad) := by
  refine F.okR sc_q9 (fun vs H Q E h => ?_) (fun cdv A outer s H vs Q E HR h => ?_)
  · obtain ⟨x, k, fs, sl, rfl, _⟩ := h
    rfl
  · obtain ⟨x, k, fs, sl, rfl, hx, hq⟩ := h
    have ND := sc_q9.nd
    have HU0 := HR.units0
    have HU := HR.units
    have hA := HR.hd
    have hz : (100000 : Nat) ≤ sizeLine := by rw [sizeLine_eq]; decide
    refine ⟨_, (pss_one (ps_xfld (pe_var (i := 0) (x := "self") rfl (vis_of v_q9_self) d_self e_self) (pe_var (i := 1) (x := "other") rfl (vis_of v_q9_other) d_other e_other) rfl)), ?_⟩
    walk_at "RD"
    exact ⟨_, _, _, hx, ⟨T.xt_sa, T.xt_mro, T.xt_dict⟩, T.xt_no, fun dx n1 n2 => hq dx n1 n2⟩
theorem sc_q14 : FnScope ["self"] ["self"] (defScope s_q14) := ⟨rfl, rfl, rfl, by decide +kernel, rfl, by decide +kernel, by decide +kernel⟩
set_option maxHeartbeats 4000000 in
theorem ok_q14 {fd : FuncData} (F : Fun K "__init__" "Book.__init__" s_q14 ad.q14 fd) (T : Txt K mg ad) : FnOk P w K mg base CX0 1 ad.q14 fd ["self"] (spBInit ad) := by
  refine F.ok sc_q14 (fun vs H Q E h => ?_) (fun cdv A outer s H vs Q E HR h => ?_)
  · obtain ⟨p, dx, rfl, _⟩ := h
    rfl
  · obtain ⟨p, dx, rfl, hp, hq⟩ := h
    have ND := sc_q14.nd
    have HU0 := HR.units0
    have HU := HR.units
    have hA := HR.hd
    have hz : (100000 : Nat) ≤ sizeLine := by rw [sizeLine_eq]; decide
    refine ⟨_, (pss_one (ps_fld (pe_var (i := 0) (x := "self") rfl (vis_of v_q14_self) d_self e_self) pe_dnewK rfl)), ?_⟩
    walk_at "RD"
    exact fun d nd => ⟨_, _, _, (same_new nd) _ _ hp, T.cl_Book, T.n_Book_ways, by show 0 < 1000; decide, hq d nd⟩
theorem sc_q0 : FnScope ["self", "number"] ["self", "number"] (defScope s_q0) := ⟨rfl, rfl, rfl, by decide +kernel, rfl, by decide +kernel, by decide +kernel⟩
set_option maxHeartbeats 4000000 in
theorem ok_q0 {fd : FuncData} (F : Fun K "check_number" "Book.check_number" s_q0 ad.q0 fd) (T : Txt K mg ad) {fd_q17 : FuncData} (B_q17 : Binds K fd_q17 ["thing"] []) (G_q17 : FnOk P w K mg base CX0 1 ad.q17 fd_q17 ["thing"] (spWhole K)) : FnOk P w K mg base (CXE P w) 2 ad.q0 fd ["self", "number"] (spCheck ad) := by
  refine F.okR sc_q0 (fun vs H Q E h => ?_) (fun cdv A outer s H vs Q E HR h => ?_)
  · obtain ⟨p, d, es, n, rfl, _⟩ := h
    rfl
  · obtain ⟨p, d, es, n, rfl, hb, hq, he⟩ := h
    have ND := sc_q0.nd
    have HU0 := HR.units0
    have HU := HR.units
    have hA := HR.hd
    have hz : (100000 : Nat) ≤ sizeLine := by rw [sizeLine_eq]; decide
    refine ⟨_, (pss_one (ps_if (PW.pt (pw_or (pt_not (pt_val (pe_call G_q17 (HR.mono (by decide)) (gl_of g_q0_q17) T.mg_q17 T.k_q17 B_q17 .nil pass0 (pa_cons (pe_var (i := 1) (x := "number") rfl (vis_of v_q0_number) d_number e_number) pa_nil (stp rfl)) (hdb := d_q17) (he := stp rfl) (hpl := anp rfl)))) (pw_or1 (pt_cmp (pc_dnotin (hu1 HU) (pe_var (i := 1) (x := "number") rfl (vis_of v_q0_number) d_number e_number) (pe_fld (pe_var (i := 0) (x := "self") rfl (vis_of v_q0_self) d_self e_self) (by rfl))) (by with_unfolding_all rfl)))))
 (pss_one (ps_raise xw_fn rfl (gl_of g_q0_NoCarrier) T.mg_NoCarrier T.er_NoCarrier (pa_cons pe_str pa_nil (stp rfl)) (hdb := d_NoCarrier) (he := stp rfl) (hpl := anp rfl)))
 pss_nil)), ?_⟩
    obtain ⟨⟨dx, h1⟩, h2⟩ := id hb
    walk_at "RD"
    refine ⟨_, rfl, ⟨_, .int n⟩, _, rfl, ?_⟩
    rw [if_neg (by simp [isI])]
    refine ⟨_, _, _, h1, T.cl_Book, T.n_Book_ways, _, w_ways d, d, rfl, _, DGet.k (k := .inl n) h2, ?_⟩
    by_cases z : ∃ e ∈ es, e.k = n
    · cases q : valV (dw es) (.inl n) with
      | none => exact absurd (List.mem_map.mpr ⟨_, List.mem_map.mpr ⟨_, List.mem_map.mpr ⟨z.choose, z.choose_spec.1, rfl⟩, rfl⟩, by rw [z.choose_spec.2]⟩) (valV_not q)
      | some v =>
        rw [if_neg (by simp)]
        exact hq z
    · have z' : ∀ e ∈ es, e.k ≠ n := fun e he y => z ⟨e, he, y⟩
      rw [val_none z', if_pos (by rfl)]
      exact ⟨by omega, he z'⟩
theorem sc_q5 : FnScope ["self"] ["self"] (defScope s_q5) := ⟨rfl, rfl, rfl, by decide +kernel, rfl, by decide +kernel, by decide +kernel⟩
set_option maxHeartbeats 4000000 in
theorem ok_q5 {fd : FuncData} (F : Fun K "numbers" "Book.numbers" s_q5 ad.q5 fd) (T : Txt K mg ad) : FnOk P w K mg base CX0 1 ad.q5 fd ["self"] (spNumbers ad) := by
  refine F.ok sc_q5 (fun vs H Q E h => ?_) (fun cdv A outer s H vs Q E HR h => ?_)
  · obtain ⟨p, d, es, rfl, _⟩ := h
    rfl
  · obtain ⟨p, d, es, rfl, hb, hl, hq⟩ := h
    have ND := sc_q5.nd
    have HU0 := HR.units0
    have HU := HR.units
    have hA := HR.hd
    have hz : (100000 : Nat) ≤ sizeLine := by rw [sizeLine_eq]; decide
    refine ⟨_, (pss_one (ps_ret (pe_callB (call_sortedK rfl) (gl_of g_q5_sorted) T.b_sorted PyProof.Rows.Boot.«sorted» (pa_cons (pe_fld (pe_var (i := 0) (x := "self") rfl (vis_of v_q5_self) d_self e_self) (by rfl)) pa_nil (stp rfl)) (hn := n_sorted) (hdb := d_sorted) (he := stp rfl) (hpl := anp rfl)))), ?_⟩
    obtain ⟨⟨dx, h1⟩, h2⟩ := id hb
    walk_at "RD"
    exact ⟨_, _, _, h1, T.cl_Book, T.n_Book_ways, _, w_ways d, d, rfl, kv es, .inl h2, by rw [kv_len]; exact hl, fun ms hp hs l nl => hq l ms nl (by rw [kv_keys] at hp; exact hp) hs⟩
theorem sc_q20 : FnScope ["self", "number", "way", "other"] ["self", "number", "way"] (defScope s_q20) := ⟨rfl, rfl, rfl, by decide +kernel, rfl, by decide +kernel, by decide +kernel⟩
set_option maxHeartbeats 4000000 in
theorem ok_q20 {fd : FuncData} (F : Fun K "put" "Book.put" s_q20 ad.q20 fd) (T : Txt K mg ad) {fd_q5 : FuncData} (B_q5 : Binds K fd_q5 ["self"] []) (G_q5 : FnOk P w K mg base CX0 1 ad.q5 fd_q5 ["self"] (spNumbers ad)) {fd_q3 : FuncData} (B_q3 : Binds K fd_q3 ["one", "other"] []) (G_q3 : FnOk P w K mg base CX0 4 ad.q3 fd_q3 ["one", "other"] (spFirst)) {fd_q9 : FuncData} (B_q9 : Binds K fd_q9 ["self", "other"] []) (G_q9 : FnOk P w K mg base (CXE P w) 1 ad.q9 fd_q9 ["self", "other"] (spMInit ad)) : FnOk P w K mg base (CXE P w) 5 ad.q20 fd ["self", "number", "way"] (spPut ad) := by
  refine F.okR sc_q20 (fun vs H Q E h => ?_) (fun cdv A outer s H vs Q E HR h => ?_)
  · obtain ⟨p, d, es, n, v, b, c, rfl, _⟩ := h
    rfl
  · obtain ⟨p, d, es, n, v, b, c, rfl, hb, en, hw, ty, hq⟩ := h
    have ND := sc_q20.nd
    have HU0 := HR.units0
    have HU := HR.units
    have hA := HR.hd
    have hz : (100000 : Nat) ≤ sizeLine := by rw [sizeLine_eq]; decide
    refine ⟨_, (pss_cons (ps_for PassesOwn.leaving (calm0 rfl) (pi_list (pe_meth0 (pe_var (i := 0) (x := "self") rfl (vis_of v_q20_self) d_self e_self) T.cl_Book T.m_q5 G_q5 (HR.mono (by decide)) B_q5 .nil pass0)) (pg_name (i := 3) ND rfl (loc_of (Or.inl l_q20_other)))
 (pss_one (ps_if (PW.pt (pw_and (pt_cmpR op_ne (pe_var (i := 3) (x := "other") rfl (vis_of v_q20_other) d_other e_other) (pe_var (i := 1) (x := "number") rfl (vis_of v_q20_number) d_number e_number) (nomark _)) (pw_and1 (pt_cmpR op_notN (pe_call G_q3 (HR.mono (by decide)) (gl_of g_q20_q3) T.mg_q3 T.k_q3 B_q3 .nil pass0 (pa_cons (pe_var (i := 2) (x := "way") rfl (vis_of v_q20_way) d_way e_way) (pa_cons (pe_dget (hu1 HU) (pe_fld (pe_var (i := 0) (x := "self") rfl (vis_of v_q20_self) d_self e_self) (by rfl)) (pe_var (i := 3) (x := "other") rfl (vis_of v_q20_other) d_other e_other) (fun _ _ => rfl)) pa_nil (stp rfl)) (stp rfl)) (hdb := d_q3) (he := stp rfl) (hpl := anp rfl)) pe_non (nomark _)))))
 (pss_one (ps_raiseI xd_fn rfl (gl_of g_q20_Meets) T.mg_Meets T.xi_Meets T.xf_Meets G_q9 (HR.mono (by decide)) B_q9 .nil (pa_cons (pe_var (i := 3) (x := "other") rfl (vis_of v_q20_other) d_other e_other) pa_nil (stp rfl)) (hdb := d_Meets) (he := stp rfl) (hpl := anp rfl)))
 pss_nil)))
 (pss_one (ps_dput (hu1 HU) (pe_fld (pe_var (i := 0) (x := "self") rfl (vis_of v_q20_self) d_self e_self) (by rfl)) (pe_var (i := 1) (x := "number") rfl (vis_of v_q20_number) d_number e_number) (pe_var (i := 2) (x := "way") rfl (vis_of v_q20_way) d_way e_way) rfl))), ?_⟩
    obtain ⟨⟨dx, h1⟩, h2⟩ := id hb
    have el := en.len
    have good : ∀ {b : Int} {c : List Int}, Tiny b c → Good b c := fun h => ⟨h.1, by have := h.2.1; omega, h.2.2.1, by have := h.2.2.2; omega⟩
    walk_at "RD"
    refine ⟨_, _, h1, w_no d (by decide +kernel), p, d, es, rfl, hb, by omega, fun l ms nl hp hs => ⟨l, rfl, ⟨_, SqL.of upd_same⟩, for_list (xs := ms.map V.int) (fun i σ H' => ∃ x, Same (upd H l (.lst (ms.map V.int))) H' ∧ σ = [some (V.ref p), some (V.int n), some v, x] ∧ ∀ e ∈ es, e.k ∈ ms.take i → e.k ≠ n → ¬ Mt b c e.b e.c) ⟨none, Same.refl _, rfl, fun e _ h => by simp at h⟩ ?_ ?_ ?_⟩⟩
    · rintro i σ H' hi ⟨x, s1, rfl, hn⟩
      exact SqL.of (s1 _ _ upd_same)
    · rintro i x σ H' hi ⟨x0, s1, rfl, hn⟩
      obtain ⟨k, hk, rfl⟩ : ∃ k, ms[i]? = some k ∧ V.int k = x := by rw [List.getElem?_map] at hi; exact Option.map_eq_some_iff.mp hi
      obtain ⟨e, he, ek⟩ := List.mem_map.mp (hp.mem_iff.mp (List.mem_iff_getElem?.mpr ⟨i, hk⟩))
      subst ek
      have s2 : Same H H' := (same_new nl).trans s1
      obtain ⟨we, te, _⟩ := en.ok e he
      walk_at "RD"
      by_cases z : e.k = n
      · rw [if_neg (by simp [z])]
        exact ⟨s1, take_more hk hn fun e' _ y1 y2 => absurd (y1.trans z) y2⟩
      · rw [if_pos z]
        refine ⟨_, _, _, s2 _ _ h1, T.cl_Book, T.n_Book_ways, _, w_ways d, d, rfl, e.v, by rw [← val_mem en.nd he]; exact DGet.k (k := .inl e.k) (s2 _ _ h2), v, b, c, e.v, e.b, e.c, rfl, hw.same s2, we.same s2, good ty, good te, fun r H2 o s3 hr hf => ?_⟩
        have s4 := s2.trans s3
        show (if ¬ r = V.non then _ else _)
        have uq : ∀ e' ∈ es, e'.k = e.k → e' = e := fun e' he' y => key_one en.nd he he' y
        cases o with
        | none =>
          rw [if_neg (by simp [show r = V.non from hr])]
          refine ⟨s1.trans s3, take_more hk hn fun e' he' y _ hm => ?_⟩
          rw [uq e' he' y] at hm
          exact absurd ((mt_iff hf).mp hm) (by simp)
        | some w =>
          obtain ⟨t, w⟩ := w
          obtain ⟨r', rfl, hr'⟩ := hr
          rw [if_pos (by simp)]
          have PI := put_hit hp hs hk he z ((mt_iff hf).mpr rfl) hn
          refine ⟨by show 1 ≤ sizeLine; omega, fun a fs sl na => ⟨a, e.k, fs, sl, rfl, upd_same, fun dx n1 n2 => ⟨rfl, dx, upd_same, ?_⟩⟩⟩
          have sd : Same H (del (upd (upd (upd H2 a (HO.ext (XObj a ad.C_Meets none fs sl))) dx (HO.xd (putF "other" (V.int e.k) []))) a (HO.ext (XObj a ad.C_Meets (some dx) fs sl))) a) := fun b' o' hb' => by
            have q1 := s4 _ _ hb'
            have na' : b' ≠ a := ne_of_none q1 na
            have nd' : b' ≠ dx := fun y => by rw [← y, upd_ne na', q1] at n1; cases n1
            rw [del_ne na', upd_ne na', upd_ne nd', upd_ne na']
            exact q1
          exact (hq _ sd).2 e.k dx PI (by rw [del_ne n2, upd_ne n2]; exact upd_same)
    · rintro σ H' ⟨x, s1, rfl, hn⟩
      have s2 : Same H H' := (same_new nl).trans s1
      rw [List.length_map] at hn
      walk_at "RD"
      refine ⟨_, _, _, s2 _ _ h1, T.cl_Book, T.n_Book_ways, _, w_ways d, d, rfl, _, DPut.k (k := .inl n) (s2 _ _ h2) (by rw [dw_len]; omega), ?_⟩
      rw [dw_put es ⟨n, v, b, c⟩]
      exact (hq H' s2).1 (put_end hp hn)
theorem sc_q15 : FnScope ["self", "number"] ["self", "number"] (defScope s_q15) := ⟨rfl, rfl, rfl, by decide +kernel, rfl, by decide +kernel, by decide +kernel⟩
set_option maxHeartbeats 4000000 in
theorem ok_q15 {fd : FuncData} (F : Fun K "drop" "Book.drop" s_q15 ad.q15 fd) (T : Txt K mg ad) {fd_q0 : FuncData} (B_q0 : Binds K fd_q0 ["self", "number"] []) (G_q0 : FnOk P w K mg base (CXE P w) 2 ad.q0 fd_q0 ["self", "number"] (spCheck ad)) : FnOk P w K mg base (CXE P w) 3 ad.q15 fd ["self", "number"] (spDrop ad) := by
  refine F.okR sc_q15 (fun vs H Q E h => ?_) (fun cdv A outer s H vs Q E HR h => ?_)
  · obtain ⟨p, d, es, n, rfl, _⟩ := h
    rfl
  · obtain ⟨p, d, es, n, rfl, hb, nd, hq, he⟩ := h
    have ND := sc_q15.nd
    have HU0 := HR.units0
    have HU := HR.units
    have hA := HR.hd
    have hz : (100000 : Nat) ≤ sizeLine := by rw [sizeLine_eq]; decide
    refine ⟨_, (pss_cons (ps_expr (pe_methX (pe_var (i := 0) (x := "self") rfl (vis_of v_q15_self) d_self e_self) T.cl_Book T.m_q0 G_q0 (HR.mono (by decide)) B_q0 .nil xw_fn.toXC (pa_cons (pe_var (i := 1) (x := "number") rfl (vis_of v_q15_number) d_number e_number) pa_nil (stp rfl)) (hst := stp rfl) (hpl := anp rfl)))
 (pss_one (ps_expr (pe_dpop1 (pe_fld (pe_var (i := 0) (x := "self") rfl (vis_of v_q15_self) d_self e_self) (by rfl)) (pe_var (i := 1) (x := "number") rfl (vis_of v_q15_number) d_number e_number) ⟨rfl, rfl, rfl, rfl⟩)))), ?_⟩
    obtain ⟨⟨dx, h1⟩, h2⟩ := id hb
    walk_at "RD"
    refine ⟨_, _, h1, w_no d (by decide +kernel), p, d, es, n, rfl, hb, fun ⟨e, he, ek⟩ => ⟨_, _, _, h1, T.cl_Book, T.n_Book_ways, _, w_ways d, d, rfl, .inl ⟨_, .inl h2⟩, _, h2, .inl n, rfl, e.v, by rw [← ek]; exact val_mem nd he, ?_⟩, he⟩
    rw [dw_drop]
    exact hq ⟨e, he, ek⟩
theorem sc_q8 : FnScope ["self", "book"] ["self"] (defScope s_q8) := ⟨rfl, rfl, rfl, by decide +kernel, rfl, by decide +kernel, by decide +kernel⟩
set_option maxHeartbeats 4000000 in
theorem ok_q8 {fd : FuncData} (F : Fun K "copied" "Book.copied" s_q8 ad.q8 fd) (T : Txt K mg ad) {fd_q14 : FuncData} (B_q14 : Binds K fd_q14 ["self"] []) (G_q14 : FnOk P w K mg base CX0 1 ad.q14 fd_q14 ["self"] (spBInit ad)) : FnOk P w K mg base CX0 3 ad.q8 fd ["self"] (spCopied ad) := by
  refine F.ok sc_q8 (fun vs H Q E h => ?_) (fun cdv A outer s H vs Q E HR h => ?_)
  · obtain ⟨p, d, es, rfl, _⟩ := h
    rfl
  · obtain ⟨p, d, es, rfl, hb, hq⟩ := h
    have ND := sc_q8.nd
    have HU0 := HR.units0
    have HU := HR.units
    have hA := HR.hd
    have hz : (100000 : Nat) ≤ sizeLine := by rw [sizeLine_eq]; decide
    refine ⟨_, (pss_cons (ps_set (i := 1) ND rfl (loc_of (Or.inl l_q8_book)) (pe_make0 T.mk_Book G_q14 (HR.mono (by decide)) (gl_of g_q8_Book) T.mg_Book B_q14 .nil pass0 (hdb := d_Book)))
 (pss_cons (ps_fld (pe_var (i := 1) (x := "book") rfl (vis_of v_q8_book) d_book e_book) (pe_callTy call_dictK (gl_of g_q8_dict) T.b_dict PyProof.Rows.Boot.«dict» (pa_cons (pe_fld (pe_var (i := 0) (x := "self") rfl (vis_of v_q8_self) d_self e_self) (by rfl)) pa_nil (stp rfl)) (hn := n_dict) (hdb := d_dict) (he := stp rfl) (hpl := anp rfl)) rfl)
 (pss_one (ps_ret (pe_var (i := 1) (x := "book") rfl (vis_of v_q8_book) d_book e_book))))), ?_⟩
    obtain ⟨⟨dx, h1⟩, h2⟩ := id hb
    walk_at "RD"
    intro x dx' nx nd ne
    have S1 : Same H (upd (upd H dx' (HO.own x)) x (HO.ins ad.C_Book dx' [])) := same_upd (same_new nd) nx
    refine ⟨x, dx', rfl, upd_same, fun d' nd' => ⟨rfl, ?_⟩⟩
    have nd0 : H d' = none := S1.free nd'
    have xd' : x ≠ d' := fun z => by rw [← z, upd_same] at nd'; cases nd'
    have S2 : Same H (upd (upd (upd (upd H dx' (HO.own x)) x (HO.ins ad.C_Book dx' [])) d' (HO.dK [])) x (HO.ins ad.C_Book dx' (wl d'))) := same_upd (same_upd S1 nd0) nx
    refine ⟨_, _, _, S2 _ _ h1, T.cl_Book, T.n_Book_ways, _, w_ways d, d, rfl, _, S2 _ _ h2, fun l nl => ⟨_, _, _, (same_new nl) _ _ upd_same, T.cl_Book, T.n_Book_ways, by show 1 < 1000; decide, ?_⟩⟩
    rw [wl_put]
    have lx : l ≠ x := fun z => by rw [z, upd_same] at nl; cases nl
    exact hq x l _ (same_upd (same_upd S2 (S2.free nl)) nx) nx (S2.free nl) ⟨⟨_, upd_same⟩, by rw [upd_ne lx]; exact upd_same⟩
theorem sc_q21 : FnScope ["self", "cell", "time", "number"] ["self", "cell", "time"] (defScope s_q21) := ⟨rfl, rfl, rfl, by decide +kernel, rfl, by decide +kernel, by decide +kernel⟩
set_option maxHeartbeats 4000000 in
theorem ok_q21 {fd : FuncData} (F : Fun K "who" "Book.who" s_q21 ad.q21 fd) (T : Txt K mg ad) {fd_q19 : FuncData} (B_q19 : Binds K fd_q19 ["way", "time"] []) (G_q19 : FnOk P w K mg base CX0 2 ad.q19 fd_q19 ["way", "time"] (spPlace)) : FnOk P w K mg base CX0 3 ad.q21 fd ["self", "cell", "time"] (spWho ad) := by
  refine F.ok sc_q21 (fun vs H Q E h => ?_) (fun cdv A outer s H vs Q E HR h => ?_)
  · obtain ⟨p, d, es, cell, t, rfl, _⟩ := h
    rfl
  · obtain ⟨p, d, es, cell, t, rfl, hb, hq⟩ := h
    have ND := sc_q21.nd
    have HU0 := HR.units0
    have HU := HR.units
    have hA := HR.hd
    have hz : (100000 : Nat) ≤ sizeLine := by rw [sizeLine_eq]; decide
    refine ⟨_, (pss_cons (ps_thawK (ps_for PassesOwn.never (calm0 rfl) (pi_dictK (pe_fld (pe_var (i := 0) (x := "self") rfl (vis_of v_q21_self) d_self e_self) (by rfl))) (pg_name (i := 3) ND rfl (loc_of (Or.inl l_q21_number)))
 (pss_one (ps_if (pt_cmpR op_eq (pe_call G_q19 (HR.mono (by decide)) (gl_of g_q21_q19) T.mg_q19 T.k_q19 B_q19 .nil pass0 (pa_cons (pe_dget (hu1 HU) (pe_fld (pe_var (i := 0) (x := "self") rfl (vis_of v_q21_self) d_self e_self) (by rfl)) (pe_var (i := 3) (x := "number") rfl (vis_of v_q21_number) d_number e_number) (fun _ _ => rfl)) (pa_cons (pe_var (i := 2) (x := "time") rfl (vis_of v_q21_time) d_time e_time) pa_nil (stp rfl)) (stp rfl)) (hdb := d_q19) (he := stp rfl) (hpl := anp rfl)) (pe_var (i := 1) (x := "cell") rfl (vis_of v_q21_cell) d_cell e_cell) (nomark _))
 (pss_one (ps_ret (pe_var (i := 3) (x := "number") rfl (vis_of v_q21_number) d_number e_number)))
 pss_nil))))
 (pss_one (ps_ret pe_non))), ?_⟩
    obtain ⟨⟨⟨dx, h1⟩, h2⟩, en⟩ := id hb
    have nt : ∀ xs, H d ≠ some (.tup xs) := fun xs z => by rw [h2] at z; cases z
    walk_at "RD"
    refine .inl ⟨d, dw es, h2, _, _, _, h1, T.cl_Book, T.n_Book_ways, _, w_ways d, d, rfl, dw es, .inl ⟨h2, fun o => for_dictK (fun i σ H' => ∃ x, SameB d H H' ∧ H' d = some (.frz o (.dK (dw es))) ∧ σ = [some (V.ref p), some (V.int cell), some (V.int t), x] ∧ ∀ (j : Nat) (e : Ent), j < i → es[j]? = some e → plc e.b e.c t ≠ .int cell) ⟨none, sameB_upd (same_b (Same.refl _)), upd_same, rfl, fun j e hj => absurd hj (Nat.not_lt_zero j)⟩ (fun i σ H' _ ⟨_, _, hf, _⟩ => hf) ?_ ?_⟩⟩
    · rintro i k v σ H' hi ⟨x, sB, hf, rfl, hn⟩
      obtain ⟨e, he, rfl, rfl⟩ := dw_at hi
      have hm := List.mem_of_getElem? he
      have hp' := sB _ _ h1 (ne_of h1 h2 (by intro z; cases z))
      have wy := WayAt.tups (sB.tups nt) (en.ok e hm).1
      walk_at "RD"
      refine ⟨_, _, _, hp', T.cl_Book, T.n_Book_ways, _, w_ways d, d, rfl, e.v, fz_get hf en.nd hm, e.v, e.b, e.c, t, rfl, wy, (en.ok e hm).2.1.1, sc_plc (plc_or _ _ _) (.inr ⟨_, rfl⟩), ?_⟩
      split
      · rename_i z
        have := hq _ (thaw_same h2 sB)
        rw [who_at hn he z] at this
        exact ⟨⟨o, hf⟩, this⟩
      · rename_i z
        refine ⟨sB, hf, fun j e' hj he' => ?_⟩
        rcases Nat.lt_succ_iff_lt_or_eq.mp hj with y | y
        · exact hn j e' y he'
        · rw [y, he] at he'
          cases he'
          exact z
    · rintro σ H' ⟨x, sB, hf, rfl, hn⟩
      have := hq _ (thaw_same h2 sB)
      rw [who_no (fun i e hi => hn i e (by rw [dw_len]; exact (List.getElem?_eq_some_iff.mp hi).1) hi)] at this
      exact ⟨⟨o, hf⟩, this⟩
theorem sc_q1 : FnScope ["self", "number"] ["self", "number"] (defScope s_q1) := ⟨rfl, rfl, rfl, by decide +kernel, rfl, by decide +kernel, by decide +kernel⟩
set_option maxHeartbeats 4000000 in
theorem ok_q1 {fd : FuncData} (F : Fun K "ways_beside" "Book.ways_beside" s_q1 ad.q1 fd) (T : Txt K mg ad) : FnOk P w K mg base CX0 1 ad.q1 fd ["self", "number"] (spBeside ad) := by
  refine F.ok sc_q1 (fun vs H Q E h => ?_) (fun cdv A outer s H vs Q E HR h => ?_)
  · obtain ⟨p, d, es, n, rfl, _⟩ := h
    rfl
  · obtain ⟨p, d, es, n, rfl, hb, hq⟩ := h
    have ND := sc_q1.nd
    have HU0 := HR.units0
    have HU := HR.units
    have hA := HR.hd
    have hz : (100000 : Nat) ≤ sizeLine := by rw [sizeLine_eq]; decide
    refine ⟨_, (pss_one (ps_ret (pe_thawK (pe_comp (CompScope.of (osc := defScope s_q1) (tn := ["other"]) (cn := ["self", "number"]) (caps := [0, 1]) rfl rfl (by decide +kernel) (by decide +kernel) (by decide +kernel) (by decide +kernel) rfl) (calm0 rfl)  (pi_dictK (pe_fld (pe_var (i := 0) (x := "self") rfl (vis_of v_q1_self) d_self e_self) (by rfl)))
 (fun _ _ _ _ _ => (pg_name (i := 0) (show (["other", "self", "number"] : List Str).Nodup by decide +kernel) rfl (Or.inl rfl))) (fun _ _ _ _ _ => (pts_one (pt_cmpR op_ne (pv 0) (pv 2) (nomark _)))) (fun _ _ _ _ _ => (pe_dget (hu1 HU) (pe_fldK (K := K) rfl (pv 1) (by rfl)) (pv 0) (fun _ _ => rfl))))))), ?_⟩
    obtain ⟨⟨⟨dx, h1⟩, h2⟩, en⟩ := id hb
    have nt : ∀ xs, H d ≠ some (.tup xs) := fun xs z => by rw [h2] at z; cases z
    have el := en.len
    walk_at "RD"
    refine .inl ⟨d, dw es, h2, _, _, _, h1, T.cl_Book, T.n_Book_ways, _, w_ways d, d, rfl, dw es, .inl ⟨h2, fun o => comp_pure (src_dictK upd_same) (neV n) (atV es) (fun y hy Q' hh => ?_) (fun y hy hn Q' hh => ?_) (by rw [List.length_map, dw_len]; omega) (fun D nD => ?_)⟩⟩
    · rw [dw_keys] at hy
      obtain ⟨e, he, rfl⟩ := List.mem_map.mp hy
      walk_at "RD"
      rw [show (!decide (e.k = n)) = neV n (V.int e.k) by simp [neV]]
      exact hh
    · rw [dw_keys] at hy
      obtain ⟨e, he, rfl⟩ := List.mem_map.mp hy
      walk_at "RD"
      rw [show atV es (.int e.k) = e.v by show (valV (dw es) (Sum.inl e.k)).getD .non = _; rw [val_mem en.nd he]; rfl] at hh
      exact ⟨_, _, _, by rw [upd_ne (ne_of h1 h2 (by intro z; cases z))]; exact h1, T.cl_Book, T.n_Book_ways, _, w_ways d, d, rfl, e.v, fz_get upd_same en.nd he, hh⟩
    · have Dd : D ≠ d := fun z => by rw [z, upd_same] at nD; cases nD
      have nD0 : H D = none := by rw [upd_ne Dd] at nD; exact nD
      rw [beside_map es n (atV es) (·.v) (fun e he => by show (valV (dw es) (Sum.inl e.k)).getD .non = _; rw [val_mem en.nd he]; rfl)]
      refine ⟨⟨o, by rw [upd_ne Dd.symm, upd_same]⟩, hq D _ nD0 (thaw_same h2 ((sameB_upd (same_b (Same.refl _))).new nD)) (by rw [upd_ne Dd, upd_same])⟩
theorem sc_q7 : FnScope ["self", "number", "time", "places", "way", "later"] ["self", "number", "time"] (defScope s_q7) := ⟨rfl, rfl, rfl, by decide +kernel, rfl, by decide +kernel, by decide +kernel⟩
set_option maxHeartbeats 4000000 in
theorem ok_q7 {fd : FuncData} (F : Fun K "comings" "Book.comings" s_q7 ad.q7 fd) (T : Txt K mg ad) {fd_q1 : FuncData} (B_q1 : Binds K fd_q1 ["self", "number"] []) (G_q1 : FnOk P w K mg base CX0 1 ad.q1 fd_q1 ["self", "number"] (spBeside ad)) {fd_q19 : FuncData} (B_q19 : Binds K fd_q19 ["way", "time"] []) (G_q19 : FnOk P w K mg base CX0 2 ad.q19 fd_q19 ["way", "time"] (spPlace)) : FnOk P w K mg base CX0 3 ad.q7 fd ["self", "number", "time"] (spComings ad) := by
  refine F.ok sc_q7 (fun vs H Q E h => ?_) (fun cdv A outer s H vs Q E HR h => ?_)
  · obtain ⟨p, d, es, n, t, rfl, _⟩ := h
    rfl
  · obtain ⟨p, d, es, n, t, rfl, hb, hq⟩ := h
    have ND := sc_q7.nd
    have HU0 := HR.units0
    have HU := HR.units
    have hA := HR.hd
    have hz : (100000 : Nat) ≤ sizeLine := by rw [sizeLine_eq]; decide
    refine ⟨_, (pss_cons (ps_set (i := 3) ND rfl (loc_of (Or.inl l_q7_places)) pe_dnewK)
 (pss_cons (ps_for PassesOwn.never (calm0 rfl) (pi_list (pe_meth (pe_var (i := 0) (x := "self") rfl (vis_of v_q7_self) d_self e_self) T.cl_Book T.m_q1 G_q1 (HR.mono (by decide)) B_q1 .nil pass0 (pa_cons (pe_var (i := 1) (x := "number") rfl (vis_of v_q7_number) d_number e_number) pa_nil (stp rfl)) (hst := stp rfl) (hpl := anp rfl))) (pg_name (i := 4) ND rfl (loc_of (Or.inl l_q7_way)))
 (pss_cons (ps_set (i := 5) ND rfl (loc_of (Or.inl l_q7_later)) (pe_call G_q19 (HR.mono (by decide)) (gl_of g_q7_q19) T.mg_q19 T.k_q19 B_q19 .nil pass0 (pa_cons (pe_var (i := 4) (x := "way") rfl (vis_of v_q7_way) d_way e_way) (pa_cons (pe_op op_add (pe_var (i := 2) (x := "time") rfl (vis_of v_q7_time) d_time e_time) pe_int) pa_nil (stp rfl)) (stp rfl)) (hdb := d_q19) (he := stp rfl) (hpl := anp rfl)))
 (pss_one (ps_if (pt_cmpR op_notN (pe_var (i := 5) (x := "later") rfl (vis_of v_q7_later) d_later e_later) pe_non (nomark _))
 (pss_one (ps_dput (hu1 HU) (pe_var (i := 3) (x := "places") rfl (vis_of v_q7_places) d_places e_places) (pe_var (i := 5) (x := "later") rfl (vis_of v_q7_later) d_later e_later) (pe_call G_q19 (HR.mono (by decide)) (gl_of g_q7_q19) T.mg_q19 T.k_q19 B_q19 .nil pass0 (pa_cons (pe_var (i := 4) (x := "way") rfl (vis_of v_q7_way) d_way e_way) (pa_cons (pe_var (i := 2) (x := "time") rfl (vis_of v_q7_time) d_time e_time) pa_nil (stp rfl)) (stp rfl)) (hdb := d_q19) (he := stp rfl) (hpl := anp rfl)) rfl))
 pss_nil))))
 (pss_one (ps_ret (pe_var (i := 3) (x := "places") rfl (vis_of v_q7_places) d_places e_places))))), ?_⟩
    obtain ⟨⟨⟨dx, h1⟩, h2⟩, en⟩ := id hb
    have nt : ∀ xs, H d ≠ some (.tup xs) := fun xs z => by rw [h2] at z; cases z
    walk_at "RD"
    intro q nq
    have s1 := same_new (o := HO.dK []) nq
    have qd : q ≠ d := (ne_of_none h2 nq).symm
    refine ⟨_, _, s1 _ _ h1, w_no d (by decide +kernel), p, d, es, n, rfl, hb.same s1, fun l H1 nl s2 hl => ⟨l, rfl, ⟨_, SqL.of hl⟩, for_list (xs := (besd es n).map (·.v)) (fun i σ H' => ∃ (x y : Option V) (kvs : List (Key × V)), SameB q H1 H' ∧ H' q = some (.dK kvs) ∧ ComIs ((besd es n).take i) t kvs ∧ σ = [some (V.ref p), some (V.int n), some (V.int t), some (V.ref q), x, y]) ⟨none, none, [], same_b (Same.refl _), s2 _ _ upd_same, com_nil, rfl⟩ ?_ ?_ ?_⟩⟩
    · rintro i σ H' _ ⟨x, y, kvs, sB, hq', hc, rfl⟩
      exact SqL.of (sB _ _ hl (ne_of hl (s2 _ _ upd_same) (by intro z; cases z)))
    · rintro i x σ H' hx ⟨x0, y0, kvs, sB, hq', hc, rfl⟩
      rw [List.getElem?_map] at hx
      obtain ⟨e, he, rfl⟩ := Option.map_eq_some_iff.mp hx
      have hm := (besd_in.mp (List.mem_of_getElem? he)).1
      have wy := WayAt.tups (sB.tups (fun xs z => by rw [s2 _ _ upd_same] at z; cases z)) ((en.ok e hm).1.same (s1.trans s2))
      have cn := (en.ok e hm).2.1.1
      have tk : (besd es n).take (i + 1) = (besd es n).take i ++ [e] := by rw [List.take_add_one, he]; rfl
      have kl : kvs.length ≤ 7 := by
        have a1 := hc.len
        have a2 := (en.drop n).len
        rw [List.length_take] at a1
        unfold besd at a1
        omega
      rw [tk]
      walk_at "RD"
      refine ⟨e.v, e.b, e.c, t + 1, rfl, wy, cn, ?_⟩
      rcases plc_or e.b e.c (t + 1) with z | ⟨z0, z⟩
      · rw [z, if_neg (by simp)]
        exact ⟨sB, _, _, kvs, hq', com_skip hc z, rfl, rfl⟩
      · rw [z, if_pos (by simp)]
        exact ⟨e.v, e.b, e.c, t, rfl, wy, cn, _, DPut.k (k := .inl z0) hq' (by omega), sameB_upd sB, _, _, _, upd_same, com_put hc z (fun j => valV_put _ _ _ _) (by unfold putK; split <;> simp), rfl, rfl⟩
    · rintro σ H' ⟨x, y, kvs, sB, hq', hc, rfl⟩
      rw [List.length_map, List.take_length] at hc
      walk_at "RD"
      exact hq q kvs H' nq (fun b o hb' => sB _ _ ((s1.trans s2) b o hb') (ne_of_none hb' nq)) hq' hc
theorem sc_q22 : FnScope ["comings", "cell", "other"] ["comings", "cell", "other"] (defScope s_q22) := ⟨rfl, rfl, rfl, by decide +kernel, rfl, by decide +kernel, by decide +kernel⟩
set_option maxHeartbeats 4000000 in
theorem ok_q22 {fd : FuncData} (F : Fun K "is_clear" "is_clear" s_q22 ad.q22 fd) (T : Txt K mg ad) : FnOk P w K mg base CX0 1 ad.q22 fd ["comings", "cell", "other"] (spClear) := by
  refine F.ok sc_q22 (fun vs H Q E h => ?_) (fun cdv A outer s H vs Q E HR h => ?_)
  · obtain ⟨l, kvs, cell, other, rfl, _⟩ := h
    rfl
  · obtain ⟨l, kvs, cell, other, rfl, hl, hv, hq⟩ := h
    have ND := sc_q22.nd
    have HU0 := HR.units0
    have HU := HR.units
    have hA := HR.hd
    have hz : (100000 : Nat) ≤ sizeLine := by rw [sizeLine_eq]; decide
    refine ⟨_, (pss_one (ps_ret (pe_and (pe_cmp (pc_dnotin (hu1 HU) (pe_var (i := 2) (x := "other") rfl (vis_of v_q22_other) d_other e_other) (pe_var (i := 0) (x := "comings") rfl (vis_of v_q22_comings) d_comings e_comings)) (by with_unfolding_all rfl)) (pe_one (pe_cmpR (op_neD HU) (pe_dget1 (hu1 HU) (pe_var (i := 0) (x := "comings") rfl (vis_of v_q22_comings) d_comings e_comings) (pe_var (i := 1) (x := "cell") rfl (vis_of v_q22_cell) d_cell e_cell) ⟨rfl, rfl, rfl, rfl⟩) (pe_var (i := 2) (x := "other") rfl (vis_of v_q22_other) d_other e_other) (nomark _)))))), ?_⟩
    have dg : ∀ z : Int, DGet H l (.int z) (valV kvs (.inl z)) := fun z => DGet.k (k := .inl z) hl
    walk_at "RD"
    refine ⟨_, dg other, ?_⟩
    cases h1 : valV kvs (.inl other) with
    | some x =>
      rw [if_neg (by simp)]
      exact hq false (by rw [h1]; simp)
    | none =>
      rw [if_pos (by rfl)]
      refine ⟨.inl ⟨_, .inl hl⟩, _, dg cell, ?_⟩
      have oi : (valV kvs (.inl cell)).getD .non = .non ∨ ∃ i, (valV kvs (.inl cell)).getD .non = .int i := by
        cases h2 : valV kvs (.inl cell) with
        | none => exact .inl rfl
        | some v => exact hv cell v h2
      rcases oi with e | ⟨i, e⟩ <;> rw [e]
      · refine ⟨_, .non, _, .int other, rfl, rfl, ?_⟩
        exact hq true (by rw [h1, e]; simp)
      · refine ⟨_, .int i, _, .int other, rfl, rfl, ?_⟩
        have : (!PyData.eqv (.int i) (.int other)) = decide (i ≠ other) := by show (!(i == other)) = _; by_cases z : i = other <;> simp [z]
        rw [this]
        exact hq _ (by rw [h1, e]; simp)
theorem sc_q6 : FnScope ["self", "number", "cell", "other", "time"] ["self", "number", "cell", "other", "time"] (defScope s_q6) := ⟨rfl, rfl, rfl, by decide +kernel, rfl, by decide +kernel, by decide +kernel⟩
set_option maxHeartbeats 4000000 in
theorem ok_q6 {fd : FuncData} (F : Fun K "is_open" "Book.is_open" s_q6 ad.q6 fd) (T : Txt K mg ad) {fd_q7 : FuncData} (B_q7 : Binds K fd_q7 ["self", "number", "time"] []) (G_q7 : FnOk P w K mg base CX0 3 ad.q7 fd_q7 ["self", "number", "time"] (spComings ad)) {fd_q22 : FuncData} (B_q22 : Binds K fd_q22 ["comings", "cell", "other"] []) (G_q22 : FnOk P w K mg base CX0 1 ad.q22 fd_q22 ["comings", "cell", "other"] (spClear)) : FnOk P w K mg base CX0 4 ad.q6 fd ["self", "number", "cell", "other", "time"] (spIsOpen ad) := by
  refine F.ok sc_q6 (fun vs H Q E h => ?_) (fun cdv A outer s H vs Q E HR h => ?_)
  · obtain ⟨p, d, es, n, cell, other, t, rfl, _⟩ := h
    rfl
  · obtain ⟨p, d, es, n, cell, other, t, rfl, hb, ha, hq⟩ := h
    have ND := sc_q6.nd
    have HU0 := HR.units0
    have HU := HR.units
    have hA := HR.hd
    have hz : (100000 : Nat) ≤ sizeLine := by rw [sizeLine_eq]; decide
    refine ⟨_, (pss_one (ps_ret (pe_call G_q22 (HR.mono (by decide)) (gl_of g_q6_q22) T.mg_q22 T.k_q22 B_q22 .nil pass0 (pa_cons (pe_meth (pe_var (i := 0) (x := "self") rfl (vis_of v_q6_self) d_self e_self) T.cl_Book T.m_q7 G_q7 (HR.mono (by decide)) B_q7 .nil pass0 (pa_cons (pe_var (i := 1) (x := "number") rfl (vis_of v_q6_number) d_number e_number) (pa_cons (pe_var (i := 4) (x := "time") rfl (vis_of v_q6_time) d_time e_time) pa_nil (stp rfl)) (stp rfl)) (hst := stp rfl) (hpl := anp rfl)) (pa_cons (pe_var (i := 2) (x := "cell") rfl (vis_of v_q6_cell) d_cell e_cell) (pa_cons (pe_var (i := 3) (x := "other") rfl (vis_of v_q6_other) d_other e_other) pa_nil (stp rfl)) (stp rfl)) (stp rfl)) (hdb := d_q22) (he := stp rfl) (hpl := anp rfl)))), ?_⟩
    obtain ⟨⟨⟨dx, h1⟩, h2⟩, en⟩ := id hb
    have nt : ∀ xs, H d ≠ some (.tup xs) := fun xs z => by rw [h2] at z; cases z
    walk_at "RD"
    refine ⟨_, _, h1, w_no d (by decide +kernel), p, d, es, n, t, rfl, hb, fun l kvs H1 nl s1 hl hc => ⟨l, kvs, cell, other, rfl, hl, fun z v hz => ?_, fun b hb' => hq _ b s1 (hb'.trans (open_iff hc (ha.sub fun x hx => (besd_in.mp hx).1) (en.drop n).nd))⟩⟩
    obtain ⟨e, _, _, hv⟩ := hc.from' z v hz
    rw [← hv]
    exact plc_or _ _ _
theorem sc_q10 : FnScope ["self", "number"] ["self", "number"] (defScope s_q10) := ⟨rfl, rfl, rfl, by decide +kernel, rfl, by decide +kernel, by decide +kernel⟩
set_option maxHeartbeats 4000000 in
theorem ok_q10 {fd : FuncData} (F : Fun K "quiet" "Book.quiet" s_q10 ad.q10 fd) (T : Txt K mg ad) {fd_q1 : FuncData} (B_q1 : Binds K fd_q1 ["self", "number"] []) (G_q1 : FnOk P w K mg base CX0 1 ad.q1 fd_q1 ["self", "number"] (spBeside ad)) {fd_q13 : FuncData} (B_q13 : Binds K fd_q13 ["way"] []) (G_q13 : FnOk P w K mg base CX0 1 ad.q13 fd_q13 ["way"] (spLast)) : FnOk P w K mg base CX0 2 ad.q10 fd ["self", "number"] (spQuiet ad) := by
  refine F.ok sc_q10 (fun vs H Q E h => ?_) (fun cdv A outer s H vs Q E HR h => ?_)
  · obtain ⟨p, d, es, n, rfl, _⟩ := h
    rfl
  · obtain ⟨p, d, es, n, rfl, hb, hq⟩ := h
    have ND := sc_q10.nd
    have HU0 := HR.units0
    have HU := HR.units
    have hA := HR.hd
    have hz : (100000 : Nat) ≤ sizeLine := by rw [sizeLine_eq]; decide
    refine ⟨_, (pss_one (ps_ret (pe_maxD rfl (gl_of g_q10_max) T.b_max (pa_cons (pe_comp (CompScope.of (osc := defScope s_q10) (tn := ["way"]) (cn := []) (caps := []) rfl rfl (by decide +kernel) (by decide +kernel) (by decide +kernel) (by decide +kernel) rfl) (calm0 rfl)  (pi_list (pe_meth (pe_var (i := 0) (x := "self") rfl (vis_of v_q10_self) d_self e_self) T.cl_Book T.m_q1 G_q1 (HR.mono (by decide)) B_q1 .nil pass0 (pa_cons (pe_var (i := 1) (x := "number") rfl (vis_of v_q10_number) d_number e_number) pa_nil (stp rfl)) (hst := stp rfl) (hpl := anp rfl)))
 (fun _ _ _ _ _ => (pg_name (i := 0) (show (["way"] : List Str).Nodup by decide +kernel) rfl (Or.inl rfl))) (fun _ _ _ _ _ => pts_nil) (fun _ _ _ _ _ => (pe_call G_q13 (HR.mono (by decide)) (by rfl) T.mg_q13 T.k_q13 B_q13 .nil pass0 (pa_cons (pv 0) pa_nil (stp rfl)) (hdb := d_q13) (he := stp rfl) (hpl := anp rfl)))) pa_nil (stp rfl)) pe_int (st1 rfl)))), ?_⟩
    obtain ⟨⟨⟨dx, h1⟩, h2⟩, en⟩ := id hb
    have nt : ∀ xs, H d ≠ some (.tup xs) := fun xs z => by rw [h2] at z; cases z
    have el := en.len
    walk_at "RD"
    refine ⟨_, _, h1, w_no d (by decide +kernel), p, d, es, n, rfl, hb, fun l H1 nl s1 hl => ⟨l, rfl, ⟨_, SqL.of hl⟩, comp_of (as := besd es n) (u := (·.v)) (g := fun e => .int (lastT e)) (src_list (SqL.of hl)) (fun _ => true) (fun y hy Q' hh => hh) (fun e he _ Q' hh => ?_) (by have := (en.drop n).len; unfold besd; omega) fun D nD => ?_⟩⟩
    · have hm := (besd_in.mp he).1
      walk_at "RD"
      exact ⟨_, e.b, e.c, rfl, (en.ok e hm).1.same s1, hh⟩
    · rw [List.filter_eq_self.mpr (fun _ _ => rfl)]
      refine ⟨(besd es n).map lastT, SqL.of (by rw [upd_same, List.map_map]; rfl), fun m hm => hq _ m (s1.trans (same_new nD)) hm⟩
theorem sc_q16 : FnScope ["way", "cell", "left", "index", "place"] ["way", "cell"] (defScope s_q16) := ⟨rfl, rfl, rfl, by decide +kernel, rfl, by decide +kernel, by decide +kernel⟩
set_option maxHeartbeats 4000000 in
theorem ok_q16 {fd : FuncData} (F : Fun K "left_from" "left_from" s_q16 ad.q16 fd) (T : Txt K mg ad) : FnOk P w K mg base CX0 1 ad.q16 fd ["way", "cell"] (spLeft) := by
  refine F.ok sc_q16 (fun vs H Q E h => ?_) (fun cdv A outer s H vs Q E HR h => ?_)
  · obtain ⟨v, b, c, cell, rfl, _⟩ := h
    rfl
  · obtain ⟨v, b, c, cell, rfl, hw, hq⟩ := h
    have ND := sc_q16.nd
    have HU0 := HR.units0
    have HU := HR.units
    have hA := HR.hd
    have hz : (100000 : Nat) ≤ sizeLine := by rw [sizeLine_eq]; decide
    refine ⟨_, (pss_cons (ps_set (i := 2) ND rfl (loc_of (Or.inl l_q16_left)) pe_int)
 (pss_cons (ps_for PassesOwn.never (calm0 rfl) (pi_enum (gl_of g_q16_enumerate) T.b_enumerate (pa_cons (pe_ix ix_tup (pe_var (i := 0) (x := "way") rfl (vis_of v_q16_way) d_way e_way) pe_int (fun _ _ => rfl)) pa_nil (stp rfl)) (st1 rfl)) (pg_tup (n := 2) (calm0 rfl) (pgs_cons (pg_name (i := 3) ND rfl (loc_of (Or.inl l_q16_index))) (pgs_cons (pg_name (i := 4) ND rfl (loc_of (Or.inl l_q16_place))) pgs_nil)))
 (pss_one (ps_if (pt_cmpR op_eq (pe_var (i := 4) (x := "place") rfl (vis_of v_q16_place) d_place e_place) (pe_var (i := 1) (x := "cell") rfl (vis_of v_q16_cell) d_cell e_cell) (nomark _))
 (pss_one (ps_set (i := 2) ND rfl (loc_of (Or.inl l_q16_left)) (pe_op op_add (pe_op op_add (pe_ix ix_tup (pe_var (i := 0) (x := "way") rfl (vis_of v_q16_way) d_way e_way) pe_int (fun _ _ => rfl)) (pe_var (i := 3) (x := "index") rfl (vis_of v_q16_index) d_index e_index)) pe_int)))
 pss_nil)))
 (pss_one (ps_ret (pe_var (i := 2) (x := "left") rfl (vis_of v_q16_left) d_left e_left))))), ?_⟩
    obtain ⟨q, w, rfl, h1, h2⟩ := id hw
    walk_at "RD"
    refine ⟨_, SqT.of h1, _, rfl, w, rfl, _, SqT.of h2, for_enum (xs := c.map V.int) (fun i σ H' => ∃ (k : Int) (x y : Option V), Same H H' ∧ LeftIs b c cell k i ∧ σ = [some (V.ref q), some (V.int cell), some (V.int k), x, y]) ⟨0, none, none, Same.refl _, .inl ⟨rfl, fun i hi => absurd hi (Nat.not_lt_zero i)⟩, rfl⟩ (fun i σ H' ⟨_, _, _, s, _⟩ => SqT.of (s _ _ h2)) ?_ ?_⟩
    · rintro i x σ H' T' hx ⟨k, x0, y0, s, hl, rfl⟩ nT
      rw [List.getElem?_map] at hx
      obtain ⟨z, hz, rfl⟩ := Option.map_eq_some_iff.mp hx
      have st := left_step hl hz
      have s' := s.trans (same_new (o := HO.tup [V.int (i : Nat), V.int z]) nT)
      walk_at "RD"
      refine ⟨_, SqT.of upd_same, rfl, _, _, rfl, _, _, rfl, rfl, rfl, ?_⟩
      split
      · rename_i y
        rw [if_pos (V.int.inj y)] at st
        exact ⟨_, SqT.of (s' _ _ h1), _, rfl, b, rfl, _, rfl, s', _, st, rfl, _, rfl⟩
      · rename_i y
        rw [if_neg (fun w => y (by rw [w]))] at st
        exact ⟨s', _, st, rfl, _, rfl⟩
    · rintro σ H' ⟨k, x0, y0, s, hl, rfl⟩
      rw [List.length_map] at hl
      walk_at "RD"
      exact hq _ k s hl
theorem sc_q2 : FnScope ["self", "number", "cell", "free", "way"] ["self", "number", "cell"] (defScope s_q2) := ⟨rfl, rfl, rfl, by decide +kernel, rfl, by decide +kernel, by decide +kernel⟩
set_option maxHeartbeats 4000000 in
theorem ok_q2 {fd : FuncData} (F : Fun K "free_from" "Book.free_from" s_q2 ad.q2 fd) (T : Txt K mg ad) {fd_q1 : FuncData} (B_q1 : Binds K fd_q1 ["self", "number"] []) (G_q1 : FnOk P w K mg base CX0 1 ad.q1 fd_q1 ["self", "number"] (spBeside ad)) {fd_q16 : FuncData} (B_q16 : Binds K fd_q16 ["way", "cell"] []) (G_q16 : FnOk P w K mg base CX0 1 ad.q16 fd_q16 ["way", "cell"] (spLeft)) : FnOk P w K mg base CX0 2 ad.q2 fd ["self", "number", "cell"] (spFree ad) := by
  refine F.ok sc_q2 (fun vs H Q E h => ?_) (fun cdv A outer s H vs Q E HR h => ?_)
  · obtain ⟨p, d, es, n, cell, rfl, _⟩ := h
    rfl
  · obtain ⟨p, d, es, n, cell, rfl, hb, hq⟩ := h
    have ND := sc_q2.nd
    have HU0 := HR.units0
    have HU := HR.units
    have hA := HR.hd
    have hz : (100000 : Nat) ≤ sizeLine := by rw [sizeLine_eq]; decide
    refine ⟨_, (pss_cons (ps_set (i := 3) ND rfl (loc_of (Or.inl l_q2_free)) pe_int)
 (pss_cons (ps_for PassesOwn.never (calm0 rfl) (pi_list (pe_meth (pe_var (i := 0) (x := "self") rfl (vis_of v_q2_self) d_self e_self) T.cl_Book T.m_q1 G_q1 (HR.mono (by decide)) B_q1 .nil pass0 (pa_cons (pe_var (i := 1) (x := "number") rfl (vis_of v_q2_number) d_number e_number) pa_nil (stp rfl)) (hst := stp rfl) (hpl := anp rfl))) (pg_name (i := 4) ND rfl (loc_of (Or.inl l_q2_way)))
 (pss_cons (ps_if (pt_cmpR op_eq (pe_ix ix_tup (pe_ix ix_tup (pe_var (i := 4) (x := "way") rfl (vis_of v_q2_way) d_way e_way) pe_int (fun _ _ => rfl)) (pe_un un_neg pe_int) (fun _ _ => rfl)) (pe_var (i := 2) (x := "cell") rfl (vis_of v_q2_cell) d_cell e_cell) (nomark _))
 (pss_one (ps_ret pe_non))
 pss_nil)
 (pss_one (ps_set (i := 3) ND rfl (loc_of (Or.inl l_q2_free)) (pe_callB (call_max2 rfl) (gl_of g_q2_max) T.b_max PyProof.Rows.Boot.«max» (pa_cons (pe_var (i := 3) (x := "free") rfl (vis_of v_q2_free) d_free e_free) (pa_cons (pe_call G_q16 (HR.mono (by decide)) (gl_of g_q2_q16) T.mg_q16 T.k_q16 B_q16 .nil pass0 (pa_cons (pe_var (i := 4) (x := "way") rfl (vis_of v_q2_way) d_way e_way) (pa_cons (pe_var (i := 2) (x := "cell") rfl (vis_of v_q2_cell) d_cell e_cell) pa_nil (stp rfl)) (stp rfl)) (hdb := d_q16) (he := stp rfl) (hpl := anp rfl)) pa_nil (stp rfl)) (stp rfl)) (hn := n_max) (hdb := d_max) (he := stp rfl) (hpl := anp rfl))))))
 (pss_one (ps_ret (pe_var (i := 3) (x := "free") rfl (vis_of v_q2_free) d_free e_free))))), ?_⟩
    obtain ⟨⟨⟨dx, h1⟩, h2⟩, en⟩ := id hb
    have nt : ∀ xs, H d ≠ some (.tup xs) := fun xs z => by rw [h2] at z; cases z
    walk_at "RD"
    refine ⟨_, _, h1, w_no d (by decide +kernel), p, d, es, n, rfl, hb, fun l H1 nl s1 hl => ⟨l, rfl, ⟨_, SqL.of hl⟩, for_list (xs := (besd es n).map (·.v)) (fun i σ H' => ∃ (k : Int) (x : Option V), Same H1 H' ∧ FreeOk ((besd es n).take i) cell k ∧ (∀ e ∈ (besd es n).take i, endC e.c ≠ cell) ∧ σ = [some (V.ref p), some (V.int n), some (V.int cell), some (V.int k), x]) ⟨0, none, Same.refl _, free_0, ends_0, rfl⟩ ?_ ?_ ?_⟩⟩
    · rintro i σ H' _ ⟨k, x, s, fo, fe, rfl⟩
      exact SqL.of (s _ _ hl)
    · rintro i x σ H' hx ⟨k, x0, s, fo, fe, rfl⟩
      rw [List.getElem?_map] at hx
      obtain ⟨e, he, rfl⟩ := Option.map_eq_some_iff.mp hx
      have hmb := List.mem_of_getElem? he
      have hm := (besd_in.mp hmb).1
      obtain ⟨cn, _, b0, _⟩ := (en.ok e hm).2.1
      have wy := (en.ok e hm).1.same (s1.trans s)
      obtain ⟨q, w, ev, h3, h4⟩ := id wy
      have tk : (besd es n).take (i + 1) = (besd es n).take i ++ [e] := by rw [List.take_add_one, he]; rfl
      rw [tk]
      walk_at "RD"
      refine ⟨q, ev, _, SqT.of h3, _, rfl, w, rfl, _, SqT.of h4, _, atI_end cn, rfl, ?_⟩
      split
      · rename_i z
        exact hq _ _ (s1.trans s) (.inl ⟨rfl, e, hmb, V.int.inj z⟩)
      · rename_i z
        have z' : endC e.c ≠ cell := fun y => z (by rw [y])
        refine ⟨e.v, e.b, e.c, cell, rfl, wy, fun H2 m s2 hL => ⟨m, rfl, s.trans s2, _, free_left fo cn b0 z' hL, fun y hy => ?_, rfl, _, rfl⟩⟩
        rcases List.mem_append.mp hy with y' | y'
        · exact fe y y'
        · rw [List.mem_singleton.mp y']; exact z'
    · rintro σ H' ⟨k, x0, s, fo, fe, rfl⟩
      rw [List.length_map, List.take_length] at fo fe
      walk_at "RD"
      exact hq _ _ (s1.trans s) (.inr ⟨k, rfl, fe, fo⟩)
theorem sc_q23 : FnScope ["_law_script", "_law_k"] ["_law_script", "_law_k"] (defScope s_q23) := ⟨rfl, rfl, rfl, by decide +kernel, rfl, by decide +kernel, by decide +kernel⟩
set_option maxHeartbeats 4000000 in
theorem ok_q23 {fd : FuncData} (F : Fun K "_law_cell_at" "_law_cell_at" s_q23 ad.q23 fd) (T : Txt K mg ad) : FnOk P w K mg base CX0 1 ad.q23 fd ["_law_script", "_law_k"] (spCell K) := by
  refine F.ok sc_q23 (fun vs H Q E h => ?_) (fun cdv A outer s H vs Q E HR h => ?_)
  · obtain ⟨a, ns, k, rfl, _⟩ := h
    rfl
  · obtain ⟨a, ns, k, rfl, hS, hb, h0, hq⟩ := h
    have ND := sc_q23.nd
    have HU0 := HR.units0
    have HU := HR.units
    have hA := HR.hd
    have hz : (100000 : Nat) ≤ sizeLine := by rw [sizeLine_eq]; decide
    refine ⟨_, (pss_cons (ps_if (pt_cmpR op_lt (pe_var (i := 1) (x := "_law_k") rfl (vis_of v_q23__law_k) d__law_k e__law_k) (pe_callB call_len_seq (gl_of g_q23_len) T.b_len PyProof.Rows.Boot.«len» (pa_cons (pe_var (i := 0) (x := "_law_script") rfl (vis_of v_q23__law_script) d__law_script e__law_script) pa_nil (stp rfl)) (hn := n_len) (hdb := d_len) (he := stp rfl) (hpl := anp rfl)) (nomark _))
 (pss_one (ps_ret (pe_ix ix_list (pe_var (i := 0) (x := "_law_script") rfl (vis_of v_q23__law_script) d__law_script e__law_script) (pe_var (i := 1) (x := "_law_k") rfl (vis_of v_q23__law_k) d__law_k e__law_k) (fun _ _ => rfl))))
 pss_nil)
 (pss_one (ps_ret pe_int))), ?_⟩
    walk_at "RD"
    refine ⟨_, .inl hS, ?_⟩
    split
    · rename_i h
      rw [List.length_map] at h
      exact ⟨_, hS, _, atI_int h0 h, hq _ (hb _ (getD_in (by omega)))⟩
    · exact hq 0 bits_zero
theorem sc_q28 : FnScope ["_law_cell", "_law_k", "_law_number"] ["_law_cell", "_law_k"] (defScope s_q28) := ⟨rfl, rfl, rfl, by decide +kernel, rfl, by decide +kernel, by decide +kernel⟩
set_option maxHeartbeats 4000000 in
theorem ok_q28 {fd : FuncData} (F : Fun K "_law_mixed" "_law_mixed" s_q28 ad.q28 fd) (T : Txt K mg ad) : FnOk P w K mg base CX0 1 ad.q28 fd ["_law_cell", "_law_k"] (spMixed) := by
  refine F.ok sc_q28 (fun vs H Q E h => ?_) (fun cdv A outer s H vs Q E HR h => ?_)
  · obtain ⟨c, k, rfl, _⟩ := h
    rfl
  · obtain ⟨c, k, rfl, hc, h0, h1, hq⟩ := h
    have ND := sc_q28.nd
    have HU0 := HR.units0
    have HU := HR.units
    have hA := HR.hd
    have hz : (100000 : Nat) ≤ sizeLine := by rw [sizeLine_eq]; decide
    refine ⟨_, (pss_cons (ps_set (i := 2) ND rfl (loc_of (Or.inl l_q28__law_number)) (pe_op op_add (pe_op op_add (pe_var (i := 0) (x := "_law_cell") rfl (vis_of v_q28__law_cell) d__law_cell e__law_cell) (pe_op op_mulB pe_int (pe_var (i := 1) (x := "_law_k") rfl (vis_of v_q28__law_k) d__law_k e__law_k))) pe_int))
 (pss_one (ps_ret (pe_op op_mod (pe_op op_mulB (pe_op op_mod (pe_op op_mulB (pe_var (i := 2) (x := "_law_number") rfl (vis_of v_q28__law_number) d__law_number e__law_number) (pe_var (i := 2) (x := "_law_number") rfl (vis_of v_q28__law_number) d__law_number e__law_number)) pe_int) pe_int) pe_int)))), ?_⟩
    walk_at "RD"
    exact ⟨CMul.ok (.inl ⟨by decide, by decide⟩), mulOk_near hc hc (by omega) (by omega), by decide, CMul.ok (.inr ⟨by decide, by decide⟩), by decide, hq _ (Int.emod_nonneg _ (by decide)) (Int.emod_lt_of_pos _ (by decide))⟩
theorem sc_q29 : FnScope ["_law_found"] ["_law_found"] (defScope s_q29) := ⟨rfl, rfl, rfl, by decide +kernel, rfl, by decide +kernel, by decide +kernel⟩
set_option maxHeartbeats 4000000 in
theorem ok_q29 {fd : FuncData} (F : Fun K "_law_whole" "_law_whole" s_q29 ad.q29 fd) (T : Txt K mg ad) : FnOk P w K mg base CX0 1 ad.q29 fd ["_law_found"] (spWhole K) := by
  refine F.ok sc_q29 (fun vs H Q E h => ?_) (fun cdv A outer s H vs Q E HR h => ?_)
  · obtain ⟨x, rfl, _⟩ := h
    rfl
  · obtain ⟨x, rfl, ty, hq⟩ := h
    have ND := sc_q29.nd
    have HU0 := HR.units0
    have HU := HR.units
    have hA := HR.hd
    have hz : (100000 : Nat) ≤ sizeLine := by rw [sizeLine_eq]; decide
    refine ⟨_, (pss_one (ps_ret (pe_and (pe_callB call_isinst (gl_of g_q29_isinstance) T.b_isinstance PyProof.Rows.Boot.«isinstance» (pa_cons (pe_var (i := 0) (x := "_law_found") rfl (vis_of v_q29__law_found) d__law_found e__law_found) (pa_cons (pe_bltn (v := .ty "int") (gl_of g_q29_int) T.b_int PyProof.Rows.Boot.«int» rfl (hn := n_int) (hd := d_int)) pa_nil (stp rfl)) (stp rfl)) (hn := n_isinstance) (hdb := d_isinstance) (he := stp rfl) (hpl := anp rfl)) (pe_one (pe_not (pe_callB call_isinst (gl_of g_q29_isinstance) T.b_isinstance PyProof.Rows.Boot.«isinstance» (pa_cons (pe_var (i := 0) (x := "_law_found") rfl (vis_of v_q29__law_found) d__law_found e__law_found) (pa_cons (pe_bltn (v := .ty "bool") (gl_of g_q29_bool) T.b_bool PyProof.Rows.Boot.«bool» rfl (hn := n_bool) (hd := d_bool)) pa_nil (stp rfl)) (stp rfl)) (hn := n_isinstance) (hdb := d_isinstance) (he := stp rfl) (hpl := anp rfl))))))), ?_⟩
    obtain ⟨n, ty⟩ := ty
    have e1 := kit_int ty
    have e2 := kit_bool ty
    walk_at "RD"
    refine ⟨_, ty, _, e1, ?_⟩
    cases hb : isIB x with
    | true =>
      rw [if_pos rfl]
      refine ⟨_, ty, _, e2, ?_⟩
      cases x <;> simp_all [isI, isB, isIB]
    | false =>
      rw [if_neg (by decide)]
      cases x <;> simp_all [isI, isB, isIB]
theorem sc_Lrows : FnScope ["_law_way", "_law_end_here", "_law_found"] ["_law_way", "_law_end_here"] (defScope s_Lrows) := ⟨rfl, rfl, rfl, by decide +kernel, rfl, by decide +kernel, by decide +kernel⟩
set_option maxHeartbeats 4000000 in
theorem ok_Lrows {fd : FuncData} (F : Fun K "_law_rows" "_law_rows" s_Lrows ad.Lrows fd) (T : Txt K mg ad) : FnOk P w K mg base CX0 1 ad.Lrows fd ["_law_way", "_law_end_here"] (spRowsN) := by
  refine F.ok sc_Lrows (fun vs H Q E h => ?_) (fun cdv A outer s H vs Q E HR h => ?_)
  · obtain ⟨v, b, c, e, rfl, _⟩ := h
    rfl
  · obtain ⟨v, b, c, e, rfl, hw, hc, hl, b0, b1, e0, e1, hq⟩ := h
    have ND := sc_Lrows.nd
    have HU0 := HR.units0
    have HU := HR.units
    have hA := HR.hd
    have hz : (100000 : Nat) ≤ sizeLine := by rw [sizeLine_eq]; decide
    refine ⟨_, (pss_cons (ps_set (i := 2) ND rfl (loc_of (Or.inl l_Lrows__law_found)) (pe_op op_cat (pe_op op_rep (pe_lst (pa_cons pe_non pa_nil (stp rfl))) (pe_ix ix_tup (pe_var (i := 0) (x := "_law_way") rfl (vis_of v_Lrows__law_way) d__law_way e__law_way) pe_int (fun _ _ => rfl))) (pe_callTy call_list_of (gl_of g_Lrows_list) T.b_list PyProof.Rows.Boot.«list» (pa_cons (pe_ix ix_tup (pe_var (i := 0) (x := "_law_way") rfl (vis_of v_Lrows__law_way) d__law_way e__law_way) pe_int (fun _ _ => rfl)) pa_nil (stp rfl)) (hn := n_list) (hdb := d_list) (he := stp rfl) (hpl := anp rfl))))
 (pss_cons (ps_while PassesOwn.never (pt_cmpR op_le (pe_callB call_len_seq (gl_of g_Lrows_len) T.b_len PyProof.Rows.Boot.«len» (pa_cons (pe_var (i := 2) (x := "_law_found") rfl (vis_of v_Lrows__law_found) d__law_found e__law_found) pa_nil (stp rfl)) (hn := n_len) (hdb := d_len) (he := stp rfl) (hpl := anp rfl)) (pe_var (i := 1) (x := "_law_end_here") rfl (vis_of v_Lrows__law_end_here) d__law_end_here e__law_end_here) (nomark _))
 (pss_one (ps_expr (pe_bm PySem.F.plainAttrs_list PySem.F.slot_list_append PySem.F.type_list_append mt_append (pe_var (i := 2) (x := "_law_found") rfl (vis_of v_Lrows__law_found) d__law_found e__law_found) (pa_cons (pe_ix ix_list (pe_var (i := 2) (x := "_law_found") rfl (vis_of v_Lrows__law_found) d__law_found e__law_found) (pe_un un_neg pe_int) (fun _ _ => rfl)) pa_nil (stp rfl))))))
 (pss_one (ps_ret (pe_var (i := 2) (x := "_law_found") rfl (vis_of v_Lrows__law_found) d__law_found e__law_found))))), ?_⟩
    obtain ⟨p, q, rfl, h1, h2⟩ := id hw
    have lp : 0 < c.length := List.length_pos_iff.mpr hc
    walk_at "RD"
    refine ⟨by omega, fun p1 n1 => ?_⟩
    have s1 : Same H (upd H p1 (HO.lst [V.non])) := same_new n1
    refine ⟨_, SqT.of (s1 _ _ h1), _, rfl, _, rfl, _, upd_same, by omega, by omega, by simp only [List.length_cons, List.length_nil]; omega, fun p2 n2 => ?_⟩
    have s2 := s1.trans (same_new (o := HO.lst (List.replicate b.toNat [V.non]).flatten) n2)
    refine ⟨_, SqT.of (s2 _ _ h1), _, rfl, _, rfl, _, .inr (SqT.of (s2 _ _ h2)), fun l n3 => ?_⟩
    have s3 := s2.trans (same_new (o := HO.lst (c.map V.int)) n3)
    refine ⟨_, by rw [upd_ne (fun z => by rw [← z, upd_same] at n3; cases n3)]; exact upd_same, _, upd_same, ?_, fun p4 n4 => ?_⟩
    · rw [rows_len, List.length_map]; omega
    have s4 := s3.trans (same_new (o := HO.lst ((List.replicate b.toNat [V.non]).flatten ++ c.map V.int)) n4)
    have n40 : H p4 = none := s3.free n4
    refine ⟨fun m σ H' => ∃ i : Nat, b + (c.length : Int) ≤ i ∧ ((i : Int) ≤ e + 1 ∨ i = b.toNat + c.length) ∧ σ = [some (V.ref p), some (V.int e), some (V.ref p4)] ∧ H' p4 = some (.lst ((List.range i).map fun j => plc b c ((j : Nat) : Int))) ∧ Same H H' ∧ m = e.toNat + 1 - i, ⟨_, b.toNat + c.length, by omega, .inr rfl, rfl, by rw [upd_same, rows_start b0], s4, rfl⟩, ?_⟩
    rintro m σ H' ⟨i, i0, i1, rfl, hp, sm, rfl⟩
    walk_at "RD"
    refine ⟨_, .inl (SqL.of hp), ?_⟩
    rw [List.length_map, List.length_range]
    split
    · refine ⟨fun σ' H'' => σ' = [some (V.ref p), some (V.int e), some (V.ref p4)] ∧ H'' = upd H' p4 (HO.lst ((List.range i).map (fun j => plc b c ((j : Nat) : Int)) ++ [plc b c (i : Int)])), ?_, .inl ⟨rfl, _, SqL.of hp⟩, _, SqL.of hp, plc b c (i : Int), ?_, _, hp, by rw [List.length_map, List.length_range]; omega, rfl, rfl⟩
      · rintro _ _ ⟨rfl, rfl⟩
        refine ⟨_, ?_, i + 1, by omega, .inl (by omega), rfl, ?_, same_upd sm n40, rfl⟩
        · omega
        · rw [upd_same, List.range_succ, List.map_append]
          rfl
      · obtain ⟨k, rfl⟩ : ∃ k, i = k + 1 := ⟨i - 1, by omega⟩
        rw [List.range_succ, List.map_append, ← rows_more hc i0]
        exact atI_last _ _
    · exact hq _ _ i n40 sm hp (by omega) i0 (by omega)
set_option maxHeartbeats 4000000 in
theorem okM_Lrows {fd : FuncData} (F : Fun K "_law_rows" "_law_rows" s_Lrows ad.Lrows fd) (T : Txt K mg ad) {ea C : Addr} {dx : Option Addr} {ob : Obj} (mk : MkO C dx ob) : FnOkM P w K mg base ea ob 1 ad.Lrows fd ["_law_way", "_law_end_here"] (spRowsN) := by
  refine F.okM mk sc_Lrows (fun vs H Q E h => ?_) (fun cdv A outer s H vs Q HRM CM HH h => ?_)
  · obtain ⟨v, b, c, e, rfl, _⟩ := h
    rfl
  · obtain ⟨v, b, c, e, rfl, hw, hc, hl, b0, b1, e0, e1, hq⟩ := h
    have ND := sc_Lrows.nd
    have HU0 := HRM.units0
    have HU := HRM.units
    have hz : (100000 : Nat) ≤ sizeLine := by rw [sizeLine_eq]; decide
    refine ⟨_, (pss_cons (ps_set (i := 2) ND rfl (loc_of (Or.inl l_Lrows__law_found)) (pe_op op_cat (pe_op op_rep (pe_lst (pa_cons pe_non pa_nil (stp rfl))) (pe_ix ix_tup (pe_var (i := 0) (x := "_law_way") rfl (vis_of v_Lrows__law_way) d__law_way e__law_way) pe_int (fun _ _ => rfl))) (pe_callTy call_list_of (gl_of g_Lrows_list) T.b_list PyProof.Rows.Boot.«list» (pa_cons (pe_ix ix_tup (pe_var (i := 0) (x := "_law_way") rfl (vis_of v_Lrows__law_way) d__law_way e__law_way) pe_int (fun _ _ => rfl)) pa_nil (stp rfl)) (hn := n_list) (hdb := d_list) (he := stp rfl) (hpl := anp rfl))))
 (pss_cons (ps_while PassesOwn.never (pt_cmpR op_le (pe_callB call_len_seq (gl_of g_Lrows_len) T.b_len PyProof.Rows.Boot.«len» (pa_cons (pe_var (i := 2) (x := "_law_found") rfl (vis_of v_Lrows__law_found) d__law_found e__law_found) pa_nil (stp rfl)) (hn := n_len) (hdb := d_len) (he := stp rfl) (hpl := anp rfl)) (pe_var (i := 1) (x := "_law_end_here") rfl (vis_of v_Lrows__law_end_here) d__law_end_here e__law_end_here) (nomark _))
 (pss_one (ps_expr (pe_bm PySem.F.plainAttrs_list PySem.F.slot_list_append PySem.F.type_list_append mt_append (pe_var (i := 2) (x := "_law_found") rfl (vis_of v_Lrows__law_found) d__law_found e__law_found) (pa_cons (pe_ix ix_list (pe_var (i := 2) (x := "_law_found") rfl (vis_of v_Lrows__law_found) d__law_found e__law_found) (pe_un un_neg pe_int) (fun _ _ => rfl)) pa_nil (stp rfl))))))
 (pss_one (ps_ret (pe_var (i := 2) (x := "_law_found") rfl (vis_of v_Lrows__law_found) d__law_found e__law_found))))), ?_⟩
    obtain ⟨p, q, rfl, h1, h2⟩ := id hw
    have lp : 0 < c.length := List.length_pos_iff.mpr hc
    walk_at "RD"
    refine ⟨by omega, fun p1 n1 => ?_⟩
    have s1 : Same H (upd H p1 (HO.lst [V.non])) := same_new n1
    refine ⟨_, SqT.of (s1 _ _ h1), _, rfl, _, rfl, _, upd_same, by omega, by omega, by simp only [List.length_cons, List.length_nil]; omega, fun p2 n2 => ?_⟩
    have s2 := s1.trans (same_new (o := HO.lst (List.replicate b.toNat [V.non]).flatten) n2)
    refine ⟨_, SqT.of (s2 _ _ h1), _, rfl, _, rfl, _, .inr (SqT.of (s2 _ _ h2)), fun l n3 => ?_⟩
    have s3 := s2.trans (same_new (o := HO.lst (c.map V.int)) n3)
    refine ⟨_, by rw [upd_ne (fun z => by rw [← z, upd_same] at n3; cases n3)]; exact upd_same, _, upd_same, ?_, fun p4 n4 => ?_⟩
    · rw [rows_len, List.length_map]; omega
    have s4 := s3.trans (same_new (o := HO.lst ((List.replicate b.toNat [V.non]).flatten ++ c.map V.int)) n4)
    have n40 : H p4 = none := s3.free n4
    refine ⟨fun m σ H' => ∃ i : Nat, b + (c.length : Int) ≤ i ∧ ((i : Int) ≤ e + 1 ∨ i = b.toNat + c.length) ∧ σ = [some (V.ref p), some (V.int e), some (V.ref p4)] ∧ H' p4 = some (.lst ((List.range i).map fun j => plc b c ((j : Nat) : Int))) ∧ Same H H' ∧ m = e.toNat + 1 - i, ⟨_, b.toNat + c.length, by omega, .inr rfl, rfl, by rw [upd_same, rows_start b0], s4, rfl⟩, ?_⟩
    rintro m σ H' ⟨i, i0, i1, rfl, hp, sm, rfl⟩
    walk_at "RD"
    refine ⟨_, .inl (SqL.of hp), ?_⟩
    rw [List.length_map, List.length_range]
    split
    · refine ⟨fun σ' H'' => σ' = [some (V.ref p), some (V.int e), some (V.ref p4)] ∧ H'' = upd H' p4 (HO.lst ((List.range i).map (fun j => plc b c ((j : Nat) : Int)) ++ [plc b c (i : Int)])), ?_, .inl ⟨rfl, _, SqL.of hp⟩, _, SqL.of hp, plc b c (i : Int), ?_, _, hp, by rw [List.length_map, List.length_range]; omega, rfl, rfl⟩
      · rintro _ _ ⟨rfl, rfl⟩
        refine ⟨_, ?_, i + 1, by omega, .inl (by omega), rfl, ?_, same_upd sm n40, rfl⟩
        · omega
        · rw [upd_same, List.range_succ, List.map_append]
          rfl
      · obtain ⟨k, rfl⟩ : ∃ k, i = k + 1 := ⟨i - 1, by omega⟩
        rw [List.range_succ, List.map_append, ← rows_more hc i0]
        exact atI_last _ _
    · exact hq _ _ i n40 sm hp (by omega) i0 (by omega)
theorem sc_q24 : FnScope ["_law_one", "_law_other", "_law_end_here", "_law_mine", "_law_yours", "_law_time"] ["_law_one", "_law_other"] (defScope s_q24) := ⟨rfl, rfl, rfl, by decide +kernel, rfl, by decide +kernel, by decide +kernel⟩
set_option maxHeartbeats 4000000 in
theorem ok_q24 {fd : FuncData} (F : Fun K "_law_meeting" "_law_meeting" s_q24 ad.q24 fd) (T : Txt K mg ad) {fd_Lrows : FuncData} (B_Lrows : Binds K fd_Lrows ["_law_way", "_law_end_here"] []) (G_Lrows : FnOk P w K mg base CX0 1 ad.Lrows fd_Lrows ["_law_way", "_law_end_here"] (spRowsN)) : FnOk P w K mg base CX0 2 ad.q24 fd ["_law_one", "_law_other"] (spMeeting) := by
  refine F.ok sc_q24 (fun vs H Q E h => ?_) (fun cdv A outer s H vs Q E HR h => ?_)
  · obtain ⟨v, b, c, v', b', c', rfl, _⟩ := h
    rfl
  · obtain ⟨v, b, c, v', b', c', rfl, hw, hw', g, g', hq⟩ := h
    have ND := sc_q24.nd
    have HU0 := HR.units0
    have HU := HR.units
    have hA := HR.hd
    have hz : (100000 : Nat) ≤ sizeLine := by rw [sizeLine_eq]; decide
    refine ⟨_, (pss_cons (ps_set (i := 2) ND rfl (loc_of (Or.inl l_q24__law_end_here)) (pe_op op_add pe_int (pe_callB (call_max2 rfl) (gl_of g_q24_max) T.b_max PyProof.Rows.Boot.«max» (pa_cons (pe_op op_add (pe_ix ix_tup (pe_var (i := 0) (x := "_law_one") rfl (vis_of v_q24__law_one) d__law_one e__law_one) pe_int (fun _ _ => rfl)) (pe_callB call_len_seq (gl_of g_q24_len) T.b_len PyProof.Rows.Boot.«len» (pa_cons (pe_ix ix_tup (pe_var (i := 0) (x := "_law_one") rfl (vis_of v_q24__law_one) d__law_one e__law_one) pe_int (fun _ _ => rfl)) pa_nil (stp rfl)) (hn := n_len) (hdb := d_len) (he := stp rfl) (hpl := anp rfl))) (pa_cons (pe_op op_add (pe_ix ix_tup (pe_var (i := 1) (x := "_law_other") rfl (vis_of v_q24__law_other) d__law_other e__law_other) pe_int (fun _ _ => rfl)) (pe_callB call_len_seq (gl_of g_q24_len) T.b_len PyProof.Rows.Boot.«len» (pa_cons (pe_ix ix_tup (pe_var (i := 1) (x := "_law_other") rfl (vis_of v_q24__law_other) d__law_other e__law_other) pe_int (fun _ _ => rfl)) pa_nil (stp rfl)) (hn := n_len) (hdb := d_len) (he := stp rfl) (hpl := anp rfl))) pa_nil (stp rfl)) (stp rfl)) (hn := n_max) (hdb := d_max) (he := stp rfl) (hpl := anp rfl))))
 (pss_cons (ps_set (i := 3) ND rfl (loc_of (Or.inl l_q24__law_mine)) (pe_call G_Lrows (HR.mono (by decide)) (gl_of g_q24__law_rows) T.mg_Lrows T.k_Lrows B_Lrows .nil pass0 (pa_cons (pe_var (i := 0) (x := "_law_one") rfl (vis_of v_q24__law_one) d__law_one e__law_one) (pa_cons (pe_var (i := 2) (x := "_law_end_here") rfl (vis_of v_q24__law_end_here) d__law_end_here e__law_end_here) pa_nil (stp rfl)) (stp rfl)) (hdb := d__law_rows) (he := stp rfl) (hpl := anp rfl)))
 (pss_cons (ps_set (i := 4) ND rfl (loc_of (Or.inl l_q24__law_yours)) (pe_call G_Lrows (HR.mono (by decide)) (gl_of g_q24__law_rows) T.mg_Lrows T.k_Lrows B_Lrows .nil pass0 (pa_cons (pe_var (i := 1) (x := "_law_other") rfl (vis_of v_q24__law_other) d__law_other e__law_other) (pa_cons (pe_var (i := 2) (x := "_law_end_here") rfl (vis_of v_q24__law_end_here) d__law_end_here e__law_end_here) pa_nil (stp rfl)) (stp rfl)) (hdb := d__law_rows) (he := stp rfl) (hpl := anp rfl)))
 (pss_cons (ps_for PassesOwn.never (calm0 rfl) (pi_range1 (gl_of g_q24_range) T.b_range (pa_cons (pe_var (i := 2) (x := "_law_end_here") rfl (vis_of v_q24__law_end_here) d__law_end_here e__law_end_here) pa_nil (stp rfl)) (st1 rfl)) (pg_name (i := 5) ND rfl (loc_of (Or.inl l_q24__law_time)))
 (pss_cons (ps_if (PW.pt (pw_or (pt_cmpR op_isN (pe_ix ix_list (pe_var (i := 3) (x := "_law_mine") rfl (vis_of v_q24__law_mine) d__law_mine e__law_mine) (pe_var (i := 5) (x := "_law_time") rfl (vis_of v_q24__law_time) d__law_time e__law_time) (fun _ _ => rfl)) pe_non (nomark _)) (pw_or1 (pt_cmpR op_isN (pe_ix ix_list (pe_var (i := 4) (x := "_law_yours") rfl (vis_of v_q24__law_yours) d__law_yours e__law_yours) (pe_var (i := 5) (x := "_law_time") rfl (vis_of v_q24__law_time) d__law_time e__law_time) (fun _ _ => rfl)) pe_non (nomark _)))))
 (pss_one ps_continue)
 pss_nil)
 (pss_cons (ps_if (pt_cmpR op_eq (pe_ix ix_list (pe_var (i := 3) (x := "_law_mine") rfl (vis_of v_q24__law_mine) d__law_mine e__law_mine) (pe_var (i := 5) (x := "_law_time") rfl (vis_of v_q24__law_time) d__law_time e__law_time) (fun _ _ => rfl)) (pe_ix ix_list (pe_var (i := 4) (x := "_law_yours") rfl (vis_of v_q24__law_yours) d__law_yours e__law_yours) (pe_var (i := 5) (x := "_law_time") rfl (vis_of v_q24__law_time) d__law_time e__law_time) (fun _ _ => rfl)) (nomark _))
 (pss_one (ps_ret (pe_tup (pa_cons (pe_var (i := 5) (x := "_law_time") rfl (vis_of v_q24__law_time) d__law_time e__law_time) (pa_cons pe_str pa_nil (stp rfl)) (stp rfl)))))
 pss_nil)
 (pss_one (ps_if (PW.pt (pw_and (pt_cmpR op_eq (pe_ix ix_list (pe_var (i := 3) (x := "_law_mine") rfl (vis_of v_q24__law_mine) d__law_mine e__law_mine) (pe_var (i := 5) (x := "_law_time") rfl (vis_of v_q24__law_time) d__law_time e__law_time) (fun _ _ => rfl)) (pe_ix ix_list (pe_var (i := 4) (x := "_law_yours") rfl (vis_of v_q24__law_yours) d__law_yours e__law_yours) (pe_op op_add (pe_var (i := 5) (x := "_law_time") rfl (vis_of v_q24__law_time) d__law_time e__law_time) pe_int) (fun _ _ => rfl)) (nomark _)) (pw_and1 (pt_cmpR op_eq (pe_ix ix_list (pe_var (i := 4) (x := "_law_yours") rfl (vis_of v_q24__law_yours) d__law_yours e__law_yours) (pe_var (i := 5) (x := "_law_time") rfl (vis_of v_q24__law_time) d__law_time e__law_time) (fun _ _ => rfl)) (pe_ix ix_list (pe_var (i := 3) (x := "_law_mine") rfl (vis_of v_q24__law_mine) d__law_mine e__law_mine) (pe_op op_add (pe_var (i := 5) (x := "_law_time") rfl (vis_of v_q24__law_time) d__law_time e__law_time) pe_int) (fun _ _ => rfl)) (nomark _)))))
 (pss_one (ps_ret (pe_tup (pa_cons (pe_var (i := 5) (x := "_law_time") rfl (vis_of v_q24__law_time) d__law_time e__law_time) (pa_cons pe_str pa_nil (stp rfl)) (stp rfl)))))
 pss_nil)))))
 (pss_one (ps_ret pe_non)))))), ?_⟩
    obtain ⟨p, q, rfl, h1, h2⟩ := id hw
    obtain ⟨p', q', rfl, h1', h2'⟩ := id hw'
    obtain ⟨hc, hl, b0, b1⟩ := g
    obtain ⟨hc', hl', b0', b1'⟩ := g'
    have lp : 0 < c.length := List.length_pos_iff.mpr hc
    have lp' : 0 < c'.length := List.length_pos_iff.mpr hc'
    refine tSeq_cut (fun σ H' => ∃ e : Int, b + (c.length : Int) + 4 ≤ e ∧ b' + (c'.length : Int) + 4 ≤ e ∧ e ≤ 1000 ∧ H' = H ∧ σ = [some (V.ref p), some (V.ref p'), some (V.int e), none, none, none]) (fun nx hk => ?_) ?_
    · walk_at "RD"
      refine ⟨_, SqT.of h1, _, rfl, _, SqT.of h1, _, rfl, _, rfl, _, .inr (SqT.of h2), _, rfl, _, SqT.of h1', _, rfl, _, SqT.of h1', _, rfl, _, rfl, _, .inr (SqT.of h2'), _, rfl, ?_⟩
      rw [List.length_map, List.length_map]
      refine hk _ _ ⟨_, ?_, ?_, ?_, rfl, rfl⟩ <;> split <;> omega
    rintro σ H1 ⟨e, e0, e0', e1, rfl, rfl⟩
    refine tSeq_cut (fun σ H' => ∃ (l : Addr) (N : Nat), e + 1 ≤ N ∧ Same H1 H' ∧ H' l = some (.lst ((List.range N).map fun i => plc b c (i : Nat))) ∧ σ = [some (V.ref p), some (V.ref p'), some (V.int e), some (V.ref l), none, none]) (fun nx hk => ?_) ?_
    · walk_at "RD"
      exact ⟨_, b, c, e, rfl, hw, hc, hl, b0, b1, by omega, e1, fun l H' N nl sm hl hN _ _ => hk _ _ ⟨l, N, hN, sm, hl, rfl⟩⟩
    rintro σ H2 ⟨l, N, hN, s2, hl2, rfl⟩
    refine tSeq_cut (fun σ H' => ∃ (r : Addr) (N : Nat), e + 1 ≤ N ∧ Same H2 H' ∧ H' r = some (.lst ((List.range N).map fun i => plc b' c' (i : Nat))) ∧ σ = [some (V.ref p), some (V.ref p'), some (V.int e), some (V.ref l), some (V.ref r), none]) (fun nx hk => ?_) ?_
    · walk_at "RD"
      exact ⟨_, b', c', e, rfl, hw'.same s2, hc', hl', b0', b1', by omega, e1, fun r H' N nr sm hr hN _ _ => hk _ _ ⟨r, N, hN, sm, hr, rfl⟩⟩
    rintro σ H3 ⟨r, N', hN', s3, hr3, rfl⟩
    have hl3 := s3 _ _ hl2
    have at1 : ∀ t : Int, 0 ≤ t → t ≤ e → atI ((List.range N).map fun i => plc b c (i : Nat)) t = some (plc b c t) := fun t h0 h1 => by
      obtain ⟨j, rfl⟩ := Int.eq_ofNat_of_zero_le h0
      exact atI_nat (by rw [List.getElem?_map, List.getElem?_range (by omega)]; rfl)
    have at2 : ∀ t : Int, 0 ≤ t → t ≤ e → atI ((List.range N').map fun i => plc b' c' (i : Nat)) t = some (plc b' c' t) := fun t h0 h1 => by
      obtain ⟨j, rfl⟩ := Int.eq_ofNat_of_zero_le h0
      exact atI_nat (by rw [List.getElem?_map, List.getElem?_range (by omega)]; rfl)
    walk_at "RD"
    refine ⟨by omega, by omega, for_range (fun i σ H' => ∃ x, H' = H3 ∧ σ = [some (V.ref p), some (V.ref p'), some (V.int e), some (V.ref l), some (V.ref r), x] ∧ ∀ j : Nat, j < i → b ≤ j → b' ≤ j → mtAt b c b' c' (j : Int) = none) ⟨none, rfl, rfl, fun j hj => absurd hj (Nat.not_lt_zero j)⟩ ?_ ?_⟩
    · rintro i σ H' hi ⟨x, rfl, rfl, hn⟩
      have hie : (i : Int) + 1 ≤ e := by omega
      rw [Int.zero_add]
      walk_at "RD"
      have prev : ∀ t', b ≤ t' → b' ≤ t' → t' < (i : Int) → mtAt b c b' c' t' = none := fun t' y1 y2 y3 => by
        have := hn t'.toNat (by omega) (by omega) (by omega)
        rw [show ((t'.toNat : Nat) : Int) = t' by omega] at this
        exact this
      have more : (b ≤ (i : Int) → b' ≤ (i : Int) → mtAt b c b' c' (i : Int) = none) → ∀ (j : Nat), j < i + 1 → b ≤ (j : Int) → b' ≤ (j : Int) → mtAt b c b' c' (j : Int) = none := fun y j hj y1 y2 => by
        rcases Nat.lt_succ_iff_lt_or_eq.mp hj with z | z
        · exact hn j z y1 y2
        · subst z
          exact y y1 y2
      have o1 := plc_or b c (i : Int)
      have o2 := plc_or b' c' (i : Int)
      have o3 := plc_or b c ((i : Int) + 1)
      have o4 := plc_or b' c' ((i : Int) + 1)
      have f1 := at1 (i : Int) (by omega) (by omega)
      have f2 := at2 (i : Int) (by omega) (by omega)
      have f3 := at1 ((i : Int) + 1) (by omega) (by omega)
      have f4 := at2 ((i : Int) + 1) (by omega) (by omega)
      refine ⟨_, SqL.of hl3, _, f1, ?_⟩
      by_cases g1 : (i : Int) < b
      · rw [if_pos (plc_non.mpr g1)]
        exact more fun y1 y2 => by omega
      rw [if_neg (fun z => g1 (plc_non.mp z))]
      refine ⟨_, SqL.of hr3, _, f2, ?_⟩
      by_cases g2 : (i : Int) < b'
      · rw [if_pos (plc_non.mpr g2)]
        exact more fun y1 y2 => by omega
      rw [if_neg (fun z => g2 (plc_non.mp z))]
      refine ⟨_, SqL.of hl3, _, f1, _, SqL.of hr3, _, f2, sc_plc o1 o2, ?_⟩
      by_cases e5 : plc b c (i : Int) = plc b' c' (i : Int)
      · rw [if_pos e5]
        exact ⟨by omega, fun r' nr => hq _ _ (some ((i : Int), sAt)) ((s2.trans s3).trans (same_new nr)) ⟨r', rfl, upd_same⟩ ⟨by omega, by omega, by unfold mtAt mw; rw [if_pos e5], prev⟩⟩
      rw [if_neg e5]
      refine ⟨_, SqL.of hl3, _, f1, _, SqL.of hr3, _, f4, sc_plc o1 o4, ?_⟩
      by_cases e6 : plc b c (i : Int) = plc b' c' ((i : Int) + 1)
      · rw [if_pos e6]
        refine ⟨_, SqL.of hr3, _, f2, _, SqL.of hl3, _, f3, sc_plc o2 o3, ?_⟩
        by_cases e7 : plc b' c' (i : Int) = plc b c ((i : Int) + 1)
        · rw [if_pos e7]
          exact ⟨by omega, fun r' nr => hq _ _ (some ((i : Int), sThrough)) ((s2.trans s3).trans (same_new nr)) ⟨r', rfl, upd_same⟩ ⟨by omega, by omega, by unfold mtAt mw; rw [if_neg e5, if_pos ⟨e7.symm, e6.symm⟩], prev⟩⟩
        · rw [if_neg e7]
          exact more fun _ _ => by unfold mtAt mw; rw [if_neg e5, if_neg (fun z => e7 z.1.symm)]
      · rw [if_neg e6]
        exact more fun _ _ => by unfold mtAt mw; rw [if_neg e5, if_neg (fun z => e6 z.2.symm)]
    · rintro σ H' ⟨x, rfl, rfl, hn⟩
      walk_at "RD"
      refine hq _ _ none (s2.trans s3) rfl (First.none_of hc hc' (e := e - 1) (by omega) (by omega) fun t' g1 g2 g3 => ?_)
      have := hn t'.toNat (by omega) (by omega) (by omega)
      rw [show ((t'.toNat : Nat) : Int) = t' by omega] at this
      exact this
set_option maxHeartbeats 4000000 in
theorem okM_q24 {fd : FuncData} (F : Fun K "_law_meeting" "_law_meeting" s_q24 ad.q24 fd) (T : Txt K mg ad) {fd_Lrows : FuncData} (B_Lrows : Binds K fd_Lrows ["_law_way", "_law_end_here"] []) (GM_Lrows : ∀ {ea C : Addr} {dx : Option Addr} {ob : Obj}, MkO C dx ob → FnOkM P w K mg base ea ob 1 ad.Lrows fd_Lrows ["_law_way", "_law_end_here"] (spRowsN)) {ea C : Addr} {dx : Option Addr} {ob : Obj} (mk : MkO C dx ob) : FnOkM P w K mg base ea ob 2 ad.q24 fd ["_law_one", "_law_other"] (spMeeting) := by
  refine F.okM mk sc_q24 (fun vs H Q E h => ?_) (fun cdv A outer s H vs Q HRM CM HH h => ?_)
  · obtain ⟨v, b, c, v', b', c', rfl, _⟩ := h
    rfl
  · obtain ⟨v, b, c, v', b', c', rfl, hw, hw', g, g', hq⟩ := h
    have ND := sc_q24.nd
    have HU0 := HRM.units0
    have HU := HRM.units
    have hz : (100000 : Nat) ≤ sizeLine := by rw [sizeLine_eq]; decide
    refine ⟨_, (pss_cons (ps_set (i := 2) ND rfl (loc_of (Or.inl l_q24__law_end_here)) (pe_op op_add pe_int (pe_callB (call_max2M CM) (gl_of g_q24_max) T.b_max PyProof.Rows.Boot.«max» (pa_cons (pe_op op_add (pe_ix ix_tup (pe_var (i := 0) (x := "_law_one") rfl (vis_of v_q24__law_one) d__law_one e__law_one) pe_int (fun _ _ => rfl)) (pe_callB call_len_seq (gl_of g_q24_len) T.b_len PyProof.Rows.Boot.«len» (pa_cons (pe_ix ix_tup (pe_var (i := 0) (x := "_law_one") rfl (vis_of v_q24__law_one) d__law_one e__law_one) pe_int (fun _ _ => rfl)) pa_nil (stp rfl)) (hn := n_len) (hdb := d_len) (he := stp rfl) (hpl := anp rfl))) (pa_cons (pe_op op_add (pe_ix ix_tup (pe_var (i := 1) (x := "_law_other") rfl (vis_of v_q24__law_other) d__law_other e__law_other) pe_int (fun _ _ => rfl)) (pe_callB call_len_seq (gl_of g_q24_len) T.b_len PyProof.Rows.Boot.«len» (pa_cons (pe_ix ix_tup (pe_var (i := 1) (x := "_law_other") rfl (vis_of v_q24__law_other) d__law_other e__law_other) pe_int (fun _ _ => rfl)) pa_nil (stp rfl)) (hn := n_len) (hdb := d_len) (he := stp rfl) (hpl := anp rfl))) pa_nil (stp rfl)) (stp rfl)) (hn := n_max) (hdb := d_max) (he := stp rfl) (hpl := anp rfl))))
 (pss_cons (ps_set (i := 3) ND rfl (loc_of (Or.inl l_q24__law_mine)) (pe_callM (GM_Lrows mk) (mkd_m HH) (HRM.mono (by decide)) (gl_of g_q24__law_rows) T.mg_Lrows T.k_Lrows B_Lrows (pa_cons (pe_var (i := 0) (x := "_law_one") rfl (vis_of v_q24__law_one) d__law_one e__law_one) (pa_cons (pe_var (i := 2) (x := "_law_end_here") rfl (vis_of v_q24__law_end_here) d__law_end_here e__law_end_here) pa_nil (stp rfl)) (stp rfl)) (hdb := d__law_rows) (he := stp rfl) (hpl := anp rfl)))
 (pss_cons (ps_set (i := 4) ND rfl (loc_of (Or.inl l_q24__law_yours)) (pe_callM (GM_Lrows mk) (mkd_m HH) (HRM.mono (by decide)) (gl_of g_q24__law_rows) T.mg_Lrows T.k_Lrows B_Lrows (pa_cons (pe_var (i := 1) (x := "_law_other") rfl (vis_of v_q24__law_other) d__law_other e__law_other) (pa_cons (pe_var (i := 2) (x := "_law_end_here") rfl (vis_of v_q24__law_end_here) d__law_end_here e__law_end_here) pa_nil (stp rfl)) (stp rfl)) (hdb := d__law_rows) (he := stp rfl) (hpl := anp rfl)))
 (pss_cons (ps_for PassesOwn.never CM (pi_range1 (gl_of g_q24_range) T.b_range (pa_cons (pe_var (i := 2) (x := "_law_end_here") rfl (vis_of v_q24__law_end_here) d__law_end_here e__law_end_here) pa_nil (stp rfl)) (st1 rfl)) (pg_name (i := 5) ND rfl (loc_of (Or.inl l_q24__law_time)))
 (pss_cons (ps_if (PW.pt (pw_or (pt_cmpR op_isN (pe_ix ix_list (pe_var (i := 3) (x := "_law_mine") rfl (vis_of v_q24__law_mine) d__law_mine e__law_mine) (pe_var (i := 5) (x := "_law_time") rfl (vis_of v_q24__law_time) d__law_time e__law_time) (fun _ _ => rfl)) pe_non (nomark _)) (pw_or1 (pt_cmpR op_isN (pe_ix ix_list (pe_var (i := 4) (x := "_law_yours") rfl (vis_of v_q24__law_yours) d__law_yours e__law_yours) (pe_var (i := 5) (x := "_law_time") rfl (vis_of v_q24__law_time) d__law_time e__law_time) (fun _ _ => rfl)) pe_non (nomark _)))))
 (pss_one ps_continue)
 pss_nil)
 (pss_cons (ps_if (pt_cmpR op_eq (pe_ix ix_list (pe_var (i := 3) (x := "_law_mine") rfl (vis_of v_q24__law_mine) d__law_mine e__law_mine) (pe_var (i := 5) (x := "_law_time") rfl (vis_of v_q24__law_time) d__law_time e__law_time) (fun _ _ => rfl)) (pe_ix ix_list (pe_var (i := 4) (x := "_law_yours") rfl (vis_of v_q24__law_yours) d__law_yours e__law_yours) (pe_var (i := 5) (x := "_law_time") rfl (vis_of v_q24__law_time) d__law_time e__law_time) (fun _ _ => rfl)) (nomark _))
 (pss_one (ps_ret (pe_tup (pa_cons (pe_var (i := 5) (x := "_law_time") rfl (vis_of v_q24__law_time) d__law_time e__law_time) (pa_cons pe_str pa_nil (stp rfl)) (stp rfl)))))
 pss_nil)
 (pss_one (ps_if (PW.pt (pw_and (pt_cmpR op_eq (pe_ix ix_list (pe_var (i := 3) (x := "_law_mine") rfl (vis_of v_q24__law_mine) d__law_mine e__law_mine) (pe_var (i := 5) (x := "_law_time") rfl (vis_of v_q24__law_time) d__law_time e__law_time) (fun _ _ => rfl)) (pe_ix ix_list (pe_var (i := 4) (x := "_law_yours") rfl (vis_of v_q24__law_yours) d__law_yours e__law_yours) (pe_op op_add (pe_var (i := 5) (x := "_law_time") rfl (vis_of v_q24__law_time) d__law_time e__law_time) pe_int) (fun _ _ => rfl)) (nomark _)) (pw_and1 (pt_cmpR op_eq (pe_ix ix_list (pe_var (i := 4) (x := "_law_yours") rfl (vis_of v_q24__law_yours) d__law_yours e__law_yours) (pe_var (i := 5) (x := "_law_time") rfl (vis_of v_q24__law_time) d__law_time e__law_time) (fun _ _ => rfl)) (pe_ix ix_list (pe_var (i := 3) (x := "_law_mine") rfl (vis_of v_q24__law_mine) d__law_mine e__law_mine) (pe_op op_add (pe_var (i := 5) (x := "_law_time") rfl (vis_of v_q24__law_time) d__law_time e__law_time) pe_int) (fun _ _ => rfl)) (nomark _)))))
 (pss_one (ps_ret (pe_tup (pa_cons (pe_var (i := 5) (x := "_law_time") rfl (vis_of v_q24__law_time) d__law_time e__law_time) (pa_cons pe_str pa_nil (stp rfl)) (stp rfl)))))
 pss_nil)))))
 (pss_one (ps_ret pe_non)))))), ?_⟩
    obtain ⟨p, q, rfl, h1, h2⟩ := id hw
    obtain ⟨p', q', rfl, h1', h2'⟩ := id hw'
    obtain ⟨hc, hl, b0, b1⟩ := g
    obtain ⟨hc', hl', b0', b1'⟩ := g'
    have lp : 0 < c.length := List.length_pos_iff.mpr hc
    have lp' : 0 < c'.length := List.length_pos_iff.mpr hc'
    refine tSeq_cut (fun σ H' => ∃ e : Int, b + (c.length : Int) + 4 ≤ e ∧ b' + (c'.length : Int) + 4 ≤ e ∧ e ≤ 1000 ∧ H' = H ∧ σ = [some (V.ref p), some (V.ref p'), some (V.int e), none, none, none]) (fun nx hk => ?_) ?_
    · walk_at "RD"
      refine ⟨_, SqT.of h1, _, rfl, _, SqT.of h1, _, rfl, _, rfl, _, .inr (SqT.of h2), _, rfl, _, SqT.of h1', _, rfl, _, SqT.of h1', _, rfl, _, rfl, _, .inr (SqT.of h2'), _, rfl, ?_⟩
      rw [List.length_map, List.length_map]
      refine hk _ _ ⟨_, ?_, ?_, ?_, rfl, rfl⟩ <;> split <;> omega
    rintro σ H1 ⟨e, e0, e0', e1, rfl, rfl⟩
    refine tSeq_cut (fun σ H' => ∃ (l : Addr) (N : Nat), e + 1 ≤ N ∧ Same H1 H' ∧ H' l = some (.lst ((List.range N).map fun i => plc b c (i : Nat))) ∧ σ = [some (V.ref p), some (V.ref p'), some (V.int e), some (V.ref l), none, none]) (fun nx hk => ?_) ?_
    · walk_at "RD"
      exact ⟨_, b, c, e, rfl, hw, hc, hl, b0, b1, by omega, e1, fun l H' N nl sm hl hN _ _ => hk _ _ ⟨l, N, hN, sm, hl, rfl⟩⟩
    rintro σ H2 ⟨l, N, hN, s2, hl2, rfl⟩
    refine tSeq_cut (fun σ H' => ∃ (r : Addr) (N : Nat), e + 1 ≤ N ∧ Same H2 H' ∧ H' r = some (.lst ((List.range N).map fun i => plc b' c' (i : Nat))) ∧ σ = [some (V.ref p), some (V.ref p'), some (V.int e), some (V.ref l), some (V.ref r), none]) (fun nx hk => ?_) ?_
    · walk_at "RD"
      exact ⟨_, b', c', e, rfl, hw'.same s2, hc', hl', b0', b1', by omega, e1, fun r H' N nr sm hr hN _ _ => hk _ _ ⟨r, N, hN, sm, hr, rfl⟩⟩
    rintro σ H3 ⟨r, N', hN', s3, hr3, rfl⟩
    have hl3 := s3 _ _ hl2
    have at1 : ∀ t : Int, 0 ≤ t → t ≤ e → atI ((List.range N).map fun i => plc b c (i : Nat)) t = some (plc b c t) := fun t h0 h1 => by
      obtain ⟨j, rfl⟩ := Int.eq_ofNat_of_zero_le h0
      exact atI_nat (by rw [List.getElem?_map, List.getElem?_range (by omega)]; rfl)
    have at2 : ∀ t : Int, 0 ≤ t → t ≤ e → atI ((List.range N').map fun i => plc b' c' (i : Nat)) t = some (plc b' c' t) := fun t h0 h1 => by
      obtain ⟨j, rfl⟩ := Int.eq_ofNat_of_zero_le h0
      exact atI_nat (by rw [List.getElem?_map, List.getElem?_range (by omega)]; rfl)
    walk_at "RD"
    refine ⟨by omega, by omega, for_range (fun i σ H' => ∃ x, H' = H3 ∧ σ = [some (V.ref p), some (V.ref p'), some (V.int e), some (V.ref l), some (V.ref r), x] ∧ ∀ j : Nat, j < i → b ≤ j → b' ≤ j → mtAt b c b' c' (j : Int) = none) ⟨none, rfl, rfl, fun j hj => absurd hj (Nat.not_lt_zero j)⟩ ?_ ?_⟩
    · rintro i σ H' hi ⟨x, rfl, rfl, hn⟩
      have hie : (i : Int) + 1 ≤ e := by omega
      rw [Int.zero_add]
      walk_at "RD"
      have prev : ∀ t', b ≤ t' → b' ≤ t' → t' < (i : Int) → mtAt b c b' c' t' = none := fun t' y1 y2 y3 => by
        have := hn t'.toNat (by omega) (by omega) (by omega)
        rw [show ((t'.toNat : Nat) : Int) = t' by omega] at this
        exact this
      have more : (b ≤ (i : Int) → b' ≤ (i : Int) → mtAt b c b' c' (i : Int) = none) → ∀ (j : Nat), j < i + 1 → b ≤ (j : Int) → b' ≤ (j : Int) → mtAt b c b' c' (j : Int) = none := fun y j hj y1 y2 => by
        rcases Nat.lt_succ_iff_lt_or_eq.mp hj with z | z
        · exact hn j z y1 y2
        · subst z
          exact y y1 y2
      have o1 := plc_or b c (i : Int)
      have o2 := plc_or b' c' (i : Int)
      have o3 := plc_or b c ((i : Int) + 1)
      have o4 := plc_or b' c' ((i : Int) + 1)
      have f1 := at1 (i : Int) (by omega) (by omega)
      have f2 := at2 (i : Int) (by omega) (by omega)
      have f3 := at1 ((i : Int) + 1) (by omega) (by omega)
      have f4 := at2 ((i : Int) + 1) (by omega) (by omega)
      refine ⟨_, SqL.of hl3, _, f1, ?_⟩
      by_cases g1 : (i : Int) < b
      · rw [if_pos (plc_non.mpr g1)]
        exact more fun y1 y2 => by omega
      rw [if_neg (fun z => g1 (plc_non.mp z))]
      refine ⟨_, SqL.of hr3, _, f2, ?_⟩
      by_cases g2 : (i : Int) < b'
      · rw [if_pos (plc_non.mpr g2)]
        exact more fun y1 y2 => by omega
      rw [if_neg (fun z => g2 (plc_non.mp z))]
      refine ⟨_, SqL.of hl3, _, f1, _, SqL.of hr3, _, f2, sc_plc o1 o2, ?_⟩
      by_cases e5 : plc b c (i : Int) = plc b' c' (i : Int)
      · rw [if_pos e5]
        exact ⟨by omega, fun r' nr => hq _ _ (some ((i : Int), sAt)) ((s2.trans s3).trans (same_new nr)) ⟨r', rfl, upd_same⟩ ⟨by omega, by omega, by unfold mtAt mw; rw [if_pos e5], prev⟩⟩
      rw [if_neg e5]
      refine ⟨_, SqL.of hl3, _, f1, _, SqL.of hr3, _, f4, sc_plc o1 o4, ?_⟩
      by_cases e6 : plc b c (i : Int) = plc b' c' ((i : Int) + 1)
      · rw [if_pos e6]
        refine ⟨_, SqL.of hr3, _, f2, _, SqL.of hl3, _, f3, sc_plc o2 o3, ?_⟩
        by_cases e7 : plc b' c' (i : Int) = plc b c ((i : Int) + 1)
        · rw [if_pos e7]
          exact ⟨by omega, fun r' nr => hq _ _ (some ((i : Int), sThrough)) ((s2.trans s3).trans (same_new nr)) ⟨r', rfl, upd_same⟩ ⟨by omega, by omega, by unfold mtAt mw; rw [if_neg e5, if_pos ⟨e7.symm, e6.symm⟩], prev⟩⟩
        · rw [if_neg e7]
          exact more fun _ _ => by unfold mtAt mw; rw [if_neg e5, if_neg (fun z => e7 z.1.symm)]
      · rw [if_neg e6]
        exact more fun _ _ => by unfold mtAt mw; rw [if_neg e5, if_neg (fun z => e6 z.2.symm)]
    · rintro σ H' ⟨x, rfl, rfl, hn⟩
      walk_at "RD"
      refine hq _ _ none (s2.trans s3) rfl (First.none_of hc hc' (e := e - 1) (by omega) (by omega) fun t' g1 g2 g3 => ?_)
      have := hn t'.toNat (by omega) (by omega) (by omega)
      rw [show ((t'.toNat : Nat) : Int) = t' by omega] at this
      exact this
theorem sc_q11 : FnScope ["_law_cell", "_law_most", "_law_size", "_law_spot", "_law_cells", "_law_k", "_law_number"] ["_law_cell", "_law_most"] (defScope s_q11) := ⟨rfl, rfl, rfl, by decide +kernel, rfl, by decide +kernel, by decide +kernel⟩
set_option maxHeartbeats 4000000 in
theorem ok_q11 {fd : FuncData} (F : Fun K "_law_drawn_way" "_law_drawn_way" s_q11 ad.q11 fd) (T : Txt K mg ad) {fd_q28 : FuncData} (B_q28 : Binds K fd_q28 ["_law_cell", "_law_k"] []) (G_q28 : FnOk P w K mg base CX0 1 ad.q28 fd_q28 ["_law_cell", "_law_k"] (spMixed)) : FnOk P w K mg base CX0 2 ad.q11 fd ["_law_cell", "_law_most"] (spDrawn) := by
  refine F.ok sc_q11 (fun vs H Q E h => ?_) (fun cdv A outer s H vs Q E HR h => ?_)
  · obtain ⟨x, m, rfl, _⟩ := h
    rfl
  · obtain ⟨x, m, rfl, x0, x1, m0, m1, hq⟩ := h
    have ND := sc_q11.nd
    have HU0 := HR.units0
    have HU := HR.units
    have hA := HR.hd
    have hz : (100000 : Nat) ≤ sizeLine := by rw [sizeLine_eq]; decide
    refine ⟨_, (pss_cons (ps_set (i := 2) ND rfl (loc_of (Or.inl l_q11__law_size)) (pe_op op_add pe_int (pe_op op_mod (pe_var (i := 0) (x := "_law_cell") rfl (vis_of v_q11__law_cell) d__law_cell e__law_cell) pe_int)))
 (pss_cons (ps_set (i := 3) ND rfl (loc_of (Or.inl l_q11__law_spot)) (pe_op op_mod (pe_op op_fdiv (pe_var (i := 0) (x := "_law_cell") rfl (vis_of v_q11__law_cell) d__law_cell e__law_cell) pe_int) (pe_var (i := 1) (x := "_law_most") rfl (vis_of v_q11__law_most) d__law_most e__law_most)))
 (pss_cons (ps_set (i := 4) ND rfl (loc_of (Or.inl l_q11__law_cells)) (pe_lst pa_nil))
 (pss_cons (ps_for PassesOwn.never (calm0 rfl) (pi_range1 (gl_of g_q11_range) T.b_range (pa_cons (pe_var (i := 2) (x := "_law_size") rfl (vis_of v_q11__law_size) d__law_size e__law_size) pa_nil (stp rfl)) (st1 rfl)) (pg_name (i := 5) ND rfl (loc_of (Or.inl l_q11__law_k)))
 (pss_cons (ps_expr (pe_bm PySem.F.plainAttrs_list PySem.F.slot_list_append PySem.F.type_list_append mt_append (pe_var (i := 4) (x := "_law_cells") rfl (vis_of v_q11__law_cells) d__law_cells e__law_cells) (pa_cons (pe_var (i := 3) (x := "_law_spot") rfl (vis_of v_q11__law_spot) d__law_spot e__law_spot) pa_nil (stp rfl))))
 (pss_cons (ps_set (i := 6) ND rfl (loc_of (Or.inl l_q11__law_number)) (pe_call G_q28 (HR.mono (by decide)) (gl_of g_q11__law_mixed) T.mg_q28 T.k_q28 B_q28 .nil pass0 (pa_cons (pe_var (i := 0) (x := "_law_cell") rfl (vis_of v_q11__law_cell) d__law_cell e__law_cell) (pa_cons (pe_var (i := 5) (x := "_law_k") rfl (vis_of v_q11__law_k) d__law_k e__law_k) pa_nil (stp rfl)) (stp rfl)) (hdb := d__law_mixed) (he := stp rfl) (hpl := anp rfl)))
 (pss_one (ps_if (pt_cmpR op_eq (pe_op op_mod (pe_var (i := 6) (x := "_law_number") rfl (vis_of v_q11__law_number) d__law_number e__law_number) pe_int) pe_int (nomark _))
 (pss_one (ps_set (i := 3) ND rfl (loc_of (Or.inl l_q11__law_spot)) (pe_op op_mod (pe_op op_add (pe_var (i := 3) (x := "_law_spot") rfl (vis_of v_q11__law_spot) d__law_spot e__law_spot) (pe_ix ix_list (pe_lst (pa_cons pe_int (pa_cons (pe_op op_sub (pe_var (i := 1) (x := "_law_most") rfl (vis_of v_q11__law_most) d__law_most e__law_most) pe_int) pa_nil (stp rfl)) (stp rfl))) (pe_op op_mod (pe_op op_fdiv (pe_var (i := 6) (x := "_law_number") rfl (vis_of v_q11__law_number) d__law_number e__law_number) pe_int) pe_int) (fun _ _ => rfl))) (pe_var (i := 1) (x := "_law_most") rfl (vis_of v_q11__law_most) d__law_most e__law_most))))
 (pss_one (ps_if (pt_cmpR op_eq (pe_op op_mod (pe_var (i := 6) (x := "_law_number") rfl (vis_of v_q11__law_number) d__law_number e__law_number) pe_int) pe_int (nomark _))
 (pss_one (ps_set (i := 3) ND rfl (loc_of (Or.inl l_q11__law_spot)) (pe_op op_mod (pe_op op_fdiv (pe_var (i := 6) (x := "_law_number") rfl (vis_of v_q11__law_number) d__law_number e__law_number) pe_int) (pe_var (i := 1) (x := "_law_most") rfl (vis_of v_q11__law_most) d__law_most e__law_most))))
 pss_nil)))))))
 (pss_one (ps_ret (pe_tup (pa_cons (pe_op op_mod (pe_op op_fdiv (pe_op op_fdiv (pe_var (i := 0) (x := "_law_cell") rfl (vis_of v_q11__law_cell) d__law_cell e__law_cell) pe_int) (pe_var (i := 1) (x := "_law_most") rfl (vis_of v_q11__law_most) d__law_most e__law_most)) pe_int) (pa_cons (pe_callTy call_tuple_of (gl_of g_q11_tuple) T.b_tuple PyProof.Rows.Boot.«tuple» (pa_cons (pe_var (i := 4) (x := "_law_cells") rfl (vis_of v_q11__law_cells) d__law_cells e__law_cells) pa_nil (stp rfl)) (hn := n_tuple) (hdb := d_tuple) (he := stp rfl) (hpl := anp rfl)) pa_nil (stp rfl)) (stp rfl))))))))), ?_⟩
    have hx := bits_small x0 (by omega)
    walk_at "RD"
    refine ⟨by decide, ⟨by decide, by decide⟩, by omega, Nat.zero_le _, fun l hl => ⟨by omega, by omega, for_range (fun i σ H' => ∃ (cs : List Int) (s : Int) (k n : Option V), σ = [some (V.int x), some (V.int m), some (V.int (1 + x % 7)), some (V.int s), some (V.ref l), k, n] ∧ H' l = some (.lst (cs.map V.int)) ∧ cs.length = i ∧ Same H H') ⟨[], _, none, none, rfl, upd_same, rfl, same_new hl⟩ ?_ ?_⟩⟩
    · rintro i σ H' hi ⟨cs, s, k, n, rfl, hl', hcs, sm⟩
      walk_at "RD"
      refine ⟨.inl ⟨rfl, _, SqL.of hl'⟩, _, hl', by rw [List.length_map]; omega, _, _, rfl, hx, by omega, by omega, fun r r0 r1 => ⟨_, rfl, by decide, ?_⟩⟩
      have sm2 : Same H (upd H' l (HO.lst (cs.map V.int ++ [V.int s]))) := same_upd sm hl
      have e2 : upd H' l (HO.lst (cs.map V.int ++ [V.int s])) l = some (.lst ((cs ++ [s]).map V.int)) := by rw [upd_same]; simp
      split
      · refine ⟨by omega, fun p np => ⟨_, rfl, ⟨by decide, by decide⟩, by decide, _, SqL.of upd_same, ?_⟩⟩
        have fin : ∃ cs' : List Int, upd (upd H' l (HO.lst (cs.map V.int ++ [V.int s]))) p (HO.lst [V.int 1, V.int (m - 1)]) l = some (HO.lst (cs'.map V.int)) ∧ cs'.length = i + 1 ∧ Same H (upd (upd H' l (HO.lst (cs.map V.int ++ [V.int s]))) p (HO.lst [V.int 1, V.int (m - 1)])) :=
          ⟨_, (same_new np) _ _ e2, by simp; omega, sm2.trans (same_new np)⟩
        rcases (show r / 2 % 2 = 0 ∨ r / 2 % 2 = 1 by omega) with z | z
        · rw [z]; exact ⟨_, rfl, _, rfl, by omega, fin⟩
        · rw [z]; exact ⟨_, rfl, _, rfl, by omega, fin⟩
      · refine ⟨_, rfl, by decide, ?_⟩
        split
        · exact ⟨_, rfl, ⟨by decide, by decide⟩, by omega, _, e2, by simp; omega, sm2⟩
        · exact ⟨_, e2, by simp; omega, sm2⟩
    · rintro σ H' ⟨cs, s, k, n, rfl, hl', hcs, sm⟩
      walk_at "RD"
      refine ⟨⟨by decide, by decide⟩, ⟨by omega, by omega⟩, by decide, _, .inl ⟨SqL.of hl', fun q nq => ⟨by omega, fun p np => hq _ _ cs _ ((sm.trans (same_new nq)).trans (same_new np)) ⟨p, q, rfl, upd_same, ?_⟩ ⟨?_, by omega, by omega, by omega⟩⟩⟩⟩
      · have n : q ≠ p := fun z => by rw [← z, upd_same] at np; cases np
        rw [upd_ne n, upd_same]
      · intro z
        rw [z] at hcs
        simp at hcs
        omega
theorem sc_Lfits : FnScope ["_law_kept", "_law_number", "_law_way", "_law_other"] ["_law_kept", "_law_number", "_law_way"] (defScope s_Lfits) := ⟨rfl, rfl, rfl, by decide +kernel, rfl, by decide +kernel, by decide +kernel⟩
set_option maxHeartbeats 4000000 in
theorem ok_Lfits {fd : FuncData} (F : Fun K "_law_fits" "_law_fits" s_Lfits ad.Lfits fd) (T : Txt K mg ad) {fd_q24 : FuncData} (B_q24 : Binds K fd_q24 ["_law_one", "_law_other"] []) (G_q24 : FnOk P w K mg base CX0 2 ad.q24 fd_q24 ["_law_one", "_law_other"] (spMeeting)) : FnOk P w K mg base CX0 3 ad.Lfits fd ["_law_kept", "_law_number", "_law_way"] (spFits) := by
  refine F.ok sc_Lfits (fun vs H Q E h => ?_) (fun cdv A outer s H vs Q E HR h => ?_)
  · obtain ⟨d, es, n, v, b, c, rfl, _⟩ := h
    rfl
  · obtain ⟨d, es, n, v, b, c, rfl, hk, hw, ty, hq⟩ := h
    have ND := sc_Lfits.nd
    have HU0 := HR.units0
    have HU := HR.units
    have hA := HR.hd
    have hz : (100000 : Nat) ≤ sizeLine := by rw [sizeLine_eq]; decide
    refine ⟨_, (pss_cons (ps_thawK (ps_for PassesOwn.never (calm0 rfl) (pi_dictK (pe_var (i := 0) (x := "_law_kept") rfl (vis_of v_Lfits__law_kept) d__law_kept e__law_kept)) (pg_name (i := 3) ND rfl (loc_of (Or.inl l_Lfits__law_other)))
 (pss_one (ps_if (PW.pt (pw_and (pt_cmpR op_ne (pe_var (i := 3) (x := "_law_other") rfl (vis_of v_Lfits__law_other) d__law_other e__law_other) (pe_var (i := 1) (x := "_law_number") rfl (vis_of v_Lfits__law_number) d__law_number e__law_number) (nomark _)) (pw_and1 (pt_cmpR op_notN (pe_call G_q24 (HR.mono (by decide)) (gl_of g_Lfits__law_meeting) T.mg_q24 T.k_q24 B_q24 .nil pass0 (pa_cons (pe_var (i := 2) (x := "_law_way") rfl (vis_of v_Lfits__law_way) d__law_way e__law_way) (pa_cons (pe_dget (hu1 HU) (pe_var (i := 0) (x := "_law_kept") rfl (vis_of v_Lfits__law_kept) d__law_kept e__law_kept) (pe_var (i := 3) (x := "_law_other") rfl (vis_of v_Lfits__law_other) d__law_other e__law_other) (fun _ _ => rfl)) pa_nil (stp rfl)) (stp rfl)) (hdb := d__law_meeting) (he := stp rfl) (hpl := anp rfl)) pe_non (nomark _)))))
 (pss_one (ps_ret pe_bl))
 pss_nil))))
 (pss_one (ps_ret pe_bl))), ?_⟩
    obtain ⟨h2, en⟩ := id hk
    have el := en.len
    have nt : ∀ xs, H d ≠ some (.tup xs) := fun xs z => by rw [h2] at z; cases z
    walk_at "RD"
    refine .inl ⟨d, dw es, h2, dw es, .inl ⟨h2, fun o => for_dictK (fun i σ H' => ∃ x, SameB d H H' ∧ H' d = some (.frz o (.dK (dw es))) ∧ σ = [some (V.ref d), some (V.int n), some v, x] ∧ ∀ (j : Nat) (e : Ent), j < i → es[j]? = some e → e.k ≠ n → ¬ Mt b c e.b e.c) ⟨none, sameB_upd (same_b (Same.refl _)), upd_same, rfl, fun j e hj => absurd hj (Nat.not_lt_zero j)⟩ (fun i σ H' _ ⟨_, _, hf, _⟩ => hf) ?_ ?_⟩⟩
    · rintro i k v' σ H' hi ⟨x, sB, hf, rfl, hn⟩
      obtain ⟨e, he, rfl, rfl⟩ := dw_at hi
      have hm := List.mem_of_getElem? he
      have tp := sB.tups nt
      have more : (e.k ≠ n → ¬ Mt b c e.b e.c) → ∀ (j : Nat) (e : Ent), j < i + 1 → es[j]? = some e → e.k ≠ n → ¬ Mt b c e.b e.c := fun y j e' hj he' => by
        rcases Nat.lt_succ_iff_lt_or_eq.mp hj with w | w
        · exact hn j e' w he'
        · rw [w, he] at he'
          cases he'
          exact y
      walk_at "RD"
      refine ⟨rfl, ?_⟩
      by_cases z : e.k = n
      · rw [if_neg (by simp [kV, z])]
        exact ⟨sB, hf, more fun y => absurd z y⟩
      · rw [if_pos (fun y => by cases y; exact z rfl)]
        refine ⟨e.v, fz_get hf en.nd hm, v, b, c, e.v, e.b, e.c, rfl, WayAt.tups tp hw, WayAt.tups tp (en.ok e hm).1, ty, (en.ok e hm).2.1, fun r H2 o2 s2 hr hfst => ?_⟩
        have hf2 := s2 _ _ hf
        have sB2 : SameB d H H2 := fun b o hb n => s2 _ _ (sB b o hb n)
        show (if ¬ r = V.non then _ else _)
        cases o2 with
        | none =>
          rw [if_neg (by simp [show r = V.non from hr])]
          exact ⟨sB2, hf2, more fun _ hm' => absurd ((mt_iff hfst).mp hm') (by simp)⟩
        | some w =>
          obtain ⟨t', w'⟩ := w
          obtain ⟨r', rfl, _⟩ := hr
          rw [if_pos (by simp)]
          exact ⟨⟨o, hf2⟩, hq _ false (thaw_same h2 sB2) ⟨fun y => (by cases y), fun pi => absurd ((mt_iff hfst).mpr rfl) (pi e hm z)⟩⟩
    · rintro σ H' ⟨x, sB, hf, rfl, hn⟩
      refine ⟨⟨o, hf⟩, hq _ true (thaw_same h2 sB) ⟨fun _ e he => ?_, fun _ => rfl⟩⟩
      obtain ⟨i, hi⟩ := List.mem_iff_getElem?.mp he
      exact hn i e (by rw [dw_len]; exact (List.getElem?_eq_some_iff.mp hi).1) hi
set_option maxHeartbeats 4000000 in
theorem okM_Lfits {fd : FuncData} (F : Fun K "_law_fits" "_law_fits" s_Lfits ad.Lfits fd) (T : Txt K mg ad) {fd_q24 : FuncData} (B_q24 : Binds K fd_q24 ["_law_one", "_law_other"] []) (GM_q24 : ∀ {ea C : Addr} {dx : Option Addr} {ob : Obj}, MkO C dx ob → FnOkM P w K mg base ea ob 2 ad.q24 fd_q24 ["_law_one", "_law_other"] (spMeeting)) {ea C : Addr} {dx : Option Addr} {ob : Obj} (mk : MkO C dx ob) : FnOkM P w K mg base ea ob 3 ad.Lfits fd ["_law_kept", "_law_number", "_law_way"] (spFits) := by
  refine F.okM mk sc_Lfits (fun vs H Q E h => ?_) (fun cdv A outer s H vs Q HRM CM HH h => ?_)
  · obtain ⟨d, es, n, v, b, c, rfl, _⟩ := h
    rfl
  · obtain ⟨d, es, n, v, b, c, rfl, hk, hw, ty, hq⟩ := h
    have ND := sc_Lfits.nd
    have HU0 := HRM.units0
    have HU := HRM.units
    have hz : (100000 : Nat) ≤ sizeLine := by rw [sizeLine_eq]; decide
    refine ⟨_, (pss_cons (ps_thawK (ps_for PassesOwn.never CM (pi_dictK (pe_var (i := 0) (x := "_law_kept") rfl (vis_of v_Lfits__law_kept) d__law_kept e__law_kept)) (pg_name (i := 3) ND rfl (loc_of (Or.inl l_Lfits__law_other)))
 (pss_one (ps_if (PW.pt (pw_and (pt_cmpR op_ne (pe_var (i := 3) (x := "_law_other") rfl (vis_of v_Lfits__law_other) d__law_other e__law_other) (pe_var (i := 1) (x := "_law_number") rfl (vis_of v_Lfits__law_number) d__law_number e__law_number) (nomark _)) (pw_and1 (pt_cmpR op_notN (pe_callM (GM_q24 mk) (mkd_m HH) (HRM.mono (by decide)) (gl_of g_Lfits__law_meeting) T.mg_q24 T.k_q24 B_q24 (pa_cons (pe_var (i := 2) (x := "_law_way") rfl (vis_of v_Lfits__law_way) d__law_way e__law_way) (pa_cons (pe_dget (hu1 HU) (pe_var (i := 0) (x := "_law_kept") rfl (vis_of v_Lfits__law_kept) d__law_kept e__law_kept) (pe_var (i := 3) (x := "_law_other") rfl (vis_of v_Lfits__law_other) d__law_other e__law_other) (fun _ _ => rfl)) pa_nil (stp rfl)) (stp rfl)) (hdb := d__law_meeting) (he := stp rfl) (hpl := anp rfl)) pe_non (nomark _)))))
 (pss_one (ps_ret pe_bl))
 pss_nil))))
 (pss_one (ps_ret pe_bl))), ?_⟩
    obtain ⟨h2, en⟩ := id hk
    have el := en.len
    have nt : ∀ xs, H d ≠ some (.tup xs) := fun xs z => by rw [h2] at z; cases z
    walk_at "RD"
    refine .inl ⟨d, dw es, h2, dw es, .inl ⟨h2, fun o => for_dictK (fun i σ H' => ∃ x, SameB d H H' ∧ H' d = some (.frz o (.dK (dw es))) ∧ σ = [some (V.ref d), some (V.int n), some v, x] ∧ ∀ (j : Nat) (e : Ent), j < i → es[j]? = some e → e.k ≠ n → ¬ Mt b c e.b e.c) ⟨none, sameB_upd (same_b (Same.refl _)), upd_same, rfl, fun j e hj => absurd hj (Nat.not_lt_zero j)⟩ (fun i σ H' _ ⟨_, _, hf, _⟩ => hf) ?_ ?_⟩⟩
    · rintro i k v' σ H' hi ⟨x, sB, hf, rfl, hn⟩
      obtain ⟨e, he, rfl, rfl⟩ := dw_at hi
      have hm := List.mem_of_getElem? he
      have tp := sB.tups nt
      have more : (e.k ≠ n → ¬ Mt b c e.b e.c) → ∀ (j : Nat) (e : Ent), j < i + 1 → es[j]? = some e → e.k ≠ n → ¬ Mt b c e.b e.c := fun y j e' hj he' => by
        rcases Nat.lt_succ_iff_lt_or_eq.mp hj with w | w
        · exact hn j e' w he'
        · rw [w, he] at he'
          cases he'
          exact y
      walk_at "RD"
      refine ⟨rfl, ?_⟩
      by_cases z : e.k = n
      · rw [if_neg (by simp [kV, z])]
        exact ⟨sB, hf, more fun y => absurd z y⟩
      · rw [if_pos (fun y => by cases y; exact z rfl)]
        refine ⟨e.v, fz_get hf en.nd hm, v, b, c, e.v, e.b, e.c, rfl, WayAt.tups tp hw, WayAt.tups tp (en.ok e hm).1, ty, (en.ok e hm).2.1, fun r H2 o2 s2 hr hfst => ?_⟩
        have hf2 := s2 _ _ hf
        have sB2 : SameB d H H2 := fun b o hb n => s2 _ _ (sB b o hb n)
        show (if ¬ r = V.non then _ else _)
        cases o2 with
        | none =>
          rw [if_neg (by simp [show r = V.non from hr])]
          exact ⟨sB2, hf2, more fun _ hm' => absurd ((mt_iff hfst).mp hm') (by simp)⟩
        | some w =>
          obtain ⟨t', w'⟩ := w
          obtain ⟨r', rfl, _⟩ := hr
          rw [if_pos (by simp)]
          exact ⟨⟨o, hf2⟩, hq _ false (thaw_same h2 sB2) ⟨fun y => (by cases y), fun pi => absurd ((mt_iff hfst).mpr rfl) (pi e hm z)⟩⟩
    · rintro σ H' ⟨x, sB, hf, rfl, hn⟩
      refine ⟨⟨o, hf⟩, hq _ true (thaw_same h2 sB) ⟨fun _ e he => ?_, fun _ => rfl⟩⟩
      obtain ⟨i, hi⟩ := List.mem_iff_getElem?.mp he
      exact hn i e (by rw [dw_len]; exact (List.getElem?_eq_some_iff.mp hi).1) hi
theorem sc_q27 : FnScope ["_law_script", "_law_book", "_law_kept", "_law_most", "_law_number", "_law_way"] ["_law_script", "_law_book", "_law_kept", "_law_most"] (defScope s_q27) := ⟨rfl, rfl, rfl, by decide +kernel, rfl, by decide +kernel, by decide +kernel⟩
set_option maxHeartbeats 4000000 in
theorem ok_q27 {fd : FuncData} (F : Fun K "_law_filled" "_law_filled" s_q27 ad.q27 fd) (T : Txt K mg ad) {fd_q23 : FuncData} (B_q23 : Binds K fd_q23 ["_law_script", "_law_k"] []) (G_q23 : FnOk P w K mg base CX0 1 ad.q23 fd_q23 ["_law_script", "_law_k"] (spCell K)) {fd_q28 : FuncData} (B_q28 : Binds K fd_q28 ["_law_cell", "_law_k"] []) (G_q28 : FnOk P w K mg base CX0 1 ad.q28 fd_q28 ["_law_cell", "_law_k"] (spMixed)) {fd_q11 : FuncData} (B_q11 : Binds K fd_q11 ["_law_cell", "_law_most"] []) (G_q11 : FnOk P w K mg base CX0 2 ad.q11 fd_q11 ["_law_cell", "_law_most"] (spDrawn)) {fd_Lfits : FuncData} (B_Lfits : Binds K fd_Lfits ["_law_kept", "_law_number", "_law_way"] []) (G_Lfits : FnOk P w K mg base CX0 3 ad.Lfits fd_Lfits ["_law_kept", "_law_number", "_law_way"] (spFits)) {fd_q20 : FuncData} (B_q20 : Binds K fd_q20 ["self", "number", "way"] []) (G_q20 : FnOk P w K mg base (CXE P w) 5 ad.q20 fd_q20 ["self", "number", "way"] (spPut ad)) : FnOk P w K mg base CX0 6 ad.q27 fd ["_law_script", "_law_book", "_law_kept", "_law_most"] (spFilled ad K) := by
  refine F.ok sc_q27 (fun vs H Q E h => ?_) (fun cdv A outer s H vs Q E HR h => ?_)
  · obtain ⟨a, p, d, e, ns, m, rfl, _⟩ := h
    rfl
  · obtain ⟨a, p, d, e, ns, m, rfl, hS, hbt, m0, m1, tw, hq⟩ := h
    have ND := sc_q27.nd
    have HU0 := HR.units0
    have HU := HR.units
    have hA := HR.hd
    have hz : (100000 : Nat) ≤ sizeLine := by rw [sizeLine_eq]; decide
    refine ⟨_, (pss_one (ps_for PassesOwn.never (calm0 rfl) (pi_range1 (gl_of g_q27_range) T.b_range (pa_cons (pe_op op_mod (pe_call G_q23 (HR.mono (by decide)) (gl_of g_q27__law_cell_at) T.mg_q23 T.k_q23 B_q23 .nil pass0 (pa_cons (pe_var (i := 0) (x := "_law_script") rfl (vis_of v_q27__law_script) d__law_script e__law_script) (pa_cons pe_int pa_nil (stp rfl)) (stp rfl)) (hdb := d__law_cell_at) (he := stp rfl) (hpl := anp rfl)) pe_int) pa_nil (stp rfl)) (st1 rfl)) (pg_name (i := 4) ND rfl (loc_of (Or.inl l_q27__law_number)))
 (pss_cons (ps_set (i := 5) ND rfl (loc_of (Or.inl l_q27__law_way)) (pe_call G_q11 (HR.mono (by decide)) (gl_of g_q27__law_drawn_way) T.mg_q11 T.k_q11 B_q11 .nil pass0 (pa_cons (pe_call G_q28 (HR.mono (by decide)) (gl_of g_q27__law_mixed) T.mg_q28 T.k_q28 B_q28 .nil pass0 (pa_cons (pe_call G_q23 (HR.mono (by decide)) (gl_of g_q27__law_cell_at) T.mg_q23 T.k_q23 B_q23 .nil pass0 (pa_cons (pe_var (i := 0) (x := "_law_script") rfl (vis_of v_q27__law_script) d__law_script e__law_script) (pa_cons (pe_op op_add pe_int (pe_var (i := 4) (x := "_law_number") rfl (vis_of v_q27__law_number) d__law_number e__law_number)) pa_nil (stp rfl)) (stp rfl)) (hdb := d__law_cell_at) (he := stp rfl) (hpl := anp rfl)) (pa_cons (pe_var (i := 4) (x := "_law_number") rfl (vis_of v_q27__law_number) d__law_number e__law_number) pa_nil (stp rfl)) (stp rfl)) (hdb := d__law_mixed) (he := stp rfl) (hpl := anp rfl)) (pa_cons (pe_var (i := 3) (x := "_law_most") rfl (vis_of v_q27__law_most) d__law_most e__law_most) pa_nil (stp rfl)) (stp rfl)) (hdb := d__law_drawn_way) (he := stp rfl) (hpl := anp rfl)))
 (pss_one (ps_if (pt_val (pe_call G_Lfits (HR.mono (by decide)) (gl_of g_q27__law_fits) T.mg_Lfits T.k_Lfits B_Lfits .nil pass0 (pa_cons (pe_var (i := 2) (x := "_law_kept") rfl (vis_of v_q27__law_kept) d__law_kept e__law_kept) (pa_cons (pe_var (i := 4) (x := "_law_number") rfl (vis_of v_q27__law_number) d__law_number e__law_number) (pa_cons (pe_var (i := 5) (x := "_law_way") rfl (vis_of v_q27__law_way) d__law_way e__law_way) pa_nil (stp rfl)) (stp rfl)) (stp rfl)) (hdb := d__law_fits) (he := stp rfl) (hpl := anp rfl)))
 (pss_cons (ps_expr (pe_methX (pe_var (i := 1) (x := "_law_book") rfl (vis_of v_q27__law_book) d__law_book e__law_book) T.cl_Book T.m_q20 G_q20 (HR.mono (by decide)) B_q20 .nil xc_no (pa_cons (pe_var (i := 4) (x := "_law_number") rfl (vis_of v_q27__law_number) d__law_number e__law_number) (pa_cons (pe_var (i := 5) (x := "_law_way") rfl (vis_of v_q27__law_way) d__law_way e__law_way) pa_nil (stp rfl)) (stp rfl)) (hst := stp rfl) (hpl := anp rfl)))
 (pss_one (ps_dput (hu1 HU) (pe_var (i := 2) (x := "_law_kept") rfl (vis_of v_q27__law_kept) d__law_kept e__law_kept) (pe_var (i := 4) (x := "_law_number") rfl (vis_of v_q27__law_number) d__law_number e__law_number) (pe_var (i := 5) (x := "_law_way") rfl (vis_of v_q27__law_way) d__law_way e__law_way) rfl)))
 pss_nil))))), ?_⟩
    walk_at "RD"
    refine ⟨a, ns, _, rfl, hS, hbt, by decide, fun c cb => ⟨c, rfl, by decide, by omega, by omega, for_range (n := (c % 6).toNat) (fun i σ H' => ∃ (es : List Ent) (x y : Option V), But2 d e H H' ∧ Two ad.C_Book H' p d e es ∧ σ = [some (V.ref a), some (V.ref p), some (V.ref e), some (V.int m), x, y]) ⟨[], none, none, but2_of (Same.refl _), tw, rfl⟩ ?_ ?_⟩⟩
    · rintro i σ H' hi ⟨es, x, y, bt, tw', rfl⟩
      rw [Int.zero_add]
      walk_at "RD"
      refine ⟨a, ns, _, rfl, bt.seq tw.bk.tb tw.kp hS, hbt, by omega, fun c2 cb2 => ⟨c2, _, rfl, cb2, by omega, by omega, fun x x0 x1 => ⟨x, m, rfl, x0, x1, m0, m1, fun v b c H2 s2 wy ty => ?_⟩⟩⟩
      refine ⟨e, es, (i : Nat), v, b, c, rfl, (tw'.same s2).k, wy, ty, fun H3 r s3 hr => ⟨r, rfl, ?_⟩⟩
      have tw3 := (tw'.same s2).same s3
      have bt3 := bt.trans (but2_of (s2.trans s3))
      have wy3 := wy.same s3
      obtain ⟨⟨dx, ho⟩, hd⟩ := id tw3.bk
      cases r with
      | false =>
        rw [if_neg (by decide)]
        exact ⟨bt3, _, tw3, _, rfl⟩
      | true =>
        rw [if_pos rfl]
        have PI := hr.mp rfl
        refine ⟨_, _, ho, w_no d (by decide +kernel), p, d, es, (i : Nat), v, b, c, rfl, tw3.bk, tw3.en, wy3, ty, fun H4 s4 => ⟨fun _ => ?_, fun k x PI' hx => ?_⟩⟩
        · have tw4 := tw3.same s4
          have el := tw4.en.len
          have e4 : upd H4 d (HO.dK (dw (putE es ⟨(i : Nat), v, b, c⟩))) e = some (.dK (dw es)) := by rw [upd_ne tw4.ne.symm]; exact tw4.kp
          refine ⟨_, DPut.k (k := .inl ((i : Nat) : Int)) e4 (by rw [dw_len]; omega), ?_⟩
          rw [dw_put es ⟨(i : Nat), v, b, c⟩]
          exact ⟨(bt3.trans (but2_of s4)).trans but2_set, _, tw4.set (tw4.en.put ⟨wy3.same s4, ty, show KeyOk ((i : Nat) : Int) from .inl ⟨by omega, by omega⟩⟩) (tw4.ap.put PI), _, rfl⟩
        · have := PI.uniq PI'
          cases this
    · rintro σ H' ⟨es, x, y, bt, tw', rfl⟩
      exact hq _ es bt tw'
theorem sc_Lend : FnScope ["_law_kept"] ["_law_kept"] (defScope s_Lend) := ⟨rfl, rfl, rfl, by decide +kernel, rfl, by decide +kernel, by decide +kernel⟩
set_option maxHeartbeats 4000000 in
theorem ok_Lend {fd : FuncData} (F : Fun K "_law_end" "_law_end" s_Lend ad.Lend fd) (T : Txt K mg ad) : FnOk P w K mg base CX0 1 ad.Lend fd ["_law_kept"] (spEnd) := by
  refine F.ok sc_Lend (fun vs H Q E h => ?_) (fun cdv A outer s H vs Q E HR h => ?_)
  · obtain ⟨d, es, rfl, _⟩ := h
    rfl
  · obtain ⟨d, es, rfl, hk, hq⟩ := h
    have ND := sc_Lend.nd
    have HU0 := HR.units0
    have HU := HR.units
    have hA := HR.hd
    have hz : (100000 : Nat) ≤ sizeLine := by rw [sizeLine_eq]; decide
    refine ⟨_, (pss_one (ps_ret (pe_op op_add pe_int (pe_maxD rfl (gl_of g_Lend_max) T.b_max (pa_cons (pe_thawK (pe_comp (CompScope.of (osc := defScope s_Lend) (tn := ["_law_way"]) (cn := []) (caps := []) rfl rfl (by decide +kernel) (by decide +kernel) (by decide +kernel) (by decide +kernel) rfl) (calm0 rfl)  (pi_vals (pe_var (i := 0) (x := "_law_kept") rfl (vis_of v_Lend__law_kept) d__law_kept e__law_kept))
 (fun _ _ _ _ _ => (pg_name (i := 0) (show (["_law_way"] : List Str).Nodup by decide +kernel) rfl (Or.inl rfl))) (fun _ _ _ _ _ => pts_nil) (fun _ _ _ _ _ => (pe_op op_add (pe_ix (ix_tupK (K := K) rfl) (pv 0) pe_int (fun _ _ => rfl)) (pe_callB (call_len_seqK (K := K) rfl) (by rfl) T.b_len PyProof.Rows.Boot.«len» (pa_cons (pe_ix (ix_tupK (K := K) rfl) (pv 0) pe_int (fun _ _ => rfl)) pa_nil (stp rfl)) (hn := n_len) (hdb := d_len) (he := stp rfl) (hpl := anp rfl)))))) pa_nil (stp rfl)) pe_int (st1 rfl))))), ?_⟩
    obtain ⟨h2, en⟩ := id hk
    have el := en.len
    have nt : ∀ xs, H d ≠ some (.tup xs) := fun xs z => by rw [h2] at z; cases z
    walk_at "RD"
    refine .inl ⟨d, dw es, h2, dw es, h2, fun o => ?_⟩
    have S : SrcIs (Itv d o (dw es)) (upd H d (.frz o (.dK (dw es)))) (es.map (·.v)) := by
      have := src_vals (a := d) (o := o) (kvs := dw es) (H := upd H d (.frz o (.dK (dw es)))) upd_same
      rw [dw_vals] at this
      exact this
    have sf : SameB d H (upd H d (.frz o (.dK (dw es)))) := sameB_upd (same_b (Same.refl _))
    refine comp_of (g := fun e => .int (endT e)) S (fun _ => true) (fun y hy Q' hh => hh) (fun e he _ Q' hh => ?_) (by omega) (fun D nD => ?_)
    · obtain ⟨q, w, ev, h3, h4⟩ := WayAt.tups (sf.tups nt) (en.ok e he).1
      walk_at "RD"
      exact ⟨q, ev, _, SqT.of h3, _, rfl, q, ev, _, SqT.of h3, _, rfl, w, rfl, _, .inr (SqT.of h4), _, rfl, by rw [List.length_map]; exact hh⟩
    · have Dd : D ≠ d := fun z => by rw [z, upd_same] at nD; cases nD
      rw [List.filter_eq_self.mpr (fun _ _ => rfl)]
      refine ⟨⟨o, by rw [upd_ne Dd.symm, upd_same]⟩, es.map endT, SqL.of (by rw [upd_ne Dd, upd_same, List.map_map]; rfl), fun m hm => hq _ _ (thaw_same h2 (sf.new nD)) (end_of en hm)⟩
theorem sc_Lwho : FnScope ["_law_kept", "_law_place", "_law_time", "_law_number"] ["_law_kept", "_law_place", "_law_time"] (defScope s_Lwho) := ⟨rfl, rfl, rfl, by decide +kernel, rfl, by decide +kernel, by decide +kernel⟩
set_option maxHeartbeats 4000000 in
theorem ok_Lwho {fd : FuncData} (F : Fun K "_law_who" "_law_who" s_Lwho ad.Lwho fd) (T : Txt K mg ad) {fd_Lrows : FuncData} (B_Lrows : Binds K fd_Lrows ["_law_way", "_law_end_here"] []) (G_Lrows : FnOk P w K mg base CX0 1 ad.Lrows fd_Lrows ["_law_way", "_law_end_here"] (spRowsN)) : FnOk P w K mg base CX0 2 ad.Lwho fd ["_law_kept", "_law_place", "_law_time"] (spLWho) := by
  refine F.ok sc_Lwho (fun vs H Q E h => ?_) (fun cdv A outer s H vs Q E HR h => ?_)
  · obtain ⟨d, es, cell, t, rfl, _⟩ := h
    rfl
  · obtain ⟨d, es, cell, t, rfl, hk, t0, t1, hq⟩ := h
    have ND := sc_Lwho.nd
    have HU0 := HR.units0
    have HU := HR.units
    have hA := HR.hd
    have hz : (100000 : Nat) ≤ sizeLine := by rw [sizeLine_eq]; decide
    refine ⟨_, (pss_cons (ps_thawK (ps_for PassesOwn.never (calm0 rfl) (pi_dictK (pe_var (i := 0) (x := "_law_kept") rfl (vis_of v_Lwho__law_kept) d__law_kept e__law_kept)) (pg_name (i := 3) ND rfl (loc_of (Or.inl l_Lwho__law_number)))
 (pss_one (ps_if (pt_cmpR op_eq (pe_ix ix_list (pe_call G_Lrows (HR.mono (by decide)) (gl_of g_Lwho__law_rows) T.mg_Lrows T.k_Lrows B_Lrows .nil pass0 (pa_cons (pe_dget (hu1 HU) (pe_var (i := 0) (x := "_law_kept") rfl (vis_of v_Lwho__law_kept) d__law_kept e__law_kept) (pe_var (i := 3) (x := "_law_number") rfl (vis_of v_Lwho__law_number) d__law_number e__law_number) (fun _ _ => rfl)) (pa_cons (pe_var (i := 2) (x := "_law_time") rfl (vis_of v_Lwho__law_time) d__law_time e__law_time) pa_nil (stp rfl)) (stp rfl)) (hdb := d__law_rows) (he := stp rfl) (hpl := anp rfl)) (pe_var (i := 2) (x := "_law_time") rfl (vis_of v_Lwho__law_time) d__law_time e__law_time) (fun _ _ => rfl)) (pe_var (i := 1) (x := "_law_place") rfl (vis_of v_Lwho__law_place) d__law_place e__law_place) (nomark _))
 (pss_one (ps_ret (pe_var (i := 3) (x := "_law_number") rfl (vis_of v_Lwho__law_number) d__law_number e__law_number)))
 pss_nil))))
 (pss_one (ps_ret pe_non))), ?_⟩
    obtain ⟨h2, en⟩ := id hk
    have el := en.len
    have nt : ∀ xs, H d ≠ some (.tup xs) := fun xs z => by rw [h2] at z; cases z
    walk_at "RD"
    refine .inl ⟨d, dw es, h2, dw es, .inl ⟨h2, fun o => for_dictK (fun i σ H' => ∃ x, SameB d H H' ∧ H' d = some (.frz o (.dK (dw es))) ∧ σ = [some (V.ref d), some (V.int cell), some (V.int t), x] ∧ ∀ (j : Nat) (e : Ent), j < i → es[j]? = some e → plc e.b e.c t ≠ .int cell) ⟨none, sameB_upd (same_b (Same.refl _)), upd_same, rfl, fun j e hj => absurd hj (Nat.not_lt_zero j)⟩ (fun i σ H' _ ⟨_, _, hf, _⟩ => hf) ?_ ?_⟩⟩
    · rintro i k v σ H' hi ⟨x, sB, hf, rfl, hn⟩
      obtain ⟨e, he, rfl, rfl⟩ := dw_at hi
      have hm := List.mem_of_getElem? he
      have wy := WayAt.tups (sB.tups nt) (en.ok e hm).1
      obtain ⟨t1', t2', t3', t4'⟩ := (en.ok e hm).2.1
      walk_at "RD"
      refine ⟨e.v, fz_get hf en.nd hm, e.v, e.b, e.c, t, rfl, wy, t1', t2', t3', t4', t0, by omega, fun l H1 N nl s1 hl hN1 hN2 hN3 => ⟨l, rfl, _, SqL.of hl, plc e.b e.c t, ?_, sc_plc (plc_or _ _ _) (.inr ⟨_, rfl⟩), ?_⟩⟩
      · obtain ⟨j, rfl⟩ := Int.eq_ofNat_of_zero_le t0
        exact atI_nat (by rw [List.getElem?_map, List.getElem?_range (by omega)]; rfl)
      have hf1 := s1 _ _ hf
      have sB1 : SameB d H H1 := fun b o hb n => s1 _ _ (sB b o hb n)
      split
      · rename_i z
        have := hq _ (thaw_same h2 sB1)
        rw [who_at hn he z] at this
        exact ⟨⟨o, hf1⟩, this⟩
      · rename_i z
        refine ⟨sB1, hf1, fun j e' hj he' => ?_⟩
        rcases Nat.lt_succ_iff_lt_or_eq.mp hj with y | y
        · exact hn j e' y he'
        · rw [y, he] at he'
          cases he'
          exact z
    · rintro σ H' ⟨x, sB, hf, rfl, hn⟩
      have := hq _ (thaw_same h2 sB)
      rw [who_no (fun i e hi => hn i e (by rw [dw_len]; exact (List.getElem?_eq_some_iff.mp hi).1) hi)] at this
      exact ⟨⟨o, hf⟩, this⟩
theorem sc_q25 : FnScope ["_law_kept", "_law_number", "_law_place", "_law_other", "_law_time", "_law_one", "_law_here", "_law_there"] ["_law_kept", "_law_number", "_law_place", "_law_other", "_law_time"] (defScope s_q25) := ⟨rfl, rfl, rfl, by decide +kernel, rfl, by decide +kernel, by decide +kernel⟩
set_option maxHeartbeats 4000000 in
theorem ok_q25 {fd : FuncData} (F : Fun K "_law_is_open" "_law_is_open" s_q25 ad.q25 fd) (T : Txt K mg ad) {fd_Lrows : FuncData} (B_Lrows : Binds K fd_Lrows ["_law_way", "_law_end_here"] []) (G_Lrows : FnOk P w K mg base CX0 1 ad.Lrows fd_Lrows ["_law_way", "_law_end_here"] (spRowsN)) : FnOk P w K mg base CX0 2 ad.q25 fd ["_law_kept", "_law_number", "_law_place", "_law_other", "_law_time"] (spLOpen) := by
  refine F.ok sc_q25 (fun vs H Q E h => ?_) (fun cdv A outer s H vs Q E HR h => ?_)
  · obtain ⟨d, es, n, cell, other, t, rfl, _⟩ := h
    rfl
  · obtain ⟨d, es, n, cell, other, t, rfl, hk, t0, t1, hq⟩ := h
    have ND := sc_q25.nd
    have HU0 := HR.units0
    have HU := HR.units
    have hA := HR.hd
    have hz : (100000 : Nat) ≤ sizeLine := by rw [sizeLine_eq]; decide
    refine ⟨_, (pss_cons (ps_thawK (ps_for PassesOwn.never (calm0 rfl) (pi_dictK (pe_var (i := 0) (x := "_law_kept") rfl (vis_of v_q25__law_kept) d__law_kept e__law_kept)) (pg_name (i := 5) ND rfl (loc_of (Or.inl l_q25__law_one)))
 (pss_cons (ps_asg (pe_slice sl_list (pe_call G_Lrows (HR.mono (by decide)) (gl_of g_q25__law_rows) T.mg_Lrows T.k_Lrows B_Lrows .nil pass0 (pa_cons (pe_dget (hu1 HU) (pe_var (i := 0) (x := "_law_kept") rfl (vis_of v_q25__law_kept) d__law_kept e__law_kept) (pe_var (i := 5) (x := "_law_one") rfl (vis_of v_q25__law_one) d__law_one e__law_one) (fun _ _ => rfl)) (pa_cons (pe_op op_add (pe_var (i := 4) (x := "_law_time") rfl (vis_of v_q25__law_time) d__law_time e__law_time) pe_int) pa_nil (stp rfl)) (stp rfl)) (hdb := d__law_rows) (he := stp rfl) (hpl := anp rfl)) (po_some (pe_var (i := 4) (x := "_law_time") rfl (vis_of v_q25__law_time) d__law_time e__law_time)) (po_some (pe_op op_add (pe_var (i := 4) (x := "_law_time") rfl (vis_of v_q25__law_time) d__law_time e__law_time) pe_int))) (pg_tupL (n := 2) rfl (pgs_cons (pg_name (i := 6) ND rfl (loc_of (Or.inl l_q25__law_here))) (pgs_cons (pg_name (i := 7) ND rfl (loc_of (Or.inl l_q25__law_there))) pgs_nil))))
 (pss_one (ps_if (PW.pt (pw_and (pt_cmpR op_ne (pe_var (i := 5) (x := "_law_one") rfl (vis_of v_q25__law_one) d__law_one e__law_one) (pe_var (i := 1) (x := "_law_number") rfl (vis_of v_q25__law_number) d__law_number e__law_number) (nomark _)) (pw_and1 (PW.pt (pw_or (pt_cmpR op_eq (pe_var (i := 7) (x := "_law_there") rfl (vis_of v_q25__law_there) d__law_there e__law_there) (pe_var (i := 3) (x := "_law_other") rfl (vis_of v_q25__law_other) d__law_other e__law_other) (nomark _)) (pw_or1 (PW.pt (pw_and (pt_cmpR op_eq (pe_var (i := 6) (x := "_law_here") rfl (vis_of v_q25__law_here) d__law_here e__law_here) (pe_var (i := 3) (x := "_law_other") rfl (vis_of v_q25__law_other) d__law_other e__law_other) (nomark _)) (pw_and1 (pt_cmpR op_eq (pe_var (i := 7) (x := "_law_there") rfl (vis_of v_q25__law_there) d__law_there e__law_there) (pe_var (i := 2) (x := "_law_place") rfl (vis_of v_q25__law_place) d__law_place e__law_place) (nomark _)))))))))))
 (pss_one (ps_ret pe_bl))
 pss_nil)))))
 (pss_one (ps_ret pe_bl))), ?_⟩
    obtain ⟨h2, en⟩ := id hk
    have el := en.len
    have nt : ∀ xs, H d ≠ some (.tup xs) := fun xs z => by rw [h2] at z; cases z
    obtain ⟨tn, rfl⟩ := Int.eq_ofNat_of_zero_le t0
    walk_at "RD"
    refine .inl ⟨d, dw es, h2, dw es, .inl ⟨h2, fun o => for_dictK (fun i σ H' => ∃ x y z, SameB d H H' ∧ H' d = some (.frz o (.dK (dw es))) ∧ OpenIs (besd (es.take i) n) cell other (tn : Int) ∧ σ = [some (V.ref d), some (V.int n), some (V.int cell), some (V.int other), some (V.int (tn : Int)), x, y, z]) ⟨none, none, none, sameB_upd (same_b (Same.refl _)), upd_same, open_0, rfl⟩ (fun i σ H' _ ⟨_, _, _, _, hf, _⟩ => hf) ?_ ?_⟩⟩
    · rintro i k v σ H' hi ⟨x, y, z, sB, hf, ho, rfl⟩
      obtain ⟨e, he, rfl, rfl⟩ := dw_at hi
      have hm := List.mem_of_getElem? he
      have wy := WayAt.tups (sB.tups nt) (en.ok e hm).1
      obtain ⟨t1', t2', t3', t4'⟩ := (en.ok e hm).2.1
      have tk := besd_take (n := n) he
      walk_at "RD"
      refine ⟨e.v, fz_get hf en.nd hm, e.v, e.b, e.c, _, rfl, wy, t1', t2', t3', t4', by omega, by omega, fun l H1 N nl s1 hl hN1 hN2 hN3 => ⟨l, rfl, _, SqL.of hl, fun q nq => ?_⟩⟩
      rw [cut_two (by omega)]
      have hf1 := (same_new (o := HO.lst [plc e.b e.c (tn : Int), plc e.b e.c ((tn : Int) + 1)]) nq) _ _ (s1 _ _ hf)
      have sB1 : SameB d H (upd H1 q (HO.lst [plc e.b e.c (tn : Int), plc e.b e.c ((tn : Int) + 1)])) := fun b o hb n => (same_new nq) _ _ (s1 _ _ (sB b o hb n))
      have no : e.k ≠ n → (plc e.b e.c ((tn : Int) + 1) = .int other ∨ (plc e.b e.c (tn : Int) = .int other ∧ plc e.b e.c ((tn : Int) + 1) = .int cell)) → (false = true ↔ OpenIs (besd es n) cell other (tn : Int)) := fun z w => ⟨fun y => (by cases y), fun oi => by
        have := oi e (besd_in.mpr ⟨hm, z⟩)
        rcases w with w | w
        · exact absurd w this.1
        · exact absurd w this.2⟩
      have go : (e.k ≠ n → plc e.b e.c ((tn : Int) + 1) ≠ .int other ∧ ¬ (plc e.b e.c (tn : Int) = .int other ∧ plc e.b e.c ((tn : Int) + 1) = .int cell)) → OpenIs (besd (es.take (i + 1)) n) cell other (tn : Int) := fun w x hx => by
        rw [tk] at hx
        split at hx
        · exact ho x hx
        · rename_i z
          rcases List.mem_append.mp hx with y | y
          · exact ho x y
          · rw [List.mem_singleton.mp y]; exact w z
      have sc1 := sc_plc (plc_or e.b e.c ((tn : Int) + 1)) (y := V.int other) (.inr ⟨_, rfl⟩)
      refine ⟨_, SqL.of upd_same, rfl, _, _, rfl, _, _, rfl, rfl, rfl, ?_⟩
      by_cases z : e.k = n
      · rw [if_neg (by simp [kV, z])]
        exact ⟨sB1, hf1, go fun y => absurd z y, _, rfl⟩
      · rw [if_pos (fun y => by cases y; exact z rfl)]
        refine ⟨sc1, ?_⟩
        by_cases a1 : plc e.b e.c ((tn : Int) + 1) = .int other
        · rw [if_pos a1]
          exact ⟨⟨o, hf1⟩, hq _ false (thaw_same h2 sB1) (no z (.inl a1))⟩
        · rw [if_neg a1]
          refine ⟨sc_plc (plc_or e.b e.c (tn : Int)) (.inr ⟨_, rfl⟩), ?_⟩
          by_cases a2 : plc e.b e.c (tn : Int) = .int other
          · rw [if_pos a2]
            refine ⟨sc_plc (plc_or e.b e.c ((tn : Int) + 1)) (.inr ⟨_, rfl⟩), ?_⟩
            by_cases a3 : plc e.b e.c ((tn : Int) + 1) = .int cell
            · rw [if_pos a3]
              exact ⟨⟨o, hf1⟩, hq _ false (thaw_same h2 sB1) (no z (.inr ⟨a2, a3⟩))⟩
            · rw [if_neg a3]
              exact ⟨sB1, hf1, go fun _ => ⟨a1, fun y => a3 y.2⟩, _, rfl⟩
          · rw [if_neg a2]
            exact ⟨sB1, hf1, go fun _ => ⟨a1, fun y => a2 y.1⟩, _, rfl⟩
    · rintro σ H' ⟨x, y, z, sB, hf, ho, rfl⟩
      rw [dw_len, List.take_length] at ho
      exact ⟨⟨o, hf⟩, hq _ true (thaw_same h2 sB) ⟨fun _ => ho, fun _ => rfl⟩⟩
theorem sc_q30 : FnScope ["_law_kept", "_law_number"] ["_law_kept", "_law_number"] (defScope s_q30) := ⟨rfl, rfl, rfl, by decide +kernel, rfl, by decide +kernel, by decide +kernel⟩
set_option maxHeartbeats 4000000 in
theorem ok_q30 {fd : FuncData} (F : Fun K "_law_quiet" "_law_quiet" s_q30 ad.q30 fd) (T : Txt K mg ad) : FnOk P w K mg base CX0 1 ad.q30 fd ["_law_kept", "_law_number"] (spLQuiet) := by
  refine F.ok sc_q30 (fun vs H Q E h => ?_) (fun cdv A outer s H vs Q E HR h => ?_)
  · obtain ⟨d, es, n, rfl, _⟩ := h
    rfl
  · obtain ⟨d, es, n, rfl, hk, hq⟩ := h
    have ND := sc_q30.nd
    have HU0 := HR.units0
    have HU := HR.units
    have hA := HR.hd
    have hz : (100000 : Nat) ≤ sizeLine := by rw [sizeLine_eq]; decide
    refine ⟨_, (pss_one (ps_ret (pe_maxD rfl (gl_of g_q30_max) T.b_max (pa_cons (pe_thawK (pe_comp (CompScope.of (osc := defScope s_q30) (tn := ["_law_one"]) (cn := ["_law_kept", "_law_number"]) (caps := [0, 1]) rfl rfl (by decide +kernel) (by decide +kernel) (by decide +kernel) (by decide +kernel) rfl) (calm0 rfl)  (pi_dictK (pe_var (i := 0) (x := "_law_kept") rfl (vis_of v_q30__law_kept) d__law_kept e__law_kept))
 (fun _ _ _ _ _ => (pg_name (i := 0) (show (["_law_one", "_law_kept", "_law_number"] : List Str).Nodup by decide +kernel) rfl (Or.inl rfl))) (fun _ _ _ _ _ => (pts_one (pt_cmpR op_ne (pv 0) (pv 2) (nomark _)))) (fun _ _ _ _ _ => (pe_op op_sub (pe_op op_add (pe_ix (ix_tupK (K := K) rfl) (pe_dget (hu1 HU) (pv 1) (pv 0) (fun _ _ => rfl)) pe_int (fun _ _ => rfl)) (pe_callB (call_len_seqK (K := K) rfl) (by rfl) T.b_len PyProof.Rows.Boot.«len» (pa_cons (pe_ix (ix_tupK (K := K) rfl) (pe_dget (hu1 HU) (pv 1) (pv 0) (fun _ _ => rfl)) pe_int (fun _ _ => rfl)) pa_nil (stp rfl)) (hn := n_len) (hdb := d_len) (he := stp rfl) (hpl := anp rfl))) pe_int)))) pa_nil (stp rfl)) pe_int (st1 rfl)))), ?_⟩
    obtain ⟨h2, en⟩ := id hk
    have el := en.len
    have nt : ∀ xs, H d ≠ some (.tup xs) := fun xs z => by rw [h2] at z; cases z
    walk_at "RD"
    refine .inl ⟨d, dw es, h2, dw es, .inl ⟨h2, fun o => ?_⟩⟩
    have S : SrcIs (Itk d o (dw es)) (upd H d (.frz o (.dK (dw es)))) (es.map fun e => V.int e.k) := by
      have := src_dictK (a := d) (o := o) (kvs := dw es) (H := upd H d (.frz o (.dK (dw es)))) upd_same
      rw [dw_keys] at this
      exact this
    have sf : SameB d H (upd H d (.frz o (.dK (dw es)))) := sameB_upd (same_b (Same.refl _))
    refine comp_of (g := fun e => .int (lastT e)) S (fun e => decide (e.k ≠ n)) (fun e he Q' hh => ?_) (fun e he _ Q' hh => ?_) (by omega) (fun D nD => ?_)
    · walk_at "RD"
      rw [show (!decide (e.k = n)) = decide (e.k ≠ n) by simp]
      exact hh
    · obtain ⟨q, w, ev, h3, h4⟩ := WayAt.tups (sf.tups nt) (en.ok e he).1
      have dg := fz_get (H := upd H d (.frz o (.dK (dw es)))) upd_same en.nd he
      rw [ev] at dg
      walk_at "RD"
      exact ⟨_, dg, q, rfl, _, SqT.of h3, _, rfl, _, dg, q, rfl, _, SqT.of h3, _, rfl, w, rfl, _, .inr (SqT.of h4), _, rfl, by rw [List.length_map]; exact hh⟩
    · have Dd : D ≠ d := fun z => by rw [z, upd_same] at nD; cases nD
      refine ⟨⟨o, by rw [upd_ne Dd.symm, upd_same]⟩, (besd es n).map lastT, SqL.of (by rw [upd_ne Dd, upd_same, List.map_map]; rfl), fun m hm => hq _ _ (thaw_same h2 (sf.new nD)) hm⟩
theorem sc_q12 : FnScope ["_law_kept", "_law_number", "_law_place", "_law_found", "_law_end_here", "_law_one", "_law_rows_here", "_law_time"] ["_law_kept", "_law_number", "_law_place"] (defScope s_q12) := ⟨rfl, rfl, rfl, by decide +kernel, rfl, by decide +kernel, by decide +kernel⟩
set_option maxHeartbeats 4000000 in
theorem ok_q12 {fd : FuncData} (F : Fun K "_law_free_from" "_law_free_from" s_q12 ad.q12 fd) (T : Txt K mg ad) {fd_Lend : FuncData} (B_Lend : Binds K fd_Lend ["_law_kept"] []) (G_Lend : FnOk P w K mg base CX0 1 ad.Lend fd_Lend ["_law_kept"] (spEnd)) {fd_Lrows : FuncData} (B_Lrows : Binds K fd_Lrows ["_law_way", "_law_end_here"] []) (G_Lrows : FnOk P w K mg base CX0 1 ad.Lrows fd_Lrows ["_law_way", "_law_end_here"] (spRowsN)) : FnOk P w K mg base CX0 2 ad.q12 fd ["_law_kept", "_law_number", "_law_place"] (spLFree) := by
  refine F.ok sc_q12 (fun vs H Q E h => ?_) (fun cdv A outer s H vs Q E HR h => ?_)
  · obtain ⟨d, es, n, cell, rfl, _⟩ := h
    rfl
  · obtain ⟨d, es, n, cell, rfl, hk, hq⟩ := h
    have ND := sc_q12.nd
    have HU0 := HR.units0
    have HU := HR.units
    have hA := HR.hd
    have hz : (100000 : Nat) ≤ sizeLine := by rw [sizeLine_eq]; decide
    refine ⟨_, (pss_cons (ps_set (i := 3) ND rfl (loc_of (Or.inl l_q12__law_found)) pe_int)
 (pss_cons (ps_set (i := 4) ND rfl (loc_of (Or.inl l_q12__law_end_here)) (pe_call G_Lend (HR.mono (by decide)) (gl_of g_q12__law_end) T.mg_Lend T.k_Lend B_Lend .nil pass0 (pa_cons (pe_var (i := 0) (x := "_law_kept") rfl (vis_of v_q12__law_kept) d__law_kept e__law_kept) pa_nil (stp rfl)) (hdb := d__law_end) (he := stp rfl) (hpl := anp rfl)))
 (pss_cons (ps_thawK (ps_for PassesOwn.never (calm0 rfl) (pi_dictK (pe_var (i := 0) (x := "_law_kept") rfl (vis_of v_q12__law_kept) d__law_kept e__law_kept)) (pg_name (i := 5) ND rfl (loc_of (Or.inl l_q12__law_one)))
 (pss_cons (ps_set (i := 6) ND rfl (loc_of (Or.inl l_q12__law_rows_here)) (pe_call G_Lrows (HR.mono (by decide)) (gl_of g_q12__law_rows) T.mg_Lrows T.k_Lrows B_Lrows .nil pass0 (pa_cons (pe_dget (hu1 HU) (pe_var (i := 0) (x := "_law_kept") rfl (vis_of v_q12__law_kept) d__law_kept e__law_kept) (pe_var (i := 5) (x := "_law_one") rfl (vis_of v_q12__law_one) d__law_one e__law_one) (fun _ _ => rfl)) (pa_cons (pe_var (i := 4) (x := "_law_end_here") rfl (vis_of v_q12__law_end_here) d__law_end_here e__law_end_here) pa_nil (stp rfl)) (stp rfl)) (hdb := d__law_rows) (he := stp rfl) (hpl := anp rfl)))
 (pss_cons (ps_if (pt_cmpR op_eq (pe_var (i := 5) (x := "_law_one") rfl (vis_of v_q12__law_one) d__law_one e__law_one) (pe_var (i := 1) (x := "_law_number") rfl (vis_of v_q12__law_number) d__law_number e__law_number) (nomark _))
 (pss_one ps_continue)
 pss_nil)
 (pss_cons (ps_if (pt_cmpR op_eq (pe_ix ix_list (pe_var (i := 6) (x := "_law_rows_here") rfl (vis_of v_q12__law_rows_here) d__law_rows_here e__law_rows_here) (pe_var (i := 4) (x := "_law_end_here") rfl (vis_of v_q12__law_end_here) d__law_end_here e__law_end_here) (fun _ _ => rfl)) (pe_var (i := 2) (x := "_law_place") rfl (vis_of v_q12__law_place) d__law_place e__law_place) (nomark _))
 (pss_one (ps_ret pe_non))
 pss_nil)
 (pss_one (ps_for PassesOwn.never (calm0 rfl) (pi_range1 (gl_of g_q12_range) T.b_range (pa_cons (pe_var (i := 4) (x := "_law_end_here") rfl (vis_of v_q12__law_end_here) d__law_end_here e__law_end_here) pa_nil (stp rfl)) (st1 rfl)) (pg_name (i := 7) ND rfl (loc_of (Or.inl l_q12__law_time)))
 (pss_one (ps_if (pt_cmpR op_eq (pe_ix ix_list (pe_var (i := 6) (x := "_law_rows_here") rfl (vis_of v_q12__law_rows_here) d__law_rows_here e__law_rows_here) (pe_var (i := 7) (x := "_law_time") rfl (vis_of v_q12__law_time) d__law_time e__law_time) (fun _ _ => rfl)) (pe_var (i := 2) (x := "_law_place") rfl (vis_of v_q12__law_place) d__law_place e__law_place) (nomark _))
 (pss_one (ps_set (i := 3) ND rfl (loc_of (Or.inl l_q12__law_found)) (pe_callB (call_max2 rfl) (gl_of g_q12_max) T.b_max PyProof.Rows.Boot.«max» (pa_cons (pe_var (i := 3) (x := "_law_found") rfl (vis_of v_q12__law_found) d__law_found e__law_found) (pa_cons (pe_op op_add (pe_var (i := 7) (x := "_law_time") rfl (vis_of v_q12__law_time) d__law_time e__law_time) pe_int) pa_nil (stp rfl)) (stp rfl)) (hn := n_max) (hdb := d_max) (he := stp rfl) (hpl := anp rfl))))
 pss_nil)))))))))
 (pss_one (ps_ret (pe_var (i := 3) (x := "_law_found") rfl (vis_of v_q12__law_found) d__law_found e__law_found)))))), ?_⟩
    obtain ⟨h2, en⟩ := id hk
    have el := en.len
    have nt : ∀ xs, H d ≠ some (.tup xs) := fun xs z => by rw [h2] at z; cases z
    refine tSeq_cut (fun σ H' => H' = H ∧ σ = [some (V.ref d), some (V.int n), some (V.int cell), some (V.int 0), none, none, none, none]) (fun nx hk => ?_) ?_
    · walk_at "RD"
      exact hk _ _ ⟨rfl, rfl⟩
    rintro σ H0 ⟨rfl, rfl⟩
    refine tSeq_cut (fun σ H' => ∃ x, Same H0 H' ∧ EndIs es x ∧ σ = [some (V.ref d), some (V.int n), some (V.int cell), some (V.int 0), some (V.int x), none, none, none]) (fun nx hk' => ?_) ?_
    · walk_at "RD"
      exact ⟨d, es, rfl, hk, fun H' x s hx => hk' _ _ ⟨x, s, hx, rfl⟩⟩
    rintro σ H1 ⟨ex, s1, ⟨x3, x303, xe⟩, rfl⟩
    have h21 := s1 _ _ h2
    have nt1 : ∀ xs, H1 d ≠ some (.tup xs) := fun xs z => by rw [h21] at z; cases z
    have en1 := en.tups (tups_of s1)
    refine tSeq_cut (fun σ H' => ∃ (k : Int) (a5 a6 a7 : Option V), Same H1 H' ∧ FreeOk (besd es n) cell k ∧ (∀ e ∈ besd es n, endC e.c ≠ cell) ∧ σ = [some (V.ref d), some (V.int n), some (V.int cell), some (V.int k), some (V.int ex), a5, a6, a7]) (fun nx hk' => ?_) ?_
    · simp only [tFor_eq, iRng1, iRng2, gTup, gTupL, gCons, gNil, tRevT, rRep01, rCatT, rCat, rRep, cxKm, cxKs, cxKt, tTryAs, tTry, onlyRet, tDGet1, tDIn, tDNotIn, tDNewK, sDPut, tDGet, tDPop1, tXGetO, tXGet, tRaiseI, sXFld, iZip, tStepL, iEnum, iVals, tMaxD, tThawK, tThawE, iDictK, Ends.thawK, tCallX, tMethX, tMakeX, tRaise, noW, tAsg, tOp, tUn, tVar, tC, rI0, rI, rU, tTest, tIfS, tNext, tRet, tRetN, tDrop, gName, tCB, tCons, tNil, tAndV, tOrV, tNotV, tAnd, tOr, tNot, tB, tIf, tChain, tCall, tBM, tBM0, tLst, tTup, tNoPart, tPart, tSlS, tSl, tBreak, tCont, rSlA, rSlL, rPopAt, rIn, rIxL, rIxT, rIxS, rEq, rNe, scal, rAppend, rPop, rIndex, tFld, sFld, tMeth, tMake, tDNewK, gSub, rSetL, tJoinRev, tComp, sComp, capσ, iStr, iList, iTup, rEqD, cxK, cxA, cxKc, cxAc, L2.start, List.map_cons, List.map_nil, List.length_cons, List.length_nil, List.replicate_succ, List.replicate_zero, List.cons_append, List.nil_append, List.append_nil, Nat.reduceAdd, Nat.reduceSub, List.set_cons_zero, List.set_cons_succ, List.getElem?_cons_zero, List.getElem?_cons_succ, Option.getD_some, Option.getD_none, Option.some.injEq, V.int.injEq, V.ref.injEq, V.bl.injEq, V.str.injEq, V.ty.injEq, exists_eq_left', exists_eq_left, exists_and_left, and_assoc, List.cons.injEq, and_true, true_and, decide_eq_true_eq, Bool.not_eq_true', decide_eq_false_iff_not, Bool.false_eq_true, if_false, if_true, reduceIte, Bool.not_true, Bool.not_false, beq_self_eq_true]
      refine .inl ⟨d, dw es, h21, dw es, .inl ⟨h21, fun o => for_dictK (fun i σ H' => ∃ (k : Int) (a5 a6 a7 : Option V), SameB d H1 H' ∧ H' d = some (.frz o (.dK (dw es))) ∧ FreeOk (besd (es.take i) n) cell k ∧ (∀ e ∈ besd (es.take i) n, endC e.c ≠ cell) ∧ σ = [some (V.ref d), some (V.int n), some (V.int cell), some (V.int k), some (V.int ex), a5, a6, a7]) ⟨0, none, none, none, sameB_upd (same_b (Same.refl _)), upd_same, freeb_0, endsb_0, rfl⟩ (fun i σ H' _ ⟨_, _, _, _, _, hf, _⟩ => hf) ?_ ?_⟩⟩
      · rintro i k v σ H' hi ⟨kk, a5, a6, a7, sB, hf, fo, fe, rfl⟩
        obtain ⟨e, he, rfl, rfl⟩ := dw_at hi
        have hm := List.mem_of_getElem? he
        have wy := WayAt.tups (sB.tups nt1) (en1.ok e hm).1
        obtain ⟨t1', t2', t3', t4'⟩ := (en1.ok e hm).2.1
        have tk := besd_take (n := n) he
        have xe' := xe e hm
        simp only [tFor_eq, iRng1, iRng2, gTup, gTupL, gCons, gNil, tRevT, rRep01, rCatT, rCat, rRep, cxKm, cxKs, cxKt, tTryAs, tTry, onlyRet, tDGet1, tDIn, tDNotIn, tDNewK, sDPut, tDGet, tDPop1, tXGetO, tXGet, tRaiseI, sXFld, iZip, tStepL, iEnum, iVals, tMaxD, tThawK, tThawE, iDictK, Ends.thawK, tCallX, tMethX, tMakeX, tRaise, noW, tAsg, tOp, tUn, tVar, tC, rI0, rI, rU, tTest, tIfS, tNext, tRet, tRetN, tDrop, gName, tCB, tCons, tNil, tAndV, tOrV, tNotV, tAnd, tOr, tNot, tB, tIf, tChain, tCall, tBM, tBM0, tLst, tTup, tNoPart, tPart, tSlS, tSl, tBreak, tCont, rSlA, rSlL, rPopAt, rIn, rIxL, rIxT, rIxS, rEq, rNe, scal, rAppend, rPop, rIndex, tFld, sFld, tMeth, tMake, tDNewK, gSub, rSetL, tJoinRev, tComp, sComp, capσ, iStr, iList, iTup, rEqD, cxK, cxA, cxKc, cxAc, L2.start, List.map_cons, List.map_nil, List.length_cons, List.length_nil, List.replicate_succ, List.replicate_zero, List.cons_append, List.nil_append, List.append_nil, Nat.reduceAdd, Nat.reduceSub, List.set_cons_zero, List.set_cons_succ, List.getElem?_cons_zero, List.getElem?_cons_succ, Option.getD_some, Option.getD_none, Option.some.injEq, V.int.injEq, V.ref.injEq, V.bl.injEq, V.str.injEq, V.ty.injEq, exists_eq_left', exists_eq_left, exists_and_left, and_assoc, List.cons.injEq, and_true, true_and, decide_eq_true_eq, Bool.not_eq_true', decide_eq_false_iff_not, Bool.false_eq_true, if_false, if_true, reduceIte, Bool.not_true, Bool.not_false, beq_self_eq_true]
        refine tSeq_cut (fun σ H' => ∃ (l : Addr) (N : Nat), ex + 1 ≤ N ∧ H' l = some (.lst ((List.range N).map fun i => plc e.b e.c (i : Nat))) ∧ SameB d H1 H' ∧ H' d = some (.frz o (.dK (dw es))) ∧ σ = [some (V.ref d), some (V.int n), some (V.int cell), some (V.int kk), some (V.int ex), some (V.int e.k), some (V.ref l), a7]) (fun nx hk' => ?_) ?_
        · walk_at "RD"
          exact ⟨e.v, fz_get hf en1.nd hm, e.v, e.b, e.c, ex, rfl, wy, t1', t2', t3', t4', by omega, by omega, fun l H2 N nl s2 hl hN1 hN2 hN3 => hk' _ _ ⟨l, N, hN1, hl, fun b o hb n => s2 _ _ (sB b o hb n), s2 _ _ hf, rfl⟩⟩
        rintro σ H2 ⟨l, N, hN, hl, sB2, hf2, rfl⟩
        have at' : ∀ t : Int, 0 ≤ t → t ≤ ex → atI ((List.range N).map fun i => plc e.b e.c (i : Nat)) t = some (plc e.b e.c t) := fun t g0 g1 => by
          obtain ⟨j, rfl⟩ := Int.eq_ofNat_of_zero_le g0
          exact atI_nat (by rw [List.getElem?_map, List.getElem?_range (by omega)]; rfl)
        by_cases z : e.k = n
        · have tk' : besd (es.take (i + 1)) n = besd (es.take i) n := by rw [tk, if_pos z]
          rw [tk']
          walk_at "RD"
          rw [if_pos z]
          exact ⟨sB2, hf2, kk, fo, fe, rfl, _, rfl⟩
        · have tk' : besd (es.take (i + 1)) n = besd (es.take i) n ++ [e] := by rw [tk, if_neg z]
          rw [tk']
          walk_at "RD"
          rw [if_neg z]
          refine ⟨_, SqL.of hl, _, at' ex (by omega) (Int.le_refl _), sc_plc (plc_or _ _ _) (.inr ⟨_, rfl⟩), ?_⟩
          rw [plc_late t1' (by omega)]
          by_cases y : endC e.c = cell
          · rw [if_pos (by rw [y])]
            exact ⟨⟨o, hf2⟩, hq _ _ (s1.trans (thaw_same h21 sB2)) (.inl ⟨rfl, e, besd_in.mpr ⟨hm, z⟩, y⟩)⟩
          · rw [if_neg (fun w => y (V.int.inj w))]
            refine ⟨by omega, by omega, for_range (n := ex.toNat) (fun j σ H' => ∃ (k' : Int) (a7 : Option V), H' = H2 ∧ FreeTo (besd (es.take i) n) e cell k' (j : Nat) ∧ σ = [some (V.ref d), some (V.int n), some (V.int cell), some (V.int k'), some (V.int ex), some (V.int e.k), some (V.ref l), a7]) ⟨kk, a7, rfl, frT_0 fo, rfl⟩ ?_ ?_⟩
            · rintro j σ H' hj ⟨k', a7', rfl, ft, rfl⟩
              rw [Int.zero_add]
              walk_at "RD"
              refine ⟨_, SqL.of hl, _, at' (j : Nat) (by omega) (by omega), sc_plc (plc_or _ _ _) (.inr ⟨_, rfl⟩), ?_⟩
              split
              · rename_i w
                rw [show ((j + 1 : Nat) : Int) = (j : Int) + 1 by omega]
                exact ⟨_, frT_yes ft w (by omega), rfl, _, rfl⟩
              · rename_i w
                rw [show ((j + 1 : Nat) : Int) = (j : Int) + 1 by omega]
                exact ⟨_, frT_no ft w, rfl, _, rfl⟩
            · rintro σ H' ⟨k', a7', rfl, ft, rfl⟩
              rw [show ((ex.toNat : Nat) : Int) = ex by omega] at ft
              refine ⟨sB2, hf2, k', frT_end ft t1' y (by omega), fun x hx => ?_, _, _, _, rfl⟩
              rcases List.mem_append.mp hx with w | w
              · exact fe x w
              · rw [List.mem_singleton.mp w]; exact y
      · rintro σ H' ⟨kk, a5, a6, a7, sB, hf, fo, fe, rfl⟩
        rw [dw_len, List.take_length] at fo fe
        exact ⟨⟨o, hf⟩, hk' _ _ ⟨kk, a5, a6, a7, thaw_same h21 sB, fo, fe, rfl⟩⟩
    rintro σ H2 ⟨k, a5, a6, a7, s2, fo, fe, rfl⟩
    walk_at "RD"
    exact hq _ _ (s1.trans s2) (.inr ⟨k, rfl, fe, fo⟩)
theorem sc_Ldue : FnScope ["_law_kept", "_law_which", "_law_number", "_law_place", "_law_other", "_law_time"] ["_law_kept", "_law_which", "_law_number", "_law_place", "_law_other", "_law_time"] (defScope s_Ldue) := ⟨rfl, rfl, rfl, by decide +kernel, rfl, by decide +kernel, by decide +kernel⟩
set_option maxHeartbeats 4000000 in
theorem ok_Ldue {fd : FuncData} (F : Fun K "_law_due" "_law_due" s_Ldue ad.Ldue fd) (T : Txt K mg ad) {fd_Lwho : FuncData} (B_Lwho : Binds K fd_Lwho ["_law_kept", "_law_place", "_law_time"] []) (G_Lwho : FnOk P w K mg base CX0 2 ad.Lwho fd_Lwho ["_law_kept", "_law_place", "_law_time"] (spLWho)) {fd_q25 : FuncData} (B_q25 : Binds K fd_q25 ["_law_kept", "_law_number", "_law_place", "_law_other", "_law_time"] []) (G_q25 : FnOk P w K mg base CX0 2 ad.q25 fd_q25 ["_law_kept", "_law_number", "_law_place", "_law_other", "_law_time"] (spLOpen)) {fd_q30 : FuncData} (B_q30 : Binds K fd_q30 ["_law_kept", "_law_number"] []) (G_q30 : FnOk P w K mg base CX0 1 ad.q30 fd_q30 ["_law_kept", "_law_number"] (spLQuiet)) {fd_q12 : FuncData} (B_q12 : Binds K fd_q12 ["_law_kept", "_law_number", "_law_place"] []) (G_q12 : FnOk P w K mg base CX0 2 ad.q12 fd_q12 ["_law_kept", "_law_number", "_law_place"] (spLFree)) : FnOk P w K mg base CX0 3 ad.Ldue fd ["_law_kept", "_law_which", "_law_number", "_law_place", "_law_other", "_law_time"] (spDue) := by
  refine F.ok sc_Ldue (fun vs H Q E h => ?_) (fun cdv A outer s H vs Q E HR h => ?_)
  · obtain ⟨e, es, w, n, cell, other, t, rfl, _⟩ := h
    rfl
  · obtain ⟨e, es, w, n, cell, other, t, rfl, hk, w0, w1, t0, t1, hq⟩ := h
    have ND := sc_Ldue.nd
    have HU0 := HR.units0
    have HU := HR.units
    have hA := HR.hd
    have hz : (100000 : Nat) ≤ sizeLine := by rw [sizeLine_eq]; decide
    refine ⟨_, (pss_cons (ps_if (pt_cmpR op_eq (pe_var (i := 1) (x := "_law_which") rfl (vis_of v_Ldue__law_which) d__law_which e__law_which) pe_int (nomark _))
 (pss_one (ps_ret (pe_call G_Lwho (HR.mono (by decide)) (gl_of g_Ldue__law_who) T.mg_Lwho T.k_Lwho B_Lwho .nil pass0 (pa_cons (pe_var (i := 0) (x := "_law_kept") rfl (vis_of v_Ldue__law_kept) d__law_kept e__law_kept) (pa_cons (pe_var (i := 3) (x := "_law_place") rfl (vis_of v_Ldue__law_place) d__law_place e__law_place) (pa_cons (pe_var (i := 5) (x := "_law_time") rfl (vis_of v_Ldue__law_time) d__law_time e__law_time) pa_nil (stp rfl)) (stp rfl)) (stp rfl)) (hdb := d__law_who) (he := stp rfl) (hpl := anp rfl))))
 pss_nil)
 (pss_cons (ps_if (pt_cmpR op_eq (pe_var (i := 1) (x := "_law_which") rfl (vis_of v_Ldue__law_which) d__law_which e__law_which) pe_int (nomark _))
 (pss_one (ps_ret (pe_call G_q25 (HR.mono (by decide)) (gl_of g_Ldue__law_is_open) T.mg_q25 T.k_q25 B_q25 .nil pass0 (pa_cons (pe_var (i := 0) (x := "_law_kept") rfl (vis_of v_Ldue__law_kept) d__law_kept e__law_kept) (pa_cons (pe_var (i := 2) (x := "_law_number") rfl (vis_of v_Ldue__law_number) d__law_number e__law_number) (pa_cons (pe_var (i := 3) (x := "_law_place") rfl (vis_of v_Ldue__law_place) d__law_place e__law_place) (pa_cons (pe_var (i := 4) (x := "_law_other") rfl (vis_of v_Ldue__law_other) d__law_other e__law_other) (pa_cons (pe_var (i := 5) (x := "_law_time") rfl (vis_of v_Ldue__law_time) d__law_time e__law_time) pa_nil (stp rfl)) (stp rfl)) (stp rfl)) (stp rfl)) (stp rfl)) (hdb := d__law_is_open) (he := stp rfl) (hpl := anp rfl))))
 pss_nil)
 (pss_cons (ps_if (pt_cmpR op_eq (pe_var (i := 1) (x := "_law_which") rfl (vis_of v_Ldue__law_which) d__law_which e__law_which) pe_int (nomark _))
 (pss_one (ps_ret (pe_call G_q30 (HR.mono (by decide)) (gl_of g_Ldue__law_quiet) T.mg_q30 T.k_q30 B_q30 .nil pass0 (pa_cons (pe_var (i := 0) (x := "_law_kept") rfl (vis_of v_Ldue__law_kept) d__law_kept e__law_kept) (pa_cons (pe_var (i := 2) (x := "_law_number") rfl (vis_of v_Ldue__law_number) d__law_number e__law_number) pa_nil (stp rfl)) (stp rfl)) (hdb := d__law_quiet) (he := stp rfl) (hpl := anp rfl))))
 pss_nil)
 (pss_one (ps_ret (pe_call G_q12 (HR.mono (by decide)) (gl_of g_Ldue__law_free_from) T.mg_q12 T.k_q12 B_q12 .nil pass0 (pa_cons (pe_var (i := 0) (x := "_law_kept") rfl (vis_of v_Ldue__law_kept) d__law_kept e__law_kept) (pa_cons (pe_var (i := 2) (x := "_law_number") rfl (vis_of v_Ldue__law_number) d__law_number e__law_number) (pa_cons (pe_var (i := 3) (x := "_law_place") rfl (vis_of v_Ldue__law_place) d__law_place e__law_place) pa_nil (stp rfl)) (stp rfl)) (stp rfl)) (hdb := d__law_free_from) (he := stp rfl) (hpl := anp rfl))))))), ?_⟩
    walk_at "RD"
    rcases (show w = 0 ∨ w = 1 ∨ w = 2 ∨ w = 3 by omega) with rfl | rfl | rfl | rfl
    · rw [if_pos rfl]
      exact ⟨e, es, cell, t, rfl, hk, t0, t1, fun H' s => hq _ _ s (.inl ⟨rfl, rfl⟩)⟩
    · rw [if_neg (by decide), if_pos rfl]
      exact ⟨e, es, n, cell, other, t, rfl, hk, t0, t1, fun H' b s hb => hq _ _ s (.inr (.inl ⟨rfl, b, rfl, hb⟩))⟩
    · rw [if_neg (by decide), if_neg (by decide), if_pos rfl]
      exact ⟨e, es, n, rfl, hk, fun H' m s hm => hq _ _ s (.inr (.inr (.inl ⟨rfl, m, rfl, hm⟩)))⟩
    · rw [if_neg (by decide), if_neg (by decide), if_neg (by decide)]
      exact ⟨e, es, n, cell, rfl, hk, fun H' v s hv => hq _ _ s (.inr (.inr (.inr ⟨rfl, hv⟩)))⟩
theorem sc_Ltold : FnScope ["_law_book", "_law_which", "_law_number", "_law_place", "_law_other", "_law_time"] ["_law_book", "_law_which", "_law_number", "_law_place", "_law_other", "_law_time"] (defScope s_Ltold) := ⟨rfl, rfl, rfl, by decide +kernel, rfl, by decide +kernel, by decide +kernel⟩
set_option maxHeartbeats 4000000 in
theorem ok_Ltold {fd : FuncData} (F : Fun K "_law_told" "_law_told" s_Ltold ad.Ltold fd) (T : Txt K mg ad) {fd_q21 : FuncData} (B_q21 : Binds K fd_q21 ["self", "cell", "time"] []) (G_q21 : FnOk P w K mg base CX0 3 ad.q21 fd_q21 ["self", "cell", "time"] (spWho ad)) {fd_q6 : FuncData} (B_q6 : Binds K fd_q6 ["self", "number", "cell", "other", "time"] []) (G_q6 : FnOk P w K mg base CX0 4 ad.q6 fd_q6 ["self", "number", "cell", "other", "time"] (spIsOpen ad)) {fd_q10 : FuncData} (B_q10 : Binds K fd_q10 ["self", "number"] []) (G_q10 : FnOk P w K mg base CX0 2 ad.q10 fd_q10 ["self", "number"] (spQuiet ad)) {fd_q2 : FuncData} (B_q2 : Binds K fd_q2 ["self", "number", "cell"] []) (G_q2 : FnOk P w K mg base CX0 2 ad.q2 fd_q2 ["self", "number", "cell"] (spFree ad)) : FnOk P w K mg base CX0 5 ad.Ltold fd ["_law_book", "_law_which", "_law_number", "_law_place", "_law_other", "_law_time"] (spTold ad) := by
  refine F.ok sc_Ltold (fun vs H Q E h => ?_) (fun cdv A outer s H vs Q E HR h => ?_)
  · obtain ⟨p, d, es, w, n, cell, other, t, rfl, _⟩ := h
    rfl
  · obtain ⟨p, d, es, w, n, cell, other, t, rfl, hb, ha, w0, w1, hq⟩ := h
    have ND := sc_Ltold.nd
    have HU0 := HR.units0
    have HU := HR.units
    have hA := HR.hd
    have hz : (100000 : Nat) ≤ sizeLine := by rw [sizeLine_eq]; decide
    refine ⟨_, (pss_cons (ps_if (pt_cmpR op_eq (pe_var (i := 1) (x := "_law_which") rfl (vis_of v_Ltold__law_which) d__law_which e__law_which) pe_int (nomark _))
 (pss_one (ps_ret (pe_meth (pe_var (i := 0) (x := "_law_book") rfl (vis_of v_Ltold__law_book) d__law_book e__law_book) T.cl_Book T.m_q21 G_q21 (HR.mono (by decide)) B_q21 .nil pass0 (pa_cons (pe_var (i := 3) (x := "_law_place") rfl (vis_of v_Ltold__law_place) d__law_place e__law_place) (pa_cons (pe_var (i := 5) (x := "_law_time") rfl (vis_of v_Ltold__law_time) d__law_time e__law_time) pa_nil (stp rfl)) (stp rfl)) (hst := stp rfl) (hpl := anp rfl))))
 pss_nil)
 (pss_cons (ps_if (pt_cmpR op_eq (pe_var (i := 1) (x := "_law_which") rfl (vis_of v_Ltold__law_which) d__law_which e__law_which) pe_int (nomark _))
 (pss_one (ps_ret (pe_meth (pe_var (i := 0) (x := "_law_book") rfl (vis_of v_Ltold__law_book) d__law_book e__law_book) T.cl_Book T.m_q6 G_q6 (HR.mono (by decide)) B_q6 .nil pass0 (pa_cons (pe_var (i := 2) (x := "_law_number") rfl (vis_of v_Ltold__law_number) d__law_number e__law_number) (pa_cons (pe_var (i := 3) (x := "_law_place") rfl (vis_of v_Ltold__law_place) d__law_place e__law_place) (pa_cons (pe_var (i := 4) (x := "_law_other") rfl (vis_of v_Ltold__law_other) d__law_other e__law_other) (pa_cons (pe_var (i := 5) (x := "_law_time") rfl (vis_of v_Ltold__law_time) d__law_time e__law_time) pa_nil (stp rfl)) (stp rfl)) (stp rfl)) (stp rfl)) (hst := stp rfl) (hpl := anp rfl))))
 pss_nil)
 (pss_cons (ps_if (pt_cmpR op_eq (pe_var (i := 1) (x := "_law_which") rfl (vis_of v_Ltold__law_which) d__law_which e__law_which) pe_int (nomark _))
 (pss_one (ps_ret (pe_meth (pe_var (i := 0) (x := "_law_book") rfl (vis_of v_Ltold__law_book) d__law_book e__law_book) T.cl_Book T.m_q10 G_q10 (HR.mono (by decide)) B_q10 .nil pass0 (pa_cons (pe_var (i := 2) (x := "_law_number") rfl (vis_of v_Ltold__law_number) d__law_number e__law_number) pa_nil (stp rfl)) (hst := stp rfl) (hpl := anp rfl))))
 pss_nil)
 (pss_one (ps_ret (pe_meth (pe_var (i := 0) (x := "_law_book") rfl (vis_of v_Ltold__law_book) d__law_book e__law_book) T.cl_Book T.m_q2 G_q2 (HR.mono (by decide)) B_q2 .nil pass0 (pa_cons (pe_var (i := 2) (x := "_law_number") rfl (vis_of v_Ltold__law_number) d__law_number e__law_number) (pa_cons (pe_var (i := 3) (x := "_law_place") rfl (vis_of v_Ltold__law_place) d__law_place e__law_place) pa_nil (stp rfl)) (stp rfl)) (hst := stp rfl) (hpl := anp rfl))))))), ?_⟩
    obtain ⟨⟨⟨dx, h1⟩, h2⟩, en⟩ := id hb
    walk_at "RD"
    rcases (show w = 0 ∨ w = 1 ∨ w = 2 ∨ w = 3 by omega) with rfl | rfl | rfl | rfl
    · rw [if_pos rfl]
      exact ⟨_, _, h1, w_no d (by decide +kernel), p, d, es, cell, t, rfl, hb, fun H' s => hq _ _ s (.inl ⟨rfl, rfl⟩)⟩
    · rw [if_neg (by decide), if_pos rfl]
      exact ⟨_, _, h1, w_no d (by decide +kernel), p, d, es, n, cell, other, t, rfl, hb, ha, fun H' b s hb => hq _ _ s (.inr (.inl ⟨rfl, b, rfl, hb⟩))⟩
    · rw [if_neg (by decide), if_neg (by decide), if_pos rfl]
      exact ⟨_, _, h1, w_no d (by decide +kernel), p, d, es, n, rfl, hb, fun H' m s hm => hq _ _ s (.inr (.inr (.inl ⟨rfl, m, rfl, hm⟩)))⟩
    · rw [if_neg (by decide), if_neg (by decide), if_neg (by decide)]
      exact ⟨_, _, h1, w_no d (by decide +kernel), p, d, es, n, cell, rfl, hb, fun H' v s hv => hq _ _ s (.inr (.inr (.inr ⟨rfl, hv⟩)))⟩
theorem sc_q31 : FnScope ["_law_book", "_law_kept", "_law_number", "_law_most", "_law_which", "_law_one", "_law_place", "_law_other", "_law_time", "_law_found", "_law_due_here"] ["_law_book", "_law_kept", "_law_number", "_law_most"] (defScope s_q31) := ⟨rfl, rfl, rfl, by decide +kernel, rfl, by decide +kernel, by decide +kernel⟩
set_option maxHeartbeats 4000000 in
theorem ok_q31 {fd : FuncData} (F : Fun K "_law_right" "_law_right" s_q31 ad.q31 fd) (T : Txt K mg ad) {fd_Lend : FuncData} (B_Lend : Binds K fd_Lend ["_law_kept"] []) (G_Lend : FnOk P w K mg base CX0 1 ad.Lend fd_Lend ["_law_kept"] (spEnd)) {fd_Ltold : FuncData} (B_Ltold : Binds K fd_Ltold ["_law_book", "_law_which", "_law_number", "_law_place", "_law_other", "_law_time"] []) (G_Ltold : FnOk P w K mg base CX0 5 ad.Ltold fd_Ltold ["_law_book", "_law_which", "_law_number", "_law_place", "_law_other", "_law_time"] (spTold ad)) {fd_Ldue : FuncData} (B_Ldue : Binds K fd_Ldue ["_law_kept", "_law_which", "_law_number", "_law_place", "_law_other", "_law_time"] []) (G_Ldue : FnOk P w K mg base CX0 3 ad.Ldue fd_Ldue ["_law_kept", "_law_which", "_law_number", "_law_place", "_law_other", "_law_time"] (spDue)) {fd_q29 : FuncData} (B_q29 : Binds K fd_q29 ["_law_found"] []) (G_q29 : FnOk P w K mg base CX0 1 ad.q29 fd_q29 ["_law_found"] (spWhole K)) : FnOk P w K mg base CX0 6 ad.q31 fd ["_law_book", "_law_kept", "_law_number", "_law_most"] (spRight ad) := by
  refine F.ok sc_q31 (fun vs H Q E h => ?_) (fun cdv A outer s H vs Q E HR h => ?_)
  · obtain ⟨p, d, e, es, n, m, rfl, _⟩ := h
    rfl
  · obtain ⟨p, d, e, es, n, m, rfl, tw, n0, m0, m1, hq⟩ := h
    have ND := sc_q31.nd
    have HU0 := HR.units0
    have HU := HR.units
    have hA := HR.hd
    have hz : (100000 : Nat) ≤ sizeLine := by rw [sizeLine_eq]; decide
    refine ⟨_, (pss_cons (ps_set (i := 4) ND rfl (loc_of (Or.inl l_q31__law_which)) (pe_op op_mod (pe_var (i := 2) (x := "_law_number") rfl (vis_of v_q31__law_number) d__law_number e__law_number) pe_int))
 (pss_cons (ps_set (i := 5) ND rfl (loc_of (Or.inl l_q31__law_one)) (pe_op op_mod (pe_op op_fdiv (pe_var (i := 2) (x := "_law_number") rfl (vis_of v_q31__law_number) d__law_number e__law_number) pe_int) pe_int))
 (pss_cons (ps_set (i := 6) ND rfl (loc_of (Or.inl l_q31__law_place)) (pe_op op_mod (pe_op op_fdiv (pe_var (i := 2) (x := "_law_number") rfl (vis_of v_q31__law_number) d__law_number e__law_number) pe_int) (pe_var (i := 3) (x := "_law_most") rfl (vis_of v_q31__law_most) d__law_most e__law_most)))
 (pss_cons (ps_set (i := 7) ND rfl (loc_of (Or.inl l_q31__law_other)) (pe_op op_mod (pe_op op_add (pe_var (i := 6) (x := "_law_place") rfl (vis_of v_q31__law_place) d__law_place e__law_place) (pe_ix ix_list (pe_lst (pa_cons pe_int (pa_cons pe_int (pa_cons (pe_op op_sub (pe_var (i := 3) (x := "_law_most") rfl (vis_of v_q31__law_most) d__law_most e__law_most) pe_int) (pa_cons (pe_op op_mod (pe_op op_fdiv (pe_var (i := 2) (x := "_law_number") rfl (vis_of v_q31__law_number) d__law_number e__law_number) pe_int) (pe_var (i := 3) (x := "_law_most") rfl (vis_of v_q31__law_most) d__law_most e__law_most)) pa_nil (stp rfl)) (stp rfl)) (stp rfl)) (stp rfl))) (pe_op op_mod (pe_op op_fdiv (pe_var (i := 2) (x := "_law_number") rfl (vis_of v_q31__law_number) d__law_number e__law_number) pe_int) pe_int) (fun _ _ => rfl))) (pe_var (i := 3) (x := "_law_most") rfl (vis_of v_q31__law_most) d__law_most e__law_most)))
 (pss_cons (ps_set (i := 8) ND rfl (loc_of (Or.inl l_q31__law_time)) (pe_op op_mod (pe_op op_fdiv (pe_var (i := 2) (x := "_law_number") rfl (vis_of v_q31__law_number) d__law_number e__law_number) pe_int) (pe_op op_add (pe_call G_Lend (HR.mono (by decide)) (gl_of g_q31__law_end) T.mg_Lend T.k_Lend B_Lend .nil pass0 (pa_cons (pe_var (i := 1) (x := "_law_kept") rfl (vis_of v_q31__law_kept) d__law_kept e__law_kept) pa_nil (stp rfl)) (hdb := d__law_end) (he := stp rfl) (hpl := anp rfl)) pe_int)))
 (pss_cons (ps_set (i := 9) ND rfl (loc_of (Or.inl l_q31__law_found)) (pe_call G_Ltold (HR.mono (by decide)) (gl_of g_q31__law_told) T.mg_Ltold T.k_Ltold B_Ltold .nil pass0 (pa_cons (pe_var (i := 0) (x := "_law_book") rfl (vis_of v_q31__law_book) d__law_book e__law_book) (pa_cons (pe_var (i := 4) (x := "_law_which") rfl (vis_of v_q31__law_which) d__law_which e__law_which) (pa_cons (pe_var (i := 5) (x := "_law_one") rfl (vis_of v_q31__law_one) d__law_one e__law_one) (pa_cons (pe_var (i := 6) (x := "_law_place") rfl (vis_of v_q31__law_place) d__law_place e__law_place) (pa_cons (pe_var (i := 7) (x := "_law_other") rfl (vis_of v_q31__law_other) d__law_other e__law_other) (pa_cons (pe_var (i := 8) (x := "_law_time") rfl (vis_of v_q31__law_time) d__law_time e__law_time) pa_nil (stp rfl)) (stp rfl)) (stp rfl)) (stp rfl)) (stp rfl)) (stp rfl)) (hdb := d__law_told) (he := stp rfl) (hpl := anp rfl)))
 (pss_cons (ps_set (i := 10) ND rfl (loc_of (Or.inl l_q31__law_due_here)) (pe_call G_Ldue (HR.mono (by decide)) (gl_of g_q31__law_due) T.mg_Ldue T.k_Ldue B_Ldue .nil pass0 (pa_cons (pe_var (i := 1) (x := "_law_kept") rfl (vis_of v_q31__law_kept) d__law_kept e__law_kept) (pa_cons (pe_var (i := 4) (x := "_law_which") rfl (vis_of v_q31__law_which) d__law_which e__law_which) (pa_cons (pe_var (i := 5) (x := "_law_one") rfl (vis_of v_q31__law_one) d__law_one e__law_one) (pa_cons (pe_var (i := 6) (x := "_law_place") rfl (vis_of v_q31__law_place) d__law_place e__law_place) (pa_cons (pe_var (i := 7) (x := "_law_other") rfl (vis_of v_q31__law_other) d__law_other e__law_other) (pa_cons (pe_var (i := 8) (x := "_law_time") rfl (vis_of v_q31__law_time) d__law_time e__law_time) pa_nil (stp rfl)) (stp rfl)) (stp rfl)) (stp rfl)) (stp rfl)) (stp rfl)) (hdb := d__law_due) (he := stp rfl) (hpl := anp rfl)))
 (pss_cons (ps_if (pt_cmpR op_eq (pe_var (i := 4) (x := "_law_which") rfl (vis_of v_q31__law_which) d__law_which e__law_which) pe_int (nomark _))
 (pss_one (ps_ret (pe_and (pe_callB call_isinst (gl_of g_q31_isinstance) T.b_isinstance PyProof.Rows.Boot.«isinstance» (pa_cons (pe_var (i := 9) (x := "_law_found") rfl (vis_of v_q31__law_found) d__law_found e__law_found) (pa_cons (pe_bltn (v := .ty "bool") (gl_of g_q31_bool) T.b_bool PyProof.Rows.Boot.«bool» rfl (hn := n_bool) (hd := d_bool)) pa_nil (stp rfl)) (stp rfl)) (hn := n_isinstance) (hdb := d_isinstance) (he := stp rfl) (hpl := anp rfl)) (pe_one (pe_cmpR (op_eqD HU) (pe_var (i := 9) (x := "_law_found") rfl (vis_of v_q31__law_found) d__law_found e__law_found) (pe_var (i := 10) (x := "_law_due_here") rfl (vis_of v_q31__law_due_here) d__law_due_here e__law_due_here) (nomark _))))))
 pss_nil)
 (pss_cons (ps_if (pt_cmpR op_isN (pe_var (i := 10) (x := "_law_due_here") rfl (vis_of v_q31__law_due_here) d__law_due_here e__law_due_here) pe_non (nomark _))
 (pss_one (ps_ret (pe_cmpR op_isN (pe_var (i := 9) (x := "_law_found") rfl (vis_of v_q31__law_found) d__law_found e__law_found) pe_non (nomark _))))
 pss_nil)
 (pss_one (ps_ret (pe_and (pe_call G_q29 (HR.mono (by decide)) (gl_of g_q31__law_whole) T.mg_q29 T.k_q29 B_q29 .nil pass0 (pa_cons (pe_var (i := 9) (x := "_law_found") rfl (vis_of v_q31__law_found) d__law_found e__law_found) pa_nil (stp rfl)) (hdb := d__law_whole) (he := stp rfl) (hpl := anp rfl)) (pe_one (pe_cmpR (op_eqD HU) (pe_var (i := 9) (x := "_law_found") rfl (vis_of v_q31__law_found) d__law_found e__law_found) (pe_var (i := 10) (x := "_law_due_here") rfl (vis_of v_q31__law_due_here) d__law_due_here e__law_due_here) (nomark _))))))))))))))), ?_⟩
    obtain ⟨⟨⟨dx, h1⟩, h2⟩, h3, en, ap, ne⟩ := id tw
    refine tSeq_cut (fun σ H' => ∃ wh : Int, 0 ≤ wh ∧ wh ≤ 3 ∧ H' = H ∧ σ = [some (V.ref p), some (V.ref e), some (V.int n), some (V.int m), some (V.int wh), none, none, none, none, none, none]) (fun nx hk => ?_) ?_
    · walk_at "RD"
      exact ⟨by decide, hk _ _ ⟨_, by omega, by omega, rfl, rfl⟩⟩
    rintro σ H0 ⟨wh, w0, w3, rfl, rfl⟩
    refine tSeq_cut (fun σ H' => ∃ on : Int, H' = H0 ∧ σ = [some (V.ref p), some (V.ref e), some (V.int n), some (V.int m), some (V.int wh), some (V.int on), none, none, none, none, none]) (fun nx hk => ?_) ?_
    · walk_at "RD"
      exact ⟨⟨by decide, by decide⟩, by decide, hk _ _ ⟨_, rfl, rfl⟩⟩
    rintro σ H0' ⟨on, rfl, rfl⟩
    refine tSeq_cut (fun σ H' => ∃ pl : Int, H' = H0' ∧ σ = [some (V.ref p), some (V.ref e), some (V.int n), some (V.int m), some (V.int wh), some (V.int on), some (V.int pl), none, none, none, none]) (fun nx hk => ?_) ?_
    · walk_at "RD"
      exact ⟨⟨by decide, by decide⟩, by omega, hk _ _ ⟨_, rfl, rfl⟩⟩
    rintro σ H1 ⟨pl, rfl, rfl⟩
    refine tSeq_cut (fun σ H' => ∃ ot : Int, Same H1 H' ∧ σ = [some (V.ref p), some (V.ref e), some (V.int n), some (V.int m), some (V.int wh), some (V.int on), some (V.int pl), some (V.int ot), none, none, none]) (fun nx hk => ?_) ?_
    · walk_at "RD"
      refine ⟨⟨by decide, by decide⟩, by omega, by omega, fun q nq => ⟨⟨by decide, by decide⟩, by decide, _, SqL.of upd_same, ?_⟩⟩
      rcases (show n / 2800 % 4 = 0 ∨ n / 2800 % 4 = 1 ∨ n / 2800 % 4 = 2 ∨ n / 2800 % 4 = 3 by omega) with z | z | z | z <;> rw [z]
      · exact ⟨_, rfl, _, rfl, by omega, hk _ _ ⟨_, same_new nq, rfl⟩⟩
      · exact ⟨_, rfl, _, rfl, by omega, hk _ _ ⟨_, same_new nq, rfl⟩⟩
      · exact ⟨_, rfl, _, rfl, by omega, hk _ _ ⟨_, same_new nq, rfl⟩⟩
      · exact ⟨_, rfl, _, rfl, by omega, hk _ _ ⟨_, same_new nq, rfl⟩⟩
    rintro σ H2 ⟨ot, s2, rfl⟩
    refine tSeq_cut (fun σ H' => ∃ ti : Int, 0 ≤ ti ∧ ti ≤ 500 ∧ Same H2 H' ∧ σ = [some (V.ref p), some (V.ref e), some (V.int n), some (V.int m), some (V.int wh), some (V.int on), some (V.int pl), some (V.int ot), some (V.int ti), none, none]) (fun nx hk => ?_) ?_
    · walk_at "RD"
      refine ⟨⟨by decide, by decide⟩, e, es, rfl, (tw.same s2).k, fun H' x s hx => ⟨x, rfl, by have := hx.1; omega, hk _ _ ⟨_, ?_, ?_, s, rfl⟩⟩⟩
      · exact Int.emod_nonneg _ (by have := hx.1; omega)
      · have := Int.emod_lt_of_pos (n / 11200) (show 0 < x + 3 by have := hx.1; omega)
        have := hx.2.1
        omega
    rintro σ H3 ⟨ti, ti0, ti1, s3, rfl⟩
    have tw3 := (tw.same s2).same s3
    refine tSeq_cut (fun σ H' => ∃ v, Same H3 H' ∧ AnsIs es wh on pl ot ti v ∧ σ = [some (V.ref p), some (V.ref e), some (V.int n), some (V.int m), some (V.int wh), some (V.int on), some (V.int pl), some (V.int ot), some (V.int ti), some v, none]) (fun nx hk => ?_) ?_
    · walk_at "RD"
      exact ⟨p, d, es, wh, on, pl, ot, ti, rfl, tw3.b, ap, w0, w3, fun H' v s hv => hk _ _ ⟨v, s, hv, rfl⟩⟩
    rintro σ H4 ⟨v, s4, hv, rfl⟩
    refine tSeq_cut (fun σ H' => Same H4 H' ∧ σ = [some (V.ref p), some (V.ref e), some (V.int n), some (V.int m), some (V.int wh), some (V.int on), some (V.int pl), some (V.int ot), some (V.int ti), some v, some v]) (fun nx hk => ?_) ?_
    · walk_at "RD"
      exact ⟨e, es, wh, on, pl, ot, ti, rfl, (tw3.same s4).k, w0, w3, ti0, ti1, fun H' v' s hv' => hk _ _ ⟨s, by rw [hv.uniq hv']⟩⟩
    rintro σ H5 ⟨s5, rfl⟩
    have fin := hq _ (((s2.trans s3).trans s4).trans s5)
    walk_at "RD"
    by_cases z : wh = 1
    · rw [if_pos z]
      obtain ⟨b, rfl⟩ : ∃ b, v = .bl b := by
        rcases hv with ⟨y, _⟩ | ⟨_, b, y, _⟩ | ⟨y, _⟩ | ⟨y, _⟩
        · omega
        · exact ⟨b, y⟩
        · omega
        · omega
      refine ⟨_, .bl b, true, rfl, ?_⟩
      rw [if_pos rfl]
      refine ⟨_, .bl b, _, .bl b, rfl, rfl, ?_⟩
      rw [eqv_self _ rfl]
      exact fin
    · rw [if_neg z]
      have oi : v = .non ∨ ∃ i, v = .int i := by
        rcases hv with ⟨_, y⟩ | ⟨y, _⟩ | ⟨_, m, y, _⟩ | ⟨_, y⟩
        · unfold whoIs at y
          split at y
          · exact .inr ⟨_, y⟩
          · exact .inl y
        · exact absurd y z
        · exact .inr ⟨m, y⟩
        · rcases y with ⟨y, _⟩ | ⟨k, y, _⟩
          · exact .inl y
          · exact .inr ⟨k, y⟩
      rcases oi with rfl | ⟨i, rfl⟩
      · rw [if_pos rfl]
        exact fin
      · rw [if_neg (by intro y; cases y)]
        refine ⟨.int i, rfl, ⟨_, .int i⟩, true, rfl, ?_⟩
        rw [if_pos rfl]
        refine ⟨_, .int i, _, .int i, rfl, rfl, ?_⟩
        rw [eqv_self _ rfl]
        exact fin
theorem sc_q26 : FnScope ["_law_book", "_law_kept", "_law_number", "_law_most", "_law_one", "_law_way"] ["_law_book", "_law_kept", "_law_number", "_law_most"] (defScope s_q26) := ⟨rfl, rfl, rfl, by decide +kernel, rfl, by decide +kernel, by decide +kernel⟩
set_option maxHeartbeats 4000000 in
theorem ok_q26 {fd : FuncData} (F : Fun K "_law_changed" "_law_changed" s_q26 ad.q26 fd) (T : Txt K mg ad) {fd_q15 : FuncData} (B_q15 : Binds K fd_q15 ["self", "number"] []) (G_q15 : FnOk P w K mg base (CXE P w) 3 ad.q15 fd_q15 ["self", "number"] (spDrop ad)) {fd_q11 : FuncData} (B_q11 : Binds K fd_q11 ["_law_cell", "_law_most"] []) (G_q11 : FnOk P w K mg base CX0 2 ad.q11 fd_q11 ["_law_cell", "_law_most"] (spDrawn)) {fd_q28 : FuncData} (B_q28 : Binds K fd_q28 ["_law_cell", "_law_k"] []) (G_q28 : FnOk P w K mg base CX0 1 ad.q28 fd_q28 ["_law_cell", "_law_k"] (spMixed)) {fd_q20 : FuncData} (B_q20 : Binds K fd_q20 ["self", "number", "way"] []) (G_q20 : FnOk P w K mg base (CXE P w) 5 ad.q20 fd_q20 ["self", "number", "way"] (spPut ad)) {fd_Lfits : FuncData} (B_Lfits : Binds K fd_Lfits ["_law_kept", "_law_number", "_law_way"] []) (G_Lfits : FnOk P w K mg base CX0 3 ad.Lfits fd_Lfits ["_law_kept", "_law_number", "_law_way"] (spFits)) (GM_Lfits : ∀ {ea C : Addr} {dx : Option Addr} {ob : Obj}, MkO C dx ob → FnOkM P w K mg base ea ob 3 ad.Lfits fd_Lfits ["_law_kept", "_law_number", "_law_way"] (spFits)) : FnOk P w K mg base CX0 6 ad.q26 fd ["_law_book", "_law_kept", "_law_number", "_law_most"] (spChanged ad) := by
  refine F.ok sc_q26 (fun vs H Q E h => ?_) (fun cdv A outer s H vs Q E HR h => ?_)
  · obtain ⟨p, d, e, es, n, m, rfl, _⟩ := h
    rfl
  · obtain ⟨p, d, e, es, n, m, rfl, tw, n0, n1, m0, m1, hq⟩ := h
    have ND := sc_q26.nd
    have HU0 := HR.units0
    have HU := HR.units
    have hA := HR.hd
    have hz : (100000 : Nat) ≤ sizeLine := by rw [sizeLine_eq]; decide
    refine ⟨_, (pss_cons (ps_set (i := 4) ND rfl (loc_of (Or.inl l_q26__law_one)) (pe_op op_mod (pe_var (i := 2) (x := "_law_number") rfl (vis_of v_q26__law_number) d__law_number e__law_number) pe_int))
 (pss_cons (ps_if (PW.pt (pw_and (pt_cmpR op_eq (pe_op op_mod (pe_op op_fdiv (pe_var (i := 2) (x := "_law_number") rfl (vis_of v_q26__law_number) d__law_number e__law_number) pe_int) pe_int) pe_int (nomark _)) (pw_and1 (pt_cmp (pc_din (hu1 HU) (pe_var (i := 4) (x := "_law_one") rfl (vis_of v_q26__law_one) d__law_one e__law_one) (pe_var (i := 1) (x := "_law_kept") rfl (vis_of v_q26__law_kept) d__law_kept e__law_kept)) (by with_unfolding_all rfl)))))
 (pss_cons (ps_expr (pe_methX (pe_var (i := 0) (x := "_law_book") rfl (vis_of v_q26__law_book) d__law_book e__law_book) T.cl_Book T.m_q15 G_q15 (HR.mono (by decide)) B_q15 .nil xc_no (pa_cons (pe_var (i := 4) (x := "_law_one") rfl (vis_of v_q26__law_one) d__law_one e__law_one) pa_nil (stp rfl)) (hst := stp rfl) (hpl := anp rfl)))
 (pss_one (ps_expr (pe_dpop1 (pe_var (i := 1) (x := "_law_kept") rfl (vis_of v_q26__law_kept) d__law_kept e__law_kept) (pe_var (i := 4) (x := "_law_one") rfl (vis_of v_q26__law_one) d__law_one e__law_one) ⟨rfl, rfl, rfl, rfl⟩))))
 (pss_cons (ps_set (i := 5) ND rfl (loc_of (Or.inl l_q26__law_way)) (pe_call G_q11 (HR.mono (by decide)) (gl_of g_q26__law_drawn_way) T.mg_q11 T.k_q11 B_q11 .nil pass0 (pa_cons (pe_call G_q28 (HR.mono (by decide)) (gl_of g_q26__law_mixed) T.mg_q28 T.k_q28 B_q28 .nil pass0 (pa_cons (pe_var (i := 2) (x := "_law_number") rfl (vis_of v_q26__law_number) d__law_number e__law_number) (pa_cons pe_int pa_nil (stp rfl)) (stp rfl)) (hdb := d__law_mixed) (he := stp rfl) (hpl := anp rfl)) (pa_cons (pe_var (i := 3) (x := "_law_most") rfl (vis_of v_q26__law_most) d__law_most e__law_most) pa_nil (stp rfl)) (stp rfl)) (hdb := d__law_drawn_way) (he := stp rfl) (hpl := anp rfl)))
 (pss_cons (ps_try rfl rfl (gl_of g_q26_Meets) T.mg_Meets d_Meets (fun pins EE WE XB => (pss_one (ps_expr (pe_methX (pe_var (i := 0) (x := "_law_book") rfl (vis_of v_q26__law_book) d__law_book e__law_book) T.cl_Book T.m_q20 G_q20 (HR.mono (by decide)) B_q20 .nil XB (pa_cons (pe_var (i := 4) (x := "_law_one") rfl (vis_of v_q26__law_one) d__law_one e__law_one) (pa_cons (pe_var (i := 5) (x := "_law_way") rfl (vis_of v_q26__law_way) d__law_way e__law_way) pa_nil (stp rfl)) (stp rfl)) (hst := stp rfl) (hpl := anp rfl)))))
 (fun pins ea C' dx ob mk => (pss_one (ps_ret (pe_not (pe_callM (GM_Lfits mk) mkd_suite (HR.m.mono (by decide)) (gl_of g_q26__law_fits) T.mg_Lfits T.k_Lfits B_Lfits (pa_cons (pe_var (i := 1) (x := "_law_kept") rfl (vis_of v_q26__law_kept) d__law_kept e__law_kept) (pa_cons (pe_var (i := 4) (x := "_law_one") rfl (vis_of v_q26__law_one) d__law_one e__law_one) (pa_cons (pe_var (i := 5) (x := "_law_way") rfl (vis_of v_q26__law_way) d__law_way e__law_way) pa_nil (stp rfl)) (stp rfl)) (stp rfl)) (hdb := d__law_fits) (he := stp rfl) (hpl := anp rfl)))))))
 (pss_cons (ps_if (pt_not (pt_val (pe_call G_Lfits (HR.mono (by decide)) (gl_of g_q26__law_fits) T.mg_Lfits T.k_Lfits B_Lfits .nil pass0 (pa_cons (pe_var (i := 1) (x := "_law_kept") rfl (vis_of v_q26__law_kept) d__law_kept e__law_kept) (pa_cons (pe_var (i := 4) (x := "_law_one") rfl (vis_of v_q26__law_one) d__law_one e__law_one) (pa_cons (pe_var (i := 5) (x := "_law_way") rfl (vis_of v_q26__law_way) d__law_way e__law_way) pa_nil (stp rfl)) (stp rfl)) (stp rfl)) (hdb := d__law_fits) (he := stp rfl) (hpl := anp rfl))))
 (pss_one (ps_ret pe_bl))
 pss_nil)
 (pss_one (ps_dput (hu1 HU) (pe_var (i := 1) (x := "_law_kept") rfl (vis_of v_q26__law_kept) d__law_kept e__law_kept) (pe_var (i := 4) (x := "_law_one") rfl (vis_of v_q26__law_one) d__law_one e__law_one) (pe_var (i := 5) (x := "_law_way") rfl (vis_of v_q26__law_way) d__law_way e__law_way) rfl))))))
 (pss_one (ps_ret pe_bl)))), ?_⟩
    obtain ⟨⟨⟨dx, ho⟩, hd⟩, he, en, ap, ne⟩ := id tw
    have kok : KeyOk (n % 6) := .inl ⟨by omega, by omega⟩
    have el := en.len
    refine tSeq_cut (fun σ H' => H' = H ∧ σ = [some (V.ref p), some (V.ref e), some (V.int n), some (V.int m), some (V.int (n % 6)), none]) (fun nx hk => ?_) ?_
    · walk_at "RD"
      exact ⟨by decide, hk _ _ ⟨rfl, rfl⟩⟩
    rintro σ H ⟨rfl, rfl⟩
    refine tSeq_cut (fun σ H' => ∃ (es' : List Ent) (y : Option V), But2 d e H H' ∧ Two ad.C_Book H' p d e es' ∧ σ = [some (V.ref p), some (V.ref e), some (V.int n), some (V.int m), some (V.int (n % 6)), y]) (fun nx hk => ?_) ?_
    · simp only [tFor_eq, iRng1, iRng2, gTup, gTupL, gCons, gNil, tRevT, rRep01, rCatT, rCat, rRep, cxKm, cxKs, cxKt, tTryAs, tTry, onlyRet, tDGet1, tDIn, tDNotIn, tDNewK, sDPut, tDGet, tDPop1, tXGetO, tXGet, tRaiseI, sXFld, iZip, tStepL, iEnum, iVals, tMaxD, tThawK, tThawE, iDictK, Ends.thawK, tCallX, tMethX, tMakeX, tRaise, noW, tAsg, tOp, tUn, tVar, tC, rI0, rI, rU, tTest, tIfS, tNext, tRet, tRetN, tDrop, gName, tCB, tCons, tNil, tAndV, tOrV, tNotV, tAnd, tOr, tNot, tB, tIf, tChain, tCall, tBM, tBM0, tLst, tTup, tNoPart, tPart, tSlS, tSl, tBreak, tCont, rSlA, rSlL, rPopAt, rIn, rIxL, rIxT, rIxS, rEq, rNe, scal, rAppend, rPop, rIndex, tFld, sFld, tMeth, tMake, tDNewK, gSub, rSetL, tJoinRev, tComp, sComp, capσ, iStr, iList, iTup, rEqD, cxK, cxA, cxKc, cxAc, L2.start, List.map_cons, List.map_nil, List.length_cons, List.length_nil, List.replicate_succ, List.replicate_zero, List.cons_append, List.nil_append, List.append_nil, Nat.reduceAdd, Nat.reduceSub, List.set_cons_zero, List.set_cons_succ, List.getElem?_cons_zero, List.getElem?_cons_succ, Option.getD_some, Option.getD_none, Option.some.injEq, V.int.injEq, V.ref.injEq, V.bl.injEq, V.str.injEq, V.ty.injEq, exists_eq_left', exists_eq_left, exists_and_left, and_assoc, List.cons.injEq, and_true, true_and, decide_eq_true_eq, Bool.not_eq_true', decide_eq_false_iff_not, Bool.false_eq_true, if_false, if_true, reduceIte, Bool.not_true, Bool.not_false, beq_self_eq_true]
      refine ⟨⟨by decide, by decide⟩, by decide, ?_⟩
      by_cases z1 : n / 6 % 2 = 1
      · rw [if_pos z1]
        refine ⟨_, DGet.k (k := .inl (n % 6)) he, ?_⟩
        cases hh : hasE es (n % 6) with
        | true =>
          obtain ⟨e1, he1, ek⟩ := hasE_t.mp hh
          have hv : valV (dw es) (.inl (n % 6)) = some e1.v := by rw [← ek]; exact val_mem en.nd he1
          rw [hv, if_pos (by rfl)]
          walk_at "RD"
          refine ⟨_, _, ho, w_no d (by decide +kernel), p, d, es, n % 6, rfl, tw.bk, en.nd, fun _ => ?_, fun no => absurd ek (no e1 he1)⟩
          have he' : upd H d (.dK (dw (dropE es (n % 6)))) e = some (.dK (dw es)) := by rw [upd_ne ne.symm]; exact he
          refine ⟨.inl ⟨_, .inl he'⟩, _, he', .inl (n % 6), rfl, e1.v, hv, ?_⟩
          rw [dw_drop]
          exact hk _ _ ⟨dropE es (n % 6), _, but2_set, tw.set (en.drop _) (ap.sub fun x hx => (List.mem_filter.mp hx).1), rfl⟩
        | false =>
          rw [val_none (hasE_f.mp hh), if_neg (by decide)]
          refine tSeq_cut (fun σ H' => ∃ v b c, Same H H' ∧ WayAt H' v b c ∧ Tiny b c ∧ σ = [some (V.ref p), some (V.ref e), some (V.int n), some (V.int m), some (V.int (n % 6)), some v]) (fun nx hk' => ?_) ?_
          · walk_at "RD"
            exact ⟨n, 7, rfl, bits_small n0 (by omega), by decide, by decide, fun x x0 x1 => ⟨x, m, rfl, x0, x1, m0, m1, fun v b c H' s wy ty => hk' _ _ ⟨v, b, c, s, wy, ty, rfl⟩⟩⟩
          rintro σ H2 ⟨v, b, c, s2, wy, ty, rfl⟩
          have tw2 := tw.same s2
          refine tSeq_cut (fun σ H' => ∃ H3, Same H2 H3 ∧ PutIs es (n % 6) b c none ∧ H' = upd H3 d (.dK (dw (putE es ⟨n % 6, v, b, c⟩))) ∧ σ = [some (V.ref p), some (V.ref e), some (V.int n), some (V.int m), some (V.int (n % 6)), some v]) (fun nx hk' => ?_) ?_
          · walk_at "RD"
            refine ⟨fun σ cls dx H' => σ = [some (V.ref p), some (V.ref e), some (V.int n), some (V.int m), some (V.int (n % 6)), some v] ∧ cls = .ref ad.C_Meets ∧ ∃ k, Same H2 H' ∧ PutIs es (n % 6) b c (some k), ⟨_, _, s2 _ _ ho, w_no d (by decide +kernel), p, d, es, n % 6, v, b, c, rfl, tw2.bk, tw2.en, wy, ty, fun H3 s3 => ⟨fun PI => hk' _ _ ⟨H3, s3, PI, rfl, rfl⟩, fun k x PI hx => ⟨rfl, rfl, k, s3, PI⟩⟩⟩, ?_⟩
            rintro σ' cls dx' H' ⟨rfl, rfl, k, s3, PI⟩
            refine ⟨_, rfl, T.xm_Meets_Meets, fun ea _ => ⟨_, rfl, _, rfl, _, rfl, e, es, n % 6, v, b, c, rfl, (tw2.same s3).k, wy.same s3, ty, fun H4 r s4 hr => ⟨r, rfl, ?_⟩⟩⟩
            cases r with
            | true => have := (hr.mp rfl).uniq PI; cases this
            | false => exact hq _ es (but2_of ((s2.trans s3).trans s4)) ((tw2.same s3).same s4)
          rintro σ H4 ⟨H3, s3, PI, rfl, rfl⟩
          have tw3 := tw2.same s3
          have TS := tw3.set (tw3.en.put ⟨wy.same s3, ty, kok⟩) (tw3.ap.put PI)
          have kp4 : KpAt (upd H3 d (.dK (dw (putE es ⟨n % 6, v, b, c⟩)))) e es := ⟨by rw [upd_ne ne.symm]; exact tw3.kp, tw3.en.tups ((sameB_upd (same_b (Same.refl _))).tups fun xs z => by rw [tw3.bk.tb] at z; cases z)⟩
          have wy4 : WayAt (upd H3 d (.dK (dw (putE es ⟨n % 6, v, b, c⟩)))) v b c := WayAt.tups ((sameB_upd (same_b (Same.refl _))).tups fun xs z => by rw [tw3.bk.tb] at z; cases z) (wy.same s3)
          walk_at "RD"
          refine ⟨e, es, n % 6, v, b, c, rfl, kp4, wy4, ty, fun H5 r s5 hr => ⟨r, rfl, ?_⟩⟩
          cases r with
          | false => have := hr.mpr PI; cases this
          | true =>
            rw [if_neg (by decide)]
            refine ⟨_, DPut.k (k := .inl (n % 6)) (s5 _ _ kp4.1) (by rw [dw_len]; omega), ?_⟩
            rw [dw_put es ⟨n % 6, v, b, c⟩]
            exact hk _ _ ⟨_, _, ((but2_of (s2.trans s3)).trans but2_set).trans (but2_of (same_both s5)), TS.same (same_both s5), rfl⟩
      · rw [if_neg z1]
        refine tSeq_cut (fun σ H' => ∃ v b c, Same H H' ∧ WayAt H' v b c ∧ Tiny b c ∧ σ = [some (V.ref p), some (V.ref e), some (V.int n), some (V.int m), some (V.int (n % 6)), some v]) (fun nx hk' => ?_) ?_
        · walk_at "RD"
          exact ⟨n, 7, rfl, bits_small n0 (by omega), by decide, by decide, fun x x0 x1 => ⟨x, m, rfl, x0, x1, m0, m1, fun v b c H' s wy ty => hk' _ _ ⟨v, b, c, s, wy, ty, rfl⟩⟩⟩
        rintro σ H2 ⟨v, b, c, s2, wy, ty, rfl⟩
        have tw2 := tw.same s2
        refine tSeq_cut (fun σ H' => ∃ H3, Same H2 H3 ∧ PutIs es (n % 6) b c none ∧ H' = upd H3 d (.dK (dw (putE es ⟨n % 6, v, b, c⟩))) ∧ σ = [some (V.ref p), some (V.ref e), some (V.int n), some (V.int m), some (V.int (n % 6)), some v]) (fun nx hk' => ?_) ?_
        · walk_at "RD"
          refine ⟨fun σ cls dx H' => σ = [some (V.ref p), some (V.ref e), some (V.int n), some (V.int m), some (V.int (n % 6)), some v] ∧ cls = .ref ad.C_Meets ∧ ∃ k, Same H2 H' ∧ PutIs es (n % 6) b c (some k), ⟨_, _, s2 _ _ ho, w_no d (by decide +kernel), p, d, es, n % 6, v, b, c, rfl, tw2.bk, tw2.en, wy, ty, fun H3 s3 => ⟨fun PI => hk' _ _ ⟨H3, s3, PI, rfl, rfl⟩, fun k x PI hx => ⟨rfl, rfl, k, s3, PI⟩⟩⟩, ?_⟩
          rintro σ' cls dx' H' ⟨rfl, rfl, k, s3, PI⟩
          refine ⟨_, rfl, T.xm_Meets_Meets, fun ea _ => ⟨_, rfl, _, rfl, _, rfl, e, es, n % 6, v, b, c, rfl, (tw2.same s3).k, wy.same s3, ty, fun H4 r s4 hr => ⟨r, rfl, ?_⟩⟩⟩
          cases r with
          | true => have := (hr.mp rfl).uniq PI; cases this
          | false => exact hq _ es (but2_of ((s2.trans s3).trans s4)) ((tw2.same s3).same s4)
        rintro σ H4 ⟨H3, s3, PI, rfl, rfl⟩
        have tw3 := tw2.same s3
        have TS := tw3.set (tw3.en.put ⟨wy.same s3, ty, kok⟩) (tw3.ap.put PI)
        have kp4 : KpAt (upd H3 d (.dK (dw (putE es ⟨n % 6, v, b, c⟩)))) e es := ⟨by rw [upd_ne ne.symm]; exact tw3.kp, tw3.en.tups ((sameB_upd (same_b (Same.refl _))).tups fun xs z => by rw [tw3.bk.tb] at z; cases z)⟩
        have wy4 : WayAt (upd H3 d (.dK (dw (putE es ⟨n % 6, v, b, c⟩)))) v b c := WayAt.tups ((sameB_upd (same_b (Same.refl _))).tups fun xs z => by rw [tw3.bk.tb] at z; cases z) (wy.same s3)
        walk_at "RD"
        refine ⟨e, es, n % 6, v, b, c, rfl, kp4, wy4, ty, fun H5 r s5 hr => ⟨r, rfl, ?_⟩⟩
        cases r with
        | false => have := hr.mpr PI; cases this
        | true =>
          rw [if_neg (by decide)]
          refine ⟨_, DPut.k (k := .inl (n % 6)) (s5 _ _ kp4.1) (by rw [dw_len]; omega), ?_⟩
          rw [dw_put es ⟨n % 6, v, b, c⟩]
          exact hk _ _ ⟨_, _, ((but2_of (s2.trans s3)).trans but2_set).trans (but2_of (same_both s5)), TS.same (same_both s5), rfl⟩
    rintro σ H' ⟨es', y, bt, tw', rfl⟩
    walk_at "RD"
    exact hq _ es' bt tw'
theorem sc_law : FnScope ["_law_script", "_law_most", "_law_book", "_law_kept", "_law_other", "_law_first", "_law_k", "_law_number", "_law_turn"] ["_law_script"] (defScope s_law) := ⟨rfl, rfl, rfl, by decide +kernel, rfl, by decide +kernel, by decide +kernel⟩
set_option maxHeartbeats 4000000 in
theorem ok_law {fd : FuncData} (F : Fun K "law" "law" s_law ad.law fd) (T : Txt K mg ad) {fd_q23 : FuncData} (B_q23 : Binds K fd_q23 ["_law_script", "_law_k"] []) (G_q23 : FnOk P w K mg base CX0 1 ad.q23 fd_q23 ["_law_script", "_law_k"] (spCell K)) {fd_q14 : FuncData} (B_q14 : Binds K fd_q14 ["self"] []) (G_q14 : FnOk P w K mg base CX0 1 ad.q14 fd_q14 ["self"] (spBInit ad)) {fd_q27 : FuncData} (B_q27 : Binds K fd_q27 ["_law_script", "_law_book", "_law_kept", "_law_most"] []) (G_q27 : FnOk P w K mg base CX0 6 ad.q27 fd_q27 ["_law_script", "_law_book", "_law_kept", "_law_most"] (spFilled ad K)) {fd_q8 : FuncData} (B_q8 : Binds K fd_q8 ["self"] []) (G_q8 : FnOk P w K mg base CX0 3 ad.q8 fd_q8 ["self"] (spCopied ad)) {fd_q28 : FuncData} (B_q28 : Binds K fd_q28 ["_law_cell", "_law_k"] []) (G_q28 : FnOk P w K mg base CX0 1 ad.q28 fd_q28 ["_law_cell", "_law_k"] (spMixed)) {fd_q31 : FuncData} (B_q31 : Binds K fd_q31 ["_law_book", "_law_kept", "_law_number", "_law_most"] []) (G_q31 : FnOk P w K mg base CX0 6 ad.q31 fd_q31 ["_law_book", "_law_kept", "_law_number", "_law_most"] (spRight ad)) {fd_q26 : FuncData} (B_q26 : Binds K fd_q26 ["_law_book", "_law_kept", "_law_number", "_law_most"] []) (G_q26 : FnOk P w K mg base CX0 6 ad.q26 fd_q26 ["_law_book", "_law_kept", "_law_number", "_law_most"] (spChanged ad)) : FnOk P w K mg base CX0 8 ad.law fd ["_law_script"] (spLaw K) := by
  refine F.ok sc_law (fun vs H Q E h => ?_) (fun cdv A outer s H vs Q E HR h => ?_)
  · obtain ⟨a, ns, rfl, _⟩ := h
    rfl
  · obtain ⟨a, ns, rfl, hS, hl, hbt, hq⟩ := h
    have ND := sc_law.nd
    have HU0 := HR.units0
    have HU := HR.units
    have hA := HR.hd
    have hz : (100000 : Nat) ≤ sizeLine := by rw [sizeLine_eq]; decide
    refine ⟨_, (pss_cons (ps_set (i := 1) ND rfl (loc_of (Or.inl l_law__law_most)) (pe_ix ix_list (pe_lst (pa_cons pe_int (pa_cons pe_int (pa_cons pe_int pa_nil (stp rfl)) (stp rfl)) (stp rfl))) (pe_op op_mod (pe_call G_q23 (HR.mono (by decide)) (gl_of g_law__law_cell_at) T.mg_q23 T.k_q23 B_q23 .nil pass0 (pa_cons (pe_var (i := 0) (x := "_law_script") rfl (vis_of v_law__law_script) d__law_script e__law_script) (pa_cons pe_int pa_nil (stp rfl)) (stp rfl)) (hdb := d__law_cell_at) (he := stp rfl) (hpl := anp rfl)) pe_int) (fun _ _ => rfl)))
 (pss_cons (ps_set (i := 2) ND rfl (loc_of (Or.inl l_law__law_book)) (pe_make0 T.mk_Book G_q14 (HR.mono (by decide)) (gl_of g_law_Book) T.mg_Book B_q14 .nil pass0 (hdb := d_Book)))
 (pss_cons (ps_set (i := 3) ND rfl (loc_of (Or.inl l_law__law_kept)) pe_dnewK)
 (pss_cons (ps_expr (pe_call G_q27 (HR.mono (by decide)) (gl_of g_law__law_filled) T.mg_q27 T.k_q27 B_q27 .nil pass0 (pa_cons (pe_var (i := 0) (x := "_law_script") rfl (vis_of v_law__law_script) d__law_script e__law_script) (pa_cons (pe_var (i := 2) (x := "_law_book") rfl (vis_of v_law__law_book) d__law_book e__law_book) (pa_cons (pe_var (i := 3) (x := "_law_kept") rfl (vis_of v_law__law_kept) d__law_kept e__law_kept) (pa_cons (pe_var (i := 1) (x := "_law_most") rfl (vis_of v_law__law_most) d__law_most e__law_most) pa_nil (stp rfl)) (stp rfl)) (stp rfl)) (stp rfl)) (hdb := d__law_filled) (he := stp rfl) (hpl := anp rfl)))
 (pss_cons (ps_set (i := 4) ND rfl (loc_of (Or.inl l_law__law_other)) (pe_meth0 (pe_var (i := 2) (x := "_law_book") rfl (vis_of v_law__law_book) d__law_book e__law_book) T.cl_Book T.m_q8 G_q8 (HR.mono (by decide)) B_q8 .nil pass0))
 (pss_cons (ps_set (i := 5) ND rfl (loc_of (Or.inl l_law__law_first)) (pe_callTy call_dictK (gl_of g_law_dict) T.b_dict PyProof.Rows.Boot.«dict» (pa_cons (pe_var (i := 3) (x := "_law_kept") rfl (vis_of v_law__law_kept) d__law_kept e__law_kept) pa_nil (stp rfl)) (hn := n_dict) (hdb := d_dict) (he := stp rfl) (hpl := anp rfl)))
 (pss_cons (ps_for PassesOwn.never (calm0 rfl) (pi_range1 (gl_of g_law_range) T.b_range (pa_cons (pe_callB (call_min2 rfl) (gl_of g_law_min) T.b_min PyProof.Rows.Boot.«min» (pa_cons pe_int (pa_cons (pe_callB call_len_seq (gl_of g_law_len) T.b_len PyProof.Rows.Boot.«len» (pa_cons (pe_var (i := 0) (x := "_law_script") rfl (vis_of v_law__law_script) d__law_script e__law_script) pa_nil (stp rfl)) (hn := n_len) (hdb := d_len) (he := stp rfl) (hpl := anp rfl)) pa_nil (stp rfl)) (stp rfl)) (hn := n_min) (hdb := d_min) (he := stp rfl) (hpl := anp rfl)) pa_nil (stp rfl)) (st1 rfl)) (pg_name (i := 6) ND rfl (loc_of (Or.inl l_law__law_k)))
 (pss_cons (ps_set (i := 7) ND rfl (loc_of (Or.inl l_law__law_number)) (pe_call G_q28 (HR.mono (by decide)) (gl_of g_law__law_mixed) T.mg_q28 T.k_q28 B_q28 .nil pass0 (pa_cons (pe_call G_q23 (HR.mono (by decide)) (gl_of g_law__law_cell_at) T.mg_q23 T.k_q23 B_q23 .nil pass0 (pa_cons (pe_var (i := 0) (x := "_law_script") rfl (vis_of v_law__law_script) d__law_script e__law_script) (pa_cons (pe_op op_add pe_int (pe_var (i := 6) (x := "_law_k") rfl (vis_of v_law__law_k) d__law_k e__law_k)) pa_nil (stp rfl)) (stp rfl)) (hdb := d__law_cell_at) (he := stp rfl) (hpl := anp rfl)) (pa_cons (pe_op op_add (pe_var (i := 6) (x := "_law_k") rfl (vis_of v_law__law_k) d__law_k e__law_k) pe_int) pa_nil (stp rfl)) (stp rfl)) (hdb := d__law_mixed) (he := stp rfl) (hpl := anp rfl)))
 (pss_cons (ps_for PassesOwn.never (calm0 rfl) (pi_range1 (gl_of g_law_range) T.b_range (pa_cons pe_int pa_nil (stp rfl)) (st1 rfl)) (pg_name (i := 8) ND rfl (loc_of (Or.inl l_law__law_turn)))
 (pss_one (ps_if (pt_not (pt_val (pe_call G_q31 (HR.mono (by decide)) (gl_of g_law__law_right) T.mg_q31 T.k_q31 B_q31 .nil pass0 (pa_cons (pe_var (i := 2) (x := "_law_book") rfl (vis_of v_law__law_book) d__law_book e__law_book) (pa_cons (pe_var (i := 3) (x := "_law_kept") rfl (vis_of v_law__law_kept) d__law_kept e__law_kept) (pa_cons (pe_op op_fdiv (pe_var (i := 7) (x := "_law_number") rfl (vis_of v_law__law_number) d__law_number e__law_number) (pe_op op_add pe_int (pe_op op_mul pe_int (pe_var (i := 8) (x := "_law_turn") rfl (vis_of v_law__law_turn) d__law_turn e__law_turn)))) (pa_cons (pe_var (i := 1) (x := "_law_most") rfl (vis_of v_law__law_most) d__law_most e__law_most) pa_nil (stp rfl)) (stp rfl)) (stp rfl)) (stp rfl)) (hdb := d__law_right) (he := stp rfl) (hpl := anp rfl))))
 (pss_one (ps_ret pe_bl))
 pss_nil)))
 (pss_cons (ps_if (PW.pt (pw_or (pt_not (pt_val (pe_call G_q31 (HR.mono (by decide)) (gl_of g_law__law_right) T.mg_q31 T.k_q31 B_q31 .nil pass0 (pa_cons (pe_var (i := 4) (x := "_law_other") rfl (vis_of v_law__law_other) d__law_other e__law_other) (pa_cons (pe_var (i := 5) (x := "_law_first") rfl (vis_of v_law__law_first) d__law_first e__law_first) (pa_cons (pe_op op_fdiv (pe_var (i := 7) (x := "_law_number") rfl (vis_of v_law__law_number) d__law_number e__law_number) pe_int) (pa_cons (pe_var (i := 1) (x := "_law_most") rfl (vis_of v_law__law_most) d__law_most e__law_most) pa_nil (stp rfl)) (stp rfl)) (stp rfl)) (stp rfl)) (hdb := d__law_right) (he := stp rfl) (hpl := anp rfl)))) (pw_or1 (pt_not (pt_val (pe_call G_q31 (HR.mono (by decide)) (gl_of g_law__law_right) T.mg_q31 T.k_q31 B_q31 .nil pass0 (pa_cons (pe_make0 T.mk_Book G_q14 (HR.mono (by decide)) (gl_of g_law_Book) T.mg_Book B_q14 .nil pass0 (hdb := d_Book)) (pa_cons pe_dnewK (pa_cons (pe_var (i := 7) (x := "_law_number") rfl (vis_of v_law__law_number) d__law_number e__law_number) (pa_cons (pe_var (i := 1) (x := "_law_most") rfl (vis_of v_law__law_most) d__law_most e__law_most) pa_nil (stp rfl)) (stp rfl)) (stp rfl)) (stp rfl)) (hdb := d__law_right) (he := stp rfl) (hpl := anp rfl)))))))
 (pss_one (ps_ret pe_bl))
 pss_nil)
 (pss_cons (ps_if (PW.pt (pw_and (pt_cmpR op_eq (pe_op op_mod (pe_op op_fdiv (pe_var (i := 7) (x := "_law_number") rfl (vis_of v_law__law_number) d__law_number e__law_number) pe_int) pe_int) pe_int (nomark _)) (pw_and1 (pt_not (pt_val (pe_call G_q26 (HR.mono (by decide)) (gl_of g_law__law_changed) T.mg_q26 T.k_q26 B_q26 .nil pass0 (pa_cons (pe_var (i := 2) (x := "_law_book") rfl (vis_of v_law__law_book) d__law_book e__law_book) (pa_cons (pe_var (i := 3) (x := "_law_kept") rfl (vis_of v_law__law_kept) d__law_kept e__law_kept) (pa_cons (pe_op op_fdiv (pe_var (i := 7) (x := "_law_number") rfl (vis_of v_law__law_number) d__law_number e__law_number) pe_int) (pa_cons (pe_var (i := 1) (x := "_law_most") rfl (vis_of v_law__law_most) d__law_most e__law_most) pa_nil (stp rfl)) (stp rfl)) (stp rfl)) (stp rfl)) (hdb := d__law_changed) (he := stp rfl) (hpl := anp rfl)))))))
 (pss_one (ps_ret pe_bl))
 pss_nil)
 (pss_one (ps_if (pt_not (pt_val (pe_call G_q31 (HR.mono (by decide)) (gl_of g_law__law_right) T.mg_q31 T.k_q31 B_q31 .nil pass0 (pa_cons (pe_var (i := 2) (x := "_law_book") rfl (vis_of v_law__law_book) d__law_book e__law_book) (pa_cons (pe_var (i := 3) (x := "_law_kept") rfl (vis_of v_law__law_kept) d__law_kept e__law_kept) (pa_cons (pe_var (i := 7) (x := "_law_number") rfl (vis_of v_law__law_number) d__law_number e__law_number) (pa_cons (pe_var (i := 1) (x := "_law_most") rfl (vis_of v_law__law_most) d__law_most e__law_most) pa_nil (stp rfl)) (stp rfl)) (stp rfl)) (stp rfl)) (hdb := d__law_right) (he := stp rfl) (hpl := anp rfl))))
 (pss_one (ps_ret pe_bl))
 pss_nil)))))))
 (pss_one (ps_ret pe_bl))))))))), ?_⟩
    refine tSeq_cut (fun σ H' => ∃ mo : Int, 1 ≤ mo ∧ mo ≤ 100 ∧ Same H H' ∧ σ = [some (V.ref a), some (V.int mo), none, none, none, none, none, none, none]) (fun nx hk => ?_) ?_
    · walk_at "RD"
      refine ⟨by omega, fun p np => ⟨a, ns, _, rfl, (same_new np).seq hS, hbt, by decide, fun c cb => ⟨c, rfl, by decide, _, SqL.of upd_same, ?_⟩⟩⟩
      rcases (show c % 3 = 0 ∨ c % 3 = 1 ∨ c % 3 = 2 by omega) with z | z | z <;> rw [z]
      · exact ⟨_, rfl, hk _ _ ⟨4, by decide, by decide, same_new np, rfl⟩⟩
      · exact ⟨_, rfl, hk _ _ ⟨6, by decide, by decide, same_new np, rfl⟩⟩
      · exact ⟨_, rfl, hk _ _ ⟨10, by decide, by decide, same_new np, rfl⟩⟩
    rintro σ H1 ⟨mo, m0, m1, s1, rfl⟩
    refine tSeq_cut (fun σ H' => ∃ bp bd, Same H1 H' ∧ BookAt ad.C_Book H' bp bd [] ∧ σ = [some (V.ref a), some (V.int mo), some (V.ref bp), none, none, none, none, none, none]) (fun nx hk => ?_) ?_
    · walk_at "RD"
      intro x dx nx' ndx nn
      refine ⟨x, dx, rfl, upd_same, fun d nd => ⟨rfl, ?_⟩⟩
      obtain ⟨S1, g1, g2⟩ := made (o3 := HO.dK []) (o4 := HO.ins ad.C_Book dx (wl d)) nx' ndx nn nd
      exact hk _ _ ⟨x, d, S1, ⟨⟨dx, upd_same⟩, by rw [upd_ne g1, upd_same]; rfl⟩, rfl⟩
    rintro σ H2 ⟨bp, bd, s2, bk, rfl⟩
    refine tSeq_cut (fun σ H' => ∃ ke, Same H2 H' ∧ Two ad.C_Book H' bp bd ke [] ∧ σ = [some (V.ref a), some (V.int mo), some (V.ref bp), some (V.ref ke), none, none, none, none, none]) (fun nx hk => ?_) ?_
    · walk_at "RD"
      exact fun ke nk => hk _ _ ⟨ke, same_new nk, two_new bk nk, rfl⟩
    rintro σ H3 ⟨ke, s3, t3, rfl⟩
    have sq3 := ((s1.trans s2).trans s3).seq hS
    refine tSeq_cut (fun σ H' => ∃ es, SqL K H' a (ns.map V.int) ∧ Two ad.C_Book H' bp bd ke es ∧ σ = [some (V.ref a), some (V.int mo), some (V.ref bp), some (V.ref ke), none, none, none, none, none]) (fun nx hk => ?_) ?_
    · walk_at "RD"
      exact ⟨a, bp, bd, ke, ns, mo, rfl, sq3, hbt, m0, m1, t3, fun H' es bt tw => hk _ _ ⟨es, bt.seq t3.bk.tb t3.kp sq3, tw, rfl⟩⟩
    rintro σ H4 ⟨es, sq4, t4, rfl⟩
    obtain ⟨⟨dx, ho⟩, hd⟩ := id t4.bk
    refine tSeq_cut (fun σ H' => ∃ op od, Same H4 H' ∧ H4 od = none ∧ BookAt ad.C_Book H' op od es ∧ σ = [some (V.ref a), some (V.int mo), some (V.ref bp), some (V.ref ke), some (V.ref op), none, none, none, none]) (fun nx hk => ?_) ?_
    · walk_at "RD"
      exact ⟨_, _, ho, w_no bd (by decide +kernel), bp, bd, es, rfl, t4.bk, fun p' d' H' s np nd hb => hk _ _ ⟨p', d', s, nd, hb, rfl⟩⟩
    rintro σ H5 ⟨op, od, s5, nod, b5, rfl⟩
    refine tSeq_cut (fun σ H' => ∃ fe, Both K ad.C_Book a bp bd ke op od fe ns H' ∧ σ = [some (V.ref a), some (V.int mo), some (V.ref bp), some (V.ref ke), some (V.ref op), some (V.ref fe), none, none, none]) (fun nx hk => ?_) ?_
    · walk_at "RD"
      refine ⟨_, s5 _ _ t4.kp, fun fe nf => hk _ _ ⟨fe, ?_, rfl⟩⟩
      have s6 := same_new (o := HO.dK (dw es)) nf
      have t5 := t4.same s5
      exact ⟨(s5.trans s6).seq sq4, ⟨es, t5.same s6⟩, ⟨es, ⟨b5.same s6, upd_same, (t5.same s6).en, t4.ap, ne_of_none b5.tb nf⟩⟩, (ne_of_none t4.bk.tb nod).symm, (ne_of_none t4.kp nod).symm, (ne_of_none t5.bk.tb nf).symm, (ne_of_none t5.kp nf).symm⟩
    rintro σ H6 ⟨fe, B6, rfl⟩
    refine tSeq_cut (fun σ H' => True) (fun nx hk => ?_) ?_
    · walk_at "RD"
      refine ⟨_, .inl B6.sq, by split <;> omega, by split <;> omega, ?_⟩
      rw [List.length_map]
      obtain ⟨nn, en, e16⟩ : ∃ nn : Nat, (if (ns.length : Int) < 16 then (ns.length : Int) else 16).toNat = nn ∧ nn ≤ 16 := ⟨_, rfl, by split <;> omega⟩
      rw [en]
      refine for_range (n := nn) (fun i σ H' => ∃ (x6 x7 x8 : Option V), Both K ad.C_Book a bp bd ke op od fe ns H' ∧ σ = [some (V.ref a), some (V.int mo), some (V.ref bp), some (V.ref ke), some (V.ref op), some (V.ref fe), x6, x7, x8]) ⟨none, none, none, B6, rfl⟩ ?_ ?_
      · rintro i σ H7 hi ⟨x6, x7, x8, B7, rfl⟩
        rw [Int.zero_add]
        simp only [tFor_eq, iRng1, iRng2, gTup, gTupL, gCons, gNil, tRevT, rRep01, rCatT, rCat, rRep, cxKm, cxKs, cxKt, tTryAs, tTry, onlyRet, tDGet1, tDIn, tDNotIn, tDNewK, sDPut, tDGet, tDPop1, tXGetO, tXGet, tRaiseI, sXFld, iZip, tStepL, iEnum, iVals, tMaxD, tThawK, tThawE, iDictK, Ends.thawK, tCallX, tMethX, tMakeX, tRaise, noW, tAsg, tOp, tUn, tVar, tC, rI0, rI, rU, tTest, tIfS, tNext, tRet, tRetN, tDrop, gName, tCB, tCons, tNil, tAndV, tOrV, tNotV, tAnd, tOr, tNot, tB, tIf, tChain, tCall, tBM, tBM0, tLst, tTup, tNoPart, tPart, tSlS, tSl, tBreak, tCont, rSlA, rSlL, rPopAt, rIn, rIxL, rIxT, rIxS, rEq, rNe, scal, rAppend, rPop, rIndex, tFld, sFld, tMeth, tMake, tDNewK, gSub, rSetL, tJoinRev, tComp, sComp, capσ, iStr, iList, iTup, rEqD, cxK, cxA, cxKc, cxAc, L2.start, List.map_cons, List.map_nil, List.length_cons, List.length_nil, List.replicate_succ, List.replicate_zero, List.cons_append, List.nil_append, List.append_nil, Nat.reduceAdd, Nat.reduceSub, List.set_cons_zero, List.set_cons_succ, List.getElem?_cons_zero, List.getElem?_cons_succ, Option.getD_some, Option.getD_none, Option.some.injEq, V.int.injEq, V.ref.injEq, V.bl.injEq, V.str.injEq, V.ty.injEq, exists_eq_left', exists_eq_left, exists_and_left, and_assoc, List.cons.injEq, and_true, true_and, decide_eq_true_eq, Bool.not_eq_true', decide_eq_false_iff_not, Bool.false_eq_true, if_false, if_true, reduceIte, Bool.not_true, Bool.not_false, beq_self_eq_true]
        refine tSeq_cut (fun σ H' => ∃ N : Int, 0 ≤ N ∧ N < 2147483647 ∧ H' = H7 ∧ σ = [some (V.ref a), some (V.int mo), some (V.ref bp), some (V.ref ke), some (V.ref op), some (V.ref fe), some (V.int (i : Nat)), some (V.int N), x8]) (fun nx hk => ?_) ?_
        · walk_at "RD"
          exact ⟨a, ns, _, rfl, B7.sq, hbt, by omega, fun c cb => ⟨c, _, rfl, cb, by omega, by omega, fun r r0 r1 => hk _ _ ⟨r, r0, r1, rfl, rfl⟩⟩⟩
        rintro σ H7' ⟨N, N0, N1, rfl, rfl⟩
        refine tSeq_cut (fun σ H' => ∃ x8, Both K ad.C_Book a bp bd ke op od fe ns H' ∧ σ = [some (V.ref a), some (V.int mo), some (V.ref bp), some (V.ref ke), some (V.ref op), some (V.ref fe), some (V.int (i : Nat)), some (V.int N), x8]) (fun nx hk => ?_) ?_
        · walk_at "RD"
          refine ⟨by decide, by decide, for_range (n := 2) (fun j σ H' => ∃ x8, Both K ad.C_Book a bp bd ke op od fe ns H' ∧ σ = [some (V.ref a), some (V.int mo), some (V.ref bp), some (V.ref ke), some (V.ref op), some (V.ref fe), some (V.int (i : Nat)), some (V.int N), x8]) ⟨x8, B7, rfl⟩ ?_ ?_⟩
          · rintro j σ H8 hj ⟨x8, B8, rfl⟩
            rw [Int.zero_add]
            walk_at "RD"
            obtain ⟨es1, t1⟩ := B8.one
            refine ⟨.inl ⟨by decide, by decide⟩, ⟨by omega, by omega⟩, bp, bd, ke, es1, _, mo, rfl, t1, Int.ediv_nonneg N0 (by omega), m0, m1, fun H' s => ⟨true, rfl, ?_⟩⟩
            rw [if_neg (by decide)]
            exact ⟨B8.same s, _, rfl⟩
          · rintro σ H8 ⟨x8, B8, rfl⟩
            exact hk _ _ ⟨x8, B8, rfl⟩
        rintro σ H8 ⟨x8, B8, rfl⟩
        refine tSeq_cut (fun σ H' => Both K ad.C_Book a bp bd ke op od fe ns H' ∧ σ = [some (V.ref a), some (V.int mo), some (V.ref bp), some (V.ref ke), some (V.ref op), some (V.ref fe), some (V.int (i : Nat)), some (V.int N), x8]) (fun nx hk => ?_) ?_
        · walk_at "RD"
          obtain ⟨es2, t2⟩ := B8.two
          refine ⟨⟨by decide, by decide⟩, op, od, fe, es2, _, mo, rfl, t2, Int.ediv_nonneg N0 (by decide), m0, m1, fun H' s => ⟨true, rfl, ?_⟩⟩
          rw [if_neg (by decide)]
          intro x dx nx' ndx nn
          refine ⟨x, dx, rfl, upd_same, fun d nd => ⟨rfl, fun ke' nk => ?_⟩⟩
          obtain ⟨S1, g1, g2⟩ := made (o3 := HO.dK []) (o4 := HO.ins ad.C_Book dx (wl d)) nx' ndx nn nd
          have bk' : BookAt ad.C_Book (upd (upd (upd (upd H' dx (HO.own x)) x (HO.ins ad.C_Book dx [])) d (HO.dK [])) x (HO.ins ad.C_Book dx (wl d))) x d [] := ⟨⟨dx, upd_same⟩, by rw [upd_ne g1, upd_same]; rfl⟩
          refine ⟨x, d, ke', [], N, mo, rfl, two_new bk' nk, N0, m0, m1, fun H2 s2 => ⟨true, rfl, ?_⟩⟩
          rw [if_neg (by decide)]
          exact hk _ _ ⟨B8.same (((s.trans S1).trans (same_new nk)).trans s2), rfl⟩
        rintro σ H9 ⟨B9, rfl⟩
        refine tSeq_cut (fun σ H' => Both K ad.C_Book a bp bd ke op od fe ns H' ∧ σ = [some (V.ref a), some (V.int mo), some (V.ref bp), some (V.ref ke), some (V.ref op), some (V.ref fe), some (V.int (i : Nat)), some (V.int N), x8]) (fun nx hk => ?_) ?_
        · walk_at "RD"
          refine ⟨⟨by decide, by decide⟩, by decide, ?_⟩
          split
          · obtain ⟨es1, t1⟩ := B9.one
            refine ⟨⟨by decide, by decide⟩, bp, bd, ke, es1, _, mo, rfl, t1, Int.ediv_nonneg N0 (by decide), by omega, m0, m1, fun H' es' bt tw => ⟨true, rfl, ?_⟩⟩
            rw [if_neg (by decide)]
            exact hk _ _ ⟨B9.but bt tw, rfl⟩
          · exact hk _ _ ⟨B9, rfl⟩
        rintro σ H10 ⟨B10, rfl⟩
        walk_at "RD"
        obtain ⟨es1, t1⟩ := B10.one
        refine ⟨bp, bd, ke, es1, N, mo, rfl, t1, N0, m0, m1, fun H' s => ⟨true, rfl, ?_⟩⟩
        rw [if_neg (by decide)]
        exact ⟨B10.same s, _, rfl⟩
      · rintro σ H7 _
        exact hk _ _ trivial
    rintro σ H7 _
    walk_at "RD"
    exact hq _
end

set_option maxHeartbeats 4000000 in
theorem all_mk {l : PySem.W.OpenLaw} {w : World} {K : PySem.W.Frag} {h : Heap} {mg : Str → Option Value} {fa : Addr} (X : K.In h) (G : h.Ns mainGlobals mg) (hfa : mg "law" = some (.ref fa))
    {C_Book : Addr}
    {C_NoCarrier : Addr}
    {C_FloorError : Addr}
    {C_Meets : Addr}
    {f_q9 : Addr} {od_q9 an_q9 : Option Addr} {sl_q9 : Array (Option Value)} {oc_q9 kV_q9 dc_q9 pm_q9 cd_q9 ct_q9 : Value}
    {f_q17 : Addr} {od_q17 an_q17 : Option Addr} {sl_q17 : Array (Option Value)} {oc_q17 kV_q17 dc_q17 pm_q17 cd_q17 ct_q17 : Value}
    {f_q13 : Addr} {od_q13 an_q13 : Option Addr} {sl_q13 : Array (Option Value)} {oc_q13 kV_q13 dc_q13 pm_q13 cd_q13 ct_q13 : Value}
    {f_q18 : Addr} {od_q18 an_q18 : Option Addr} {sl_q18 : Array (Option Value)} {oc_q18 kV_q18 dc_q18 pm_q18 cd_q18 ct_q18 : Value}
    {f_q19 : Addr} {od_q19 an_q19 : Option Addr} {sl_q19 : Array (Option Value)} {oc_q19 kV_q19 dc_q19 pm_q19 cd_q19 ct_q19 : Value}
    {f_q4 : Addr} {od_q4 an_q4 : Option Addr} {sl_q4 : Array (Option Value)} {oc_q4 kV_q4 dc_q4 pm_q4 cd_q4 ct_q4 : Value}
    {f_q3 : Addr} {od_q3 an_q3 : Option Addr} {sl_q3 : Array (Option Value)} {oc_q3 kV_q3 dc_q3 pm_q3 cd_q3 ct_q3 : Value}
    {f_q14 : Addr} {od_q14 an_q14 : Option Addr} {sl_q14 : Array (Option Value)} {oc_q14 kV_q14 dc_q14 pm_q14 cd_q14 ct_q14 : Value}
    {f_q20 : Addr} {od_q20 an_q20 : Option Addr} {sl_q20 : Array (Option Value)} {oc_q20 kV_q20 dc_q20 pm_q20 cd_q20 ct_q20 : Value}
    {f_q15 : Addr} {od_q15 an_q15 : Option Addr} {sl_q15 : Array (Option Value)} {oc_q15 kV_q15 dc_q15 pm_q15 cd_q15 ct_q15 : Value}
    {f_q5 : Addr} {od_q5 an_q5 : Option Addr} {sl_q5 : Array (Option Value)} {oc_q5 kV_q5 dc_q5 pm_q5 cd_q5 ct_q5 : Value}
    {f_q8 : Addr} {od_q8 an_q8 : Option Addr} {sl_q8 : Array (Option Value)} {oc_q8 kV_q8 dc_q8 pm_q8 cd_q8 ct_q8 : Value}
    {f_q21 : Addr} {od_q21 an_q21 : Option Addr} {sl_q21 : Array (Option Value)} {oc_q21 kV_q21 dc_q21 pm_q21 cd_q21 ct_q21 : Value}
    {f_q6 : Addr} {od_q6 an_q6 : Option Addr} {sl_q6 : Array (Option Value)} {oc_q6 kV_q6 dc_q6 pm_q6 cd_q6 ct_q6 : Value}
    {f_q7 : Addr} {od_q7 an_q7 : Option Addr} {sl_q7 : Array (Option Value)} {oc_q7 kV_q7 dc_q7 pm_q7 cd_q7 ct_q7 : Value}
    {f_q10 : Addr} {od_q10 an_q10 : Option Addr} {sl_q10 : Array (Option Value)} {oc_q10 kV_q10 dc_q10 pm_q10 cd_q10 ct_q10 : Value}
    {f_q2 : Addr} {od_q2 an_q2 : Option Addr} {sl_q2 : Array (Option Value)} {oc_q2 kV_q2 dc_q2 pm_q2 cd_q2 ct_q2 : Value}
    {f_q1 : Addr} {od_q1 an_q1 : Option Addr} {sl_q1 : Array (Option Value)} {oc_q1 kV_q1 dc_q1 pm_q1 cd_q1 ct_q1 : Value}
    {f_q0 : Addr} {od_q0 an_q0 : Option Addr} {sl_q0 : Array (Option Value)} {oc_q0 kV_q0 dc_q0 pm_q0 cd_q0 ct_q0 : Value}
    {f_q22 : Addr} {od_q22 an_q22 : Option Addr} {sl_q22 : Array (Option Value)} {oc_q22 kV_q22 dc_q22 pm_q22 cd_q22 ct_q22 : Value}
    {f_q16 : Addr} {od_q16 an_q16 : Option Addr} {sl_q16 : Array (Option Value)} {oc_q16 kV_q16 dc_q16 pm_q16 cd_q16 ct_q16 : Value}
    {f_q23 : Addr} {od_q23 an_q23 : Option Addr} {sl_q23 : Array (Option Value)} {oc_q23 kV_q23 dc_q23 pm_q23 cd_q23 ct_q23 : Value}
    {f_q28 : Addr} {od_q28 an_q28 : Option Addr} {sl_q28 : Array (Option Value)} {oc_q28 kV_q28 dc_q28 pm_q28 cd_q28 ct_q28 : Value}
    {f_q29 : Addr} {od_q29 an_q29 : Option Addr} {sl_q29 : Array (Option Value)} {oc_q29 kV_q29 dc_q29 pm_q29 cd_q29 ct_q29 : Value}
    {f_Lrows : Addr} {od_Lrows an_Lrows : Option Addr} {sl_Lrows : Array (Option Value)} {oc_Lrows kV_Lrows dc_Lrows pm_Lrows cd_Lrows ct_Lrows : Value}
    {f_q24 : Addr} {od_q24 an_q24 : Option Addr} {sl_q24 : Array (Option Value)} {oc_q24 kV_q24 dc_q24 pm_q24 cd_q24 ct_q24 : Value}
    {f_q11 : Addr} {od_q11 an_q11 : Option Addr} {sl_q11 : Array (Option Value)} {oc_q11 kV_q11 dc_q11 pm_q11 cd_q11 ct_q11 : Value}
    {f_q27 : Addr} {od_q27 an_q27 : Option Addr} {sl_q27 : Array (Option Value)} {oc_q27 kV_q27 dc_q27 pm_q27 cd_q27 ct_q27 : Value}
    {f_Lfits : Addr} {od_Lfits an_Lfits : Option Addr} {sl_Lfits : Array (Option Value)} {oc_Lfits kV_Lfits dc_Lfits pm_Lfits cd_Lfits ct_Lfits : Value}
    {f_Lend : Addr} {od_Lend an_Lend : Option Addr} {sl_Lend : Array (Option Value)} {oc_Lend kV_Lend dc_Lend pm_Lend cd_Lend ct_Lend : Value}
    {f_Lwho : Addr} {od_Lwho an_Lwho : Option Addr} {sl_Lwho : Array (Option Value)} {oc_Lwho kV_Lwho dc_Lwho pm_Lwho cd_Lwho ct_Lwho : Value}
    {f_q25 : Addr} {od_q25 an_q25 : Option Addr} {sl_q25 : Array (Option Value)} {oc_q25 kV_q25 dc_q25 pm_q25 cd_q25 ct_q25 : Value}
    {f_q30 : Addr} {od_q30 an_q30 : Option Addr} {sl_q30 : Array (Option Value)} {oc_q30 kV_q30 dc_q30 pm_q30 cd_q30 ct_q30 : Value}
    {f_q12 : Addr} {od_q12 an_q12 : Option Addr} {sl_q12 : Array (Option Value)} {oc_q12 kV_q12 dc_q12 pm_q12 cd_q12 ct_q12 : Value}
    {f_Ldue : Addr} {od_Ldue an_Ldue : Option Addr} {sl_Ldue : Array (Option Value)} {oc_Ldue kV_Ldue dc_Ldue pm_Ldue cd_Ldue ct_Ldue : Value}
    {f_Ltold : Addr} {od_Ltold an_Ltold : Option Addr} {sl_Ltold : Array (Option Value)} {oc_Ltold kV_Ltold dc_Ltold pm_Ltold cd_Ltold ct_Ltold : Value}
    {f_q31 : Addr} {od_q31 an_q31 : Option Addr} {sl_q31 : Array (Option Value)} {oc_q31 kV_q31 dc_q31 pm_q31 cd_q31 ct_q31 : Value}
    {f_q26 : Addr} {od_q26 an_q26 : Option Addr} {sl_q26 : Array (Option Value)} {oc_q26 kV_q26 dc_q26 pm_q26 cd_q26 ct_q26 : Value}
    {f_law : Addr} {od_law an_law : Option Addr} {sl_law : Array (Option Value)} {oc_law kV_law dc_law pm_law cd_law ct_law : Value}
    (aC_Book : PySem.W.nsIn K mainGlobals "Book" = some (some (.ref C_Book)))
    (pg_Book : PySem.W.plainGet K C_Book Str.empty = true) (hd_Book : PySem.W.hasDictIn K C_Book = true) (po_Book : PySem.W.plainOver K C_Book = true) (sa_Book : PySem.W.findIn K (.ref C_Book) "__setattr__" = some (some (.builtin "object.__setattr__"))) (kc_Book : PySem.W.keepIn K (.ref C_Book) = true)
    (mk_Book : PySem.W.makesIn K C_Book = true)
    (n_Book_ways : PySem.W.findIn K (.ref C_Book) "ways" = some none)
    (aC_NoCarrier : PySem.W.nsIn K mainGlobals "NoCarrier" = some (some (.ref C_NoCarrier))) (er_NoCarrier : PySem.W.excIn K C_NoCarrier [.type "ValueError", .type "Exception", .type "BaseException", .type "object"] "ValueError.__new__" = true)
    (aC_FloorError : PySem.W.nsIn K mainGlobals "FloorError" = some (some (.ref C_FloorError)))
    (aC_Meets : PySem.W.nsIn K mainGlobals "Meets" = some (some (.ref C_Meets)))
    (xm_Meets_Meets : PySem.W.exmOne K (.ref C_Meets) (.ref C_Meets) = some true)
    (xn_Meets : PySem.W.findIn K (.ref C_Meets) "__init__" = some (some (.ref f_q9)))
    (xi_Meets : exiIn K C_Meets f_q9 = true)
    (xf_Meets : PySem.W.isFn K (.ref f_q9) = true)
    (xt_sa : PySem.W.findIn K (.ref C_Meets) "__setattr__" = some (some (.builtin "object.__setattr__")))
    (xt_mro : (PySem.W.clsIn K C_Meets).any (fun cd => onlyValue cd.mro) = true)
    (xt_dict : (PySem.W.clsIn K C_Meets).any (·.hasDict) = true)
    (xt_no : PySem.W.findIn K (.ref C_Meets) "other" = some none)
    (xt_hd : PySem.W.hasDictIn K C_Meets = true)
    (i_q9 : PySem.W.isFn K (.ref f_q9) = true)
    (l_q9 : K.lookup f_q9 = some ⟨oc_q9, od_q9, .func (PySem.W.fnOf "__init__" "Meets.__init__" (defArgs s_q9) (defBody s_q9) (defScope s_q9) .none kV_q9 dc_q9 pm_q9 an_q9 cd_q9 ct_q9), sl_q9⟩) (c_q9 : PySem.W.codeIn K cd_q9 "Meets.__init__" = true) (k_q9 : PySem.W.keepIn K (.ref f_q9) = true)
    (a_q17 : PySem.W.nsIn K mainGlobals "is_whole" = some (some (.ref f_q17)))
    (l_q17 : K.lookup f_q17 = some ⟨oc_q17, od_q17, .func (PySem.W.fnOf "is_whole" "is_whole" (defArgs s_q17) (defBody s_q17) (defScope s_q17) .none kV_q17 dc_q17 pm_q17 an_q17 cd_q17 ct_q17), sl_q17⟩) (c_q17 : PySem.W.codeIn K cd_q17 "is_whole" = true) (k_q17 : PySem.W.keepIn K (.ref f_q17) = true)
    (a_q13 : PySem.W.nsIn K mainGlobals "last_time" = some (some (.ref f_q13)))
    (l_q13 : K.lookup f_q13 = some ⟨oc_q13, od_q13, .func (PySem.W.fnOf "last_time" "last_time" (defArgs s_q13) (defBody s_q13) (defScope s_q13) .none kV_q13 dc_q13 pm_q13 an_q13 cd_q13 ct_q13), sl_q13⟩) (c_q13 : PySem.W.codeIn K cd_q13 "last_time" = true) (k_q13 : PySem.W.keepIn K (.ref f_q13) = true)
    (a_q18 : PySem.W.nsIn K mainGlobals "index_at" = some (some (.ref f_q18)))
    (l_q18 : K.lookup f_q18 = some ⟨oc_q18, od_q18, .func (PySem.W.fnOf "index_at" "index_at" (defArgs s_q18) (defBody s_q18) (defScope s_q18) .none kV_q18 dc_q18 pm_q18 an_q18 cd_q18 ct_q18), sl_q18⟩) (c_q18 : PySem.W.codeIn K cd_q18 "index_at" = true) (k_q18 : PySem.W.keepIn K (.ref f_q18) = true)
    (a_q19 : PySem.W.nsIn K mainGlobals "place_at" = some (some (.ref f_q19)))
    (l_q19 : K.lookup f_q19 = some ⟨oc_q19, od_q19, .func (PySem.W.fnOf "place_at" "place_at" (defArgs s_q19) (defBody s_q19) (defScope s_q19) .none kV_q19 dc_q19 pm_q19 an_q19 cd_q19 ct_q19), sl_q19⟩) (c_q19 : PySem.W.codeIn K cd_q19 "place_at" = true) (k_q19 : PySem.W.keepIn K (.ref f_q19) = true)
    (a_q4 : PySem.W.nsIn K mainGlobals "meeting_word" = some (some (.ref f_q4)))
    (l_q4 : K.lookup f_q4 = some ⟨oc_q4, od_q4, .func (PySem.W.fnOf "meeting_word" "meeting_word" (defArgs s_q4) (defBody s_q4) (defScope s_q4) .none kV_q4 dc_q4 pm_q4 an_q4 cd_q4 ct_q4), sl_q4⟩) (c_q4 : PySem.W.codeIn K cd_q4 "meeting_word" = true) (k_q4 : PySem.W.keepIn K (.ref f_q4) = true)
    (a_q3 : PySem.W.nsIn K mainGlobals "first_meeting" = some (some (.ref f_q3)))
    (l_q3 : K.lookup f_q3 = some ⟨oc_q3, od_q3, .func (PySem.W.fnOf "first_meeting" "first_meeting" (defArgs s_q3) (defBody s_q3) (defScope s_q3) .none kV_q3 dc_q3 pm_q3 an_q3 cd_q3 ct_q3), sl_q3⟩) (c_q3 : PySem.W.codeIn K cd_q3 "first_meeting" = true) (k_q3 : PySem.W.keepIn K (.ref f_q3) = true)
    (a_q14 : PySem.W.findIn K (.ref C_Book) "__init__" = some (some (.ref f_q14))) (i_q14 : PySem.W.isFn K (.ref f_q14) = true)
    (l_q14 : K.lookup f_q14 = some ⟨oc_q14, od_q14, .func (PySem.W.fnOf "__init__" "Book.__init__" (defArgs s_q14) (defBody s_q14) (defScope s_q14) .none kV_q14 dc_q14 pm_q14 an_q14 cd_q14 ct_q14), sl_q14⟩) (c_q14 : PySem.W.codeIn K cd_q14 "Book.__init__" = true) (k_q14 : PySem.W.keepIn K (.ref f_q14) = true)
    (a_q20 : PySem.W.findIn K (.ref C_Book) "put" = some (some (.ref f_q20))) (i_q20 : PySem.W.isFn K (.ref f_q20) = true)
    (l_q20 : K.lookup f_q20 = some ⟨oc_q20, od_q20, .func (PySem.W.fnOf "put" "Book.put" (defArgs s_q20) (defBody s_q20) (defScope s_q20) .none kV_q20 dc_q20 pm_q20 an_q20 cd_q20 ct_q20), sl_q20⟩) (c_q20 : PySem.W.codeIn K cd_q20 "Book.put" = true) (k_q20 : PySem.W.keepIn K (.ref f_q20) = true)
    (a_q15 : PySem.W.findIn K (.ref C_Book) "drop" = some (some (.ref f_q15))) (i_q15 : PySem.W.isFn K (.ref f_q15) = true)
    (l_q15 : K.lookup f_q15 = some ⟨oc_q15, od_q15, .func (PySem.W.fnOf "drop" "Book.drop" (defArgs s_q15) (defBody s_q15) (defScope s_q15) .none kV_q15 dc_q15 pm_q15 an_q15 cd_q15 ct_q15), sl_q15⟩) (c_q15 : PySem.W.codeIn K cd_q15 "Book.drop" = true) (k_q15 : PySem.W.keepIn K (.ref f_q15) = true)
    (a_q5 : PySem.W.findIn K (.ref C_Book) "numbers" = some (some (.ref f_q5))) (i_q5 : PySem.W.isFn K (.ref f_q5) = true)
    (l_q5 : K.lookup f_q5 = some ⟨oc_q5, od_q5, .func (PySem.W.fnOf "numbers" "Book.numbers" (defArgs s_q5) (defBody s_q5) (defScope s_q5) .none kV_q5 dc_q5 pm_q5 an_q5 cd_q5 ct_q5), sl_q5⟩) (c_q5 : PySem.W.codeIn K cd_q5 "Book.numbers" = true) (k_q5 : PySem.W.keepIn K (.ref f_q5) = true)
    (a_q8 : PySem.W.findIn K (.ref C_Book) "copied" = some (some (.ref f_q8))) (i_q8 : PySem.W.isFn K (.ref f_q8) = true)
    (l_q8 : K.lookup f_q8 = some ⟨oc_q8, od_q8, .func (PySem.W.fnOf "copied" "Book.copied" (defArgs s_q8) (defBody s_q8) (defScope s_q8) .none kV_q8 dc_q8 pm_q8 an_q8 cd_q8 ct_q8), sl_q8⟩) (c_q8 : PySem.W.codeIn K cd_q8 "Book.copied" = true) (k_q8 : PySem.W.keepIn K (.ref f_q8) = true)
    (a_q21 : PySem.W.findIn K (.ref C_Book) "who" = some (some (.ref f_q21))) (i_q21 : PySem.W.isFn K (.ref f_q21) = true)
    (l_q21 : K.lookup f_q21 = some ⟨oc_q21, od_q21, .func (PySem.W.fnOf "who" "Book.who" (defArgs s_q21) (defBody s_q21) (defScope s_q21) .none kV_q21 dc_q21 pm_q21 an_q21 cd_q21 ct_q21), sl_q21⟩) (c_q21 : PySem.W.codeIn K cd_q21 "Book.who" = true) (k_q21 : PySem.W.keepIn K (.ref f_q21) = true)
    (a_q6 : PySem.W.findIn K (.ref C_Book) "is_open" = some (some (.ref f_q6))) (i_q6 : PySem.W.isFn K (.ref f_q6) = true)
    (l_q6 : K.lookup f_q6 = some ⟨oc_q6, od_q6, .func (PySem.W.fnOf "is_open" "Book.is_open" (defArgs s_q6) (defBody s_q6) (defScope s_q6) .none kV_q6 dc_q6 pm_q6 an_q6 cd_q6 ct_q6), sl_q6⟩) (c_q6 : PySem.W.codeIn K cd_q6 "Book.is_open" = true) (k_q6 : PySem.W.keepIn K (.ref f_q6) = true)
    (a_q7 : PySem.W.findIn K (.ref C_Book) "comings" = some (some (.ref f_q7))) (i_q7 : PySem.W.isFn K (.ref f_q7) = true)
    (l_q7 : K.lookup f_q7 = some ⟨oc_q7, od_q7, .func (PySem.W.fnOf "comings" "Book.comings" (defArgs s_q7) (defBody s_q7) (defScope s_q7) .none kV_q7 dc_q7 pm_q7 an_q7 cd_q7 ct_q7), sl_q7⟩) (c_q7 : PySem.W.codeIn K cd_q7 "Book.comings" = true) (k_q7 : PySem.W.keepIn K (.ref f_q7) = true)
    (a_q10 : PySem.W.findIn K (.ref C_Book) "quiet" = some (some (.ref f_q10))) (i_q10 : PySem.W.isFn K (.ref f_q10) = true)
    (l_q10 : K.lookup f_q10 = some ⟨oc_q10, od_q10, .func (PySem.W.fnOf "quiet" "Book.quiet" (defArgs s_q10) (defBody s_q10) (defScope s_q10) .none kV_q10 dc_q10 pm_q10 an_q10 cd_q10 ct_q10), sl_q10⟩) (c_q10 : PySem.W.codeIn K cd_q10 "Book.quiet" = true) (k_q10 : PySem.W.keepIn K (.ref f_q10) = true)
    (a_q2 : PySem.W.findIn K (.ref C_Book) "free_from" = some (some (.ref f_q2))) (i_q2 : PySem.W.isFn K (.ref f_q2) = true)
    (l_q2 : K.lookup f_q2 = some ⟨oc_q2, od_q2, .func (PySem.W.fnOf "free_from" "Book.free_from" (defArgs s_q2) (defBody s_q2) (defScope s_q2) .none kV_q2 dc_q2 pm_q2 an_q2 cd_q2 ct_q2), sl_q2⟩) (c_q2 : PySem.W.codeIn K cd_q2 "Book.free_from" = true) (k_q2 : PySem.W.keepIn K (.ref f_q2) = true)
    (a_q1 : PySem.W.findIn K (.ref C_Book) "ways_beside" = some (some (.ref f_q1))) (i_q1 : PySem.W.isFn K (.ref f_q1) = true)
    (l_q1 : K.lookup f_q1 = some ⟨oc_q1, od_q1, .func (PySem.W.fnOf "ways_beside" "Book.ways_beside" (defArgs s_q1) (defBody s_q1) (defScope s_q1) .none kV_q1 dc_q1 pm_q1 an_q1 cd_q1 ct_q1), sl_q1⟩) (c_q1 : PySem.W.codeIn K cd_q1 "Book.ways_beside" = true) (k_q1 : PySem.W.keepIn K (.ref f_q1) = true)
    (a_q0 : PySem.W.findIn K (.ref C_Book) "check_number" = some (some (.ref f_q0))) (i_q0 : PySem.W.isFn K (.ref f_q0) = true)
    (l_q0 : K.lookup f_q0 = some ⟨oc_q0, od_q0, .func (PySem.W.fnOf "check_number" "Book.check_number" (defArgs s_q0) (defBody s_q0) (defScope s_q0) .none kV_q0 dc_q0 pm_q0 an_q0 cd_q0 ct_q0), sl_q0⟩) (c_q0 : PySem.W.codeIn K cd_q0 "Book.check_number" = true) (k_q0 : PySem.W.keepIn K (.ref f_q0) = true)
    (a_q22 : PySem.W.nsIn K mainGlobals "is_clear" = some (some (.ref f_q22)))
    (l_q22 : K.lookup f_q22 = some ⟨oc_q22, od_q22, .func (PySem.W.fnOf "is_clear" "is_clear" (defArgs s_q22) (defBody s_q22) (defScope s_q22) .none kV_q22 dc_q22 pm_q22 an_q22 cd_q22 ct_q22), sl_q22⟩) (c_q22 : PySem.W.codeIn K cd_q22 "is_clear" = true) (k_q22 : PySem.W.keepIn K (.ref f_q22) = true)
    (a_q16 : PySem.W.nsIn K mainGlobals "left_from" = some (some (.ref f_q16)))
    (l_q16 : K.lookup f_q16 = some ⟨oc_q16, od_q16, .func (PySem.W.fnOf "left_from" "left_from" (defArgs s_q16) (defBody s_q16) (defScope s_q16) .none kV_q16 dc_q16 pm_q16 an_q16 cd_q16 ct_q16), sl_q16⟩) (c_q16 : PySem.W.codeIn K cd_q16 "left_from" = true) (k_q16 : PySem.W.keepIn K (.ref f_q16) = true)
    (a_q23 : PySem.W.nsIn K mainGlobals "_law_cell_at" = some (some (.ref f_q23)))
    (l_q23 : K.lookup f_q23 = some ⟨oc_q23, od_q23, .func (PySem.W.fnOf "_law_cell_at" "_law_cell_at" (defArgs s_q23) (defBody s_q23) (defScope s_q23) .none kV_q23 dc_q23 pm_q23 an_q23 cd_q23 ct_q23), sl_q23⟩) (c_q23 : PySem.W.codeIn K cd_q23 "_law_cell_at" = true) (k_q23 : PySem.W.keepIn K (.ref f_q23) = true)
    (a_q28 : PySem.W.nsIn K mainGlobals "_law_mixed" = some (some (.ref f_q28)))
    (l_q28 : K.lookup f_q28 = some ⟨oc_q28, od_q28, .func (PySem.W.fnOf "_law_mixed" "_law_mixed" (defArgs s_q28) (defBody s_q28) (defScope s_q28) .none kV_q28 dc_q28 pm_q28 an_q28 cd_q28 ct_q28), sl_q28⟩) (c_q28 : PySem.W.codeIn K cd_q28 "_law_mixed" = true) (k_q28 : PySem.W.keepIn K (.ref f_q28) = true)
    (a_q29 : PySem.W.nsIn K mainGlobals "_law_whole" = some (some (.ref f_q29)))
    (l_q29 : K.lookup f_q29 = some ⟨oc_q29, od_q29, .func (PySem.W.fnOf "_law_whole" "_law_whole" (defArgs s_q29) (defBody s_q29) (defScope s_q29) .none kV_q29 dc_q29 pm_q29 an_q29 cd_q29 ct_q29), sl_q29⟩) (c_q29 : PySem.W.codeIn K cd_q29 "_law_whole" = true) (k_q29 : PySem.W.keepIn K (.ref f_q29) = true)
    (a_Lrows : PySem.W.nsIn K mainGlobals "_law_rows" = some (some (.ref f_Lrows)))
    (l_Lrows : K.lookup f_Lrows = some ⟨oc_Lrows, od_Lrows, .func (PySem.W.fnOf "_law_rows" "_law_rows" (defArgs s_Lrows) (defBody s_Lrows) (defScope s_Lrows) .none kV_Lrows dc_Lrows pm_Lrows an_Lrows cd_Lrows ct_Lrows), sl_Lrows⟩) (c_Lrows : PySem.W.codeIn K cd_Lrows "_law_rows" = true) (k_Lrows : PySem.W.keepIn K (.ref f_Lrows) = true)
    (a_q24 : PySem.W.nsIn K mainGlobals "_law_meeting" = some (some (.ref f_q24)))
    (l_q24 : K.lookup f_q24 = some ⟨oc_q24, od_q24, .func (PySem.W.fnOf "_law_meeting" "_law_meeting" (defArgs s_q24) (defBody s_q24) (defScope s_q24) .none kV_q24 dc_q24 pm_q24 an_q24 cd_q24 ct_q24), sl_q24⟩) (c_q24 : PySem.W.codeIn K cd_q24 "_law_meeting" = true) (k_q24 : PySem.W.keepIn K (.ref f_q24) = true)
    (a_q11 : PySem.W.nsIn K mainGlobals "_law_drawn_way" = some (some (.ref f_q11)))
    (l_q11 : K.lookup f_q11 = some ⟨oc_q11, od_q11, .func (PySem.W.fnOf "_law_drawn_way" "_law_drawn_way" (defArgs s_q11) (defBody s_q11) (defScope s_q11) .none kV_q11 dc_q11 pm_q11 an_q11 cd_q11 ct_q11), sl_q11⟩) (c_q11 : PySem.W.codeIn K cd_q11 "_law_drawn_way" = true) (k_q11 : PySem.W.keepIn K (.ref f_q11) = true)
    (a_q27 : PySem.W.nsIn K mainGlobals "_law_filled" = some (some (.ref f_q27)))
    (l_q27 : K.lookup f_q27 = some ⟨oc_q27, od_q27, .func (PySem.W.fnOf "_law_filled" "_law_filled" (defArgs s_q27) (defBody s_q27) (defScope s_q27) .none kV_q27 dc_q27 pm_q27 an_q27 cd_q27 ct_q27), sl_q27⟩) (c_q27 : PySem.W.codeIn K cd_q27 "_law_filled" = true) (k_q27 : PySem.W.keepIn K (.ref f_q27) = true)
    (a_Lfits : PySem.W.nsIn K mainGlobals "_law_fits" = some (some (.ref f_Lfits)))
    (l_Lfits : K.lookup f_Lfits = some ⟨oc_Lfits, od_Lfits, .func (PySem.W.fnOf "_law_fits" "_law_fits" (defArgs s_Lfits) (defBody s_Lfits) (defScope s_Lfits) .none kV_Lfits dc_Lfits pm_Lfits an_Lfits cd_Lfits ct_Lfits), sl_Lfits⟩) (c_Lfits : PySem.W.codeIn K cd_Lfits "_law_fits" = true) (k_Lfits : PySem.W.keepIn K (.ref f_Lfits) = true)
    (a_Lend : PySem.W.nsIn K mainGlobals "_law_end" = some (some (.ref f_Lend)))
    (l_Lend : K.lookup f_Lend = some ⟨oc_Lend, od_Lend, .func (PySem.W.fnOf "_law_end" "_law_end" (defArgs s_Lend) (defBody s_Lend) (defScope s_Lend) .none kV_Lend dc_Lend pm_Lend an_Lend cd_Lend ct_Lend), sl_Lend⟩) (c_Lend : PySem.W.codeIn K cd_Lend "_law_end" = true) (k_Lend : PySem.W.keepIn K (.ref f_Lend) = true)
    (a_Lwho : PySem.W.nsIn K mainGlobals "_law_who" = some (some (.ref f_Lwho)))
    (l_Lwho : K.lookup f_Lwho = some ⟨oc_Lwho, od_Lwho, .func (PySem.W.fnOf "_law_who" "_law_who" (defArgs s_Lwho) (defBody s_Lwho) (defScope s_Lwho) .none kV_Lwho dc_Lwho pm_Lwho an_Lwho cd_Lwho ct_Lwho), sl_Lwho⟩) (c_Lwho : PySem.W.codeIn K cd_Lwho "_law_who" = true) (k_Lwho : PySem.W.keepIn K (.ref f_Lwho) = true)
    (a_q25 : PySem.W.nsIn K mainGlobals "_law_is_open" = some (some (.ref f_q25)))
    (l_q25 : K.lookup f_q25 = some ⟨oc_q25, od_q25, .func (PySem.W.fnOf "_law_is_open" "_law_is_open" (defArgs s_q25) (defBody s_q25) (defScope s_q25) .none kV_q25 dc_q25 pm_q25 an_q25 cd_q25 ct_q25), sl_q25⟩) (c_q25 : PySem.W.codeIn K cd_q25 "_law_is_open" = true) (k_q25 : PySem.W.keepIn K (.ref f_q25) = true)
    (a_q30 : PySem.W.nsIn K mainGlobals "_law_quiet" = some (some (.ref f_q30)))
    (l_q30 : K.lookup f_q30 = some ⟨oc_q30, od_q30, .func (PySem.W.fnOf "_law_quiet" "_law_quiet" (defArgs s_q30) (defBody s_q30) (defScope s_q30) .none kV_q30 dc_q30 pm_q30 an_q30 cd_q30 ct_q30), sl_q30⟩) (c_q30 : PySem.W.codeIn K cd_q30 "_law_quiet" = true) (k_q30 : PySem.W.keepIn K (.ref f_q30) = true)
    (a_q12 : PySem.W.nsIn K mainGlobals "_law_free_from" = some (some (.ref f_q12)))
    (l_q12 : K.lookup f_q12 = some ⟨oc_q12, od_q12, .func (PySem.W.fnOf "_law_free_from" "_law_free_from" (defArgs s_q12) (defBody s_q12) (defScope s_q12) .none kV_q12 dc_q12 pm_q12 an_q12 cd_q12 ct_q12), sl_q12⟩) (c_q12 : PySem.W.codeIn K cd_q12 "_law_free_from" = true) (k_q12 : PySem.W.keepIn K (.ref f_q12) = true)
    (a_Ldue : PySem.W.nsIn K mainGlobals "_law_due" = some (some (.ref f_Ldue)))
    (l_Ldue : K.lookup f_Ldue = some ⟨oc_Ldue, od_Ldue, .func (PySem.W.fnOf "_law_due" "_law_due" (defArgs s_Ldue) (defBody s_Ldue) (defScope s_Ldue) .none kV_Ldue dc_Ldue pm_Ldue an_Ldue cd_Ldue ct_Ldue), sl_Ldue⟩) (c_Ldue : PySem.W.codeIn K cd_Ldue "_law_due" = true) (k_Ldue : PySem.W.keepIn K (.ref f_Ldue) = true)
    (a_Ltold : PySem.W.nsIn K mainGlobals "_law_told" = some (some (.ref f_Ltold)))
    (l_Ltold : K.lookup f_Ltold = some ⟨oc_Ltold, od_Ltold, .func (PySem.W.fnOf "_law_told" "_law_told" (defArgs s_Ltold) (defBody s_Ltold) (defScope s_Ltold) .none kV_Ltold dc_Ltold pm_Ltold an_Ltold cd_Ltold ct_Ltold), sl_Ltold⟩) (c_Ltold : PySem.W.codeIn K cd_Ltold "_law_told" = true) (k_Ltold : PySem.W.keepIn K (.ref f_Ltold) = true)
    (a_q31 : PySem.W.nsIn K mainGlobals "_law_right" = some (some (.ref f_q31)))
    (l_q31 : K.lookup f_q31 = some ⟨oc_q31, od_q31, .func (PySem.W.fnOf "_law_right" "_law_right" (defArgs s_q31) (defBody s_q31) (defScope s_q31) .none kV_q31 dc_q31 pm_q31 an_q31 cd_q31 ct_q31), sl_q31⟩) (c_q31 : PySem.W.codeIn K cd_q31 "_law_right" = true) (k_q31 : PySem.W.keepIn K (.ref f_q31) = true)
    (a_q26 : PySem.W.nsIn K mainGlobals "_law_changed" = some (some (.ref f_q26)))
    (l_q26 : K.lookup f_q26 = some ⟨oc_q26, od_q26, .func (PySem.W.fnOf "_law_changed" "_law_changed" (defArgs s_q26) (defBody s_q26) (defScope s_q26) .none kV_q26 dc_q26 pm_q26 an_q26 cd_q26 ct_q26), sl_q26⟩) (c_q26 : PySem.W.codeIn K cd_q26 "_law_changed" = true) (k_q26 : PySem.W.keepIn K (.ref f_q26) = true)
    (a_law : PySem.W.nsIn K mainGlobals "law" = some (some (.ref f_law)))
    (l_law : K.lookup f_law = some ⟨oc_law, od_law, .func (PySem.W.fnOf "law" "law" (defArgs s_law) (defBody s_law) (defScope s_law) .none kV_law dc_law pm_law an_law cd_law ct_law), sl_law⟩) (c_law : PySem.W.codeIn K cd_law "law" = true) (k_law : PySem.W.keepIn K (.ref f_law) = true)
    (z_len : PySem.W.nsIn K mainGlobals "len" = some none)
    (z_range : PySem.W.nsIn K mainGlobals "range" = some none)
    (z_isinstance : PySem.W.nsIn K mainGlobals "isinstance" = some none)
    (z_int : PySem.W.nsIn K mainGlobals "int" = some none)
    (z_bool : PySem.W.nsIn K mainGlobals "bool" = some none)
    (z_list : PySem.W.nsIn K mainGlobals "list" = some none)
    (z_tuple : PySem.W.nsIn K mainGlobals "tuple" = some none)
    (z_dict : PySem.W.nsIn K mainGlobals "dict" = some none)
    (z_min : PySem.W.nsIn K mainGlobals "min" = some none)
    (z_max : PySem.W.nsIn K mainGlobals "max" = some none)
    (z_sorted : PySem.W.nsIn K mainGlobals "sorted" = some none)
    (z_enumerate : PySem.W.nsIn K mainGlobals "enumerate" = some none)
    (z_ValueError : PySem.W.nsIn K mainGlobals "ValueError" = some none)
    : ∃ fd : FuncData, (∀ (s : Shared) (v : Value), BindsTo s fd ⟨[v], []⟩ [("_law_script", v)]) ∧ ∀ base : Heap, K.In base → base.Ns mainGlobals mg → FnOk l.prog w K mg base CX0 8 fa fd ["_law_script"] (spLaw K) := by
  obtain rfl : f_law = fa := by
    have e := hfa.symm.trans (PySem.W.mg_of X G a_law)
    cases e
    rfl
  let A0 : Ad := ⟨f_q9, f_q17, f_q13, f_q18, f_q19, f_q4, f_q3, f_q14, f_q20, f_q15, f_q5, f_q8, f_q21, f_q6, f_q7, f_q10, f_q2, f_q1, f_q0, f_q22, f_q16, f_q23, f_q28, f_q29, f_Lrows, f_q24, f_q11, f_q27, f_Lfits, f_Lend, f_Lwho, f_q25, f_q30, f_q12, f_Ldue, f_Ltold, f_q31, f_q26, f_law, C_Book, C_NoCarrier, C_FloorError, C_Meets⟩
  have T : Txt K mg A0 := by
    constructor
    · exact PySem.W.mg_none_of X G z_len
    · exact PySem.W.mg_none_of X G z_range
    · exact PySem.W.mg_none_of X G z_isinstance
    · exact PySem.W.mg_none_of X G z_int
    · exact PySem.W.mg_none_of X G z_bool
    · exact PySem.W.mg_none_of X G z_list
    · exact PySem.W.mg_none_of X G z_tuple
    · exact PySem.W.mg_none_of X G z_dict
    · exact PySem.W.mg_none_of X G z_min
    · exact PySem.W.mg_none_of X G z_max
    · exact PySem.W.mg_none_of X G z_sorted
    · exact PySem.W.mg_none_of X G z_enumerate
    · exact PySem.W.mg_none_of X G z_ValueError
    · exact PySem.W.mg_of X G a_q17
    · exact k_q17
    · exact PySem.W.mg_of X G a_q13
    · exact k_q13
    · exact PySem.W.mg_of X G a_q18
    · exact k_q18
    · exact PySem.W.mg_of X G a_q19
    · exact k_q19
    · exact PySem.W.mg_of X G a_q4
    · exact k_q4
    · exact PySem.W.mg_of X G a_q3
    · exact k_q3
    · exact ⟨a_q20, i_q20, k_q20⟩
    · exact ⟨a_q15, i_q15, k_q15⟩
    · exact ⟨a_q5, i_q5, k_q5⟩
    · exact ⟨a_q8, i_q8, k_q8⟩
    · exact ⟨a_q21, i_q21, k_q21⟩
    · exact ⟨a_q6, i_q6, k_q6⟩
    · exact ⟨a_q7, i_q7, k_q7⟩
    · exact ⟨a_q10, i_q10, k_q10⟩
    · exact ⟨a_q2, i_q2, k_q2⟩
    · exact ⟨a_q1, i_q1, k_q1⟩
    · exact ⟨a_q0, i_q0, k_q0⟩
    · exact PySem.W.mg_of X G a_q22
    · exact k_q22
    · exact PySem.W.mg_of X G a_q16
    · exact k_q16
    · exact PySem.W.mg_of X G a_q23
    · exact k_q23
    · exact PySem.W.mg_of X G a_q28
    · exact k_q28
    · exact PySem.W.mg_of X G a_q29
    · exact k_q29
    · exact PySem.W.mg_of X G a_Lrows
    · exact k_Lrows
    · exact PySem.W.mg_of X G a_q24
    · exact k_q24
    · exact PySem.W.mg_of X G a_q11
    · exact k_q11
    · exact PySem.W.mg_of X G a_q27
    · exact k_q27
    · exact PySem.W.mg_of X G a_Lfits
    · exact k_Lfits
    · exact PySem.W.mg_of X G a_Lend
    · exact k_Lend
    · exact PySem.W.mg_of X G a_Lwho
    · exact k_Lwho
    · exact PySem.W.mg_of X G a_q25
    · exact k_q25
    · exact PySem.W.mg_of X G a_q30
    · exact k_q30
    · exact PySem.W.mg_of X G a_q12
    · exact k_q12
    · exact PySem.W.mg_of X G a_Ldue
    · exact k_Ldue
    · exact PySem.W.mg_of X G a_Ltold
    · exact k_Ltold
    · exact PySem.W.mg_of X G a_q31
    · exact k_q31
    · exact PySem.W.mg_of X G a_q26
    · exact k_q26
    · exact PySem.W.mg_of X G a_law
    · exact k_law
    · exact PySem.W.mg_of X G aC_Book
    · exact ⟨pg_Book, hd_Book, po_Book, sa_Book⟩
    · exact n_Book_ways
    · exact ⟨mk_Book, a_q14, i_q14, kc_Book⟩
    · exact PySem.W.mg_of X G aC_NoCarrier
    · exact ⟨er_NoCarrier⟩
    · exact PySem.W.mg_of X G aC_FloorError
    · exact PySem.W.mg_of X G aC_Meets
    · exact xm_Meets_Meets
    · exact xn_Meets
    · exact xi_Meets
    · exact xf_Meets
    · exact xt_sa
    · exact xt_mro
    · exact xt_dict
    · exact xt_no
    · exact xt_hd
  have F_q9 := fun_mk (st := s_q9) l_q9 c_q9 k_q9
  have B_q9 := F_q9.binds (ps := ["self", "other"]) fun _ _ _ _ _ _ us hl => match us, hl with | [_, _], _ => rfl
  have F_q17 := fun_mk (st := s_q17) l_q17 c_q17 k_q17
  have B_q17 := F_q17.binds (ps := ["thing"]) fun _ _ _ _ _ _ us hl => match us, hl with | [_], _ => rfl
  have F_q13 := fun_mk (st := s_q13) l_q13 c_q13 k_q13
  have B_q13 := F_q13.binds (ps := ["way"]) fun _ _ _ _ _ _ us hl => match us, hl with | [_], _ => rfl
  have F_q18 := fun_mk (st := s_q18) l_q18 c_q18 k_q18
  have B_q18 := F_q18.binds (ps := ["way", "time"]) fun _ _ _ _ _ _ us hl => match us, hl with | [_, _], _ => rfl
  have F_q19 := fun_mk (st := s_q19) l_q19 c_q19 k_q19
  have B_q19 := F_q19.binds (ps := ["way", "time"]) fun _ _ _ _ _ _ us hl => match us, hl with | [_, _], _ => rfl
  have F_q4 := fun_mk (st := s_q4) l_q4 c_q4 k_q4
  have B_q4 := F_q4.binds (ps := ["one", "other", "time"]) fun _ _ _ _ _ _ us hl => match us, hl with | [_, _, _], _ => rfl
  have F_q3 := fun_mk (st := s_q3) l_q3 c_q3 k_q3
  have B_q3 := F_q3.binds (ps := ["one", "other"]) fun _ _ _ _ _ _ us hl => match us, hl with | [_, _], _ => rfl
  have F_q14 := fun_mk (st := s_q14) l_q14 c_q14 k_q14
  have B_q14 := F_q14.binds (ps := ["self"]) fun _ _ _ _ _ _ us hl => match us, hl with | [_], _ => rfl
  have F_q20 := fun_mk (st := s_q20) l_q20 c_q20 k_q20
  have B_q20 := F_q20.binds (ps := ["self", "number", "way"]) fun _ _ _ _ _ _ us hl => match us, hl with | [_, _, _], _ => rfl
  have F_q15 := fun_mk (st := s_q15) l_q15 c_q15 k_q15
  have B_q15 := F_q15.binds (ps := ["self", "number"]) fun _ _ _ _ _ _ us hl => match us, hl with | [_, _], _ => rfl
  have F_q5 := fun_mk (st := s_q5) l_q5 c_q5 k_q5
  have B_q5 := F_q5.binds (ps := ["self"]) fun _ _ _ _ _ _ us hl => match us, hl with | [_], _ => rfl
  have F_q8 := fun_mk (st := s_q8) l_q8 c_q8 k_q8
  have B_q8 := F_q8.binds (ps := ["self"]) fun _ _ _ _ _ _ us hl => match us, hl with | [_], _ => rfl
  have F_q21 := fun_mk (st := s_q21) l_q21 c_q21 k_q21
  have B_q21 := F_q21.binds (ps := ["self", "cell", "time"]) fun _ _ _ _ _ _ us hl => match us, hl with | [_, _, _], _ => rfl
  have F_q6 := fun_mk (st := s_q6) l_q6 c_q6 k_q6
  have B_q6 := F_q6.binds (ps := ["self", "number", "cell", "other", "time"]) fun _ _ _ _ _ _ us hl => match us, hl with | [_, _, _, _, _], _ => rfl
  have F_q7 := fun_mk (st := s_q7) l_q7 c_q7 k_q7
  have B_q7 := F_q7.binds (ps := ["self", "number", "time"]) fun _ _ _ _ _ _ us hl => match us, hl with | [_, _, _], _ => rfl
  have F_q10 := fun_mk (st := s_q10) l_q10 c_q10 k_q10
  have B_q10 := F_q10.binds (ps := ["self", "number"]) fun _ _ _ _ _ _ us hl => match us, hl with | [_, _], _ => rfl
  have F_q2 := fun_mk (st := s_q2) l_q2 c_q2 k_q2
  have B_q2 := F_q2.binds (ps := ["self", "number", "cell"]) fun _ _ _ _ _ _ us hl => match us, hl with | [_, _, _], _ => rfl
  have F_q1 := fun_mk (st := s_q1) l_q1 c_q1 k_q1
  have B_q1 := F_q1.binds (ps := ["self", "number"]) fun _ _ _ _ _ _ us hl => match us, hl with | [_, _], _ => rfl
  have F_q0 := fun_mk (st := s_q0) l_q0 c_q0 k_q0
  have B_q0 := F_q0.binds (ps := ["self", "number"]) fun _ _ _ _ _ _ us hl => match us, hl with | [_, _], _ => rfl
  have F_q22 := fun_mk (st := s_q22) l_q22 c_q22 k_q22
  have B_q22 := F_q22.binds (ps := ["comings", "cell", "other"]) fun _ _ _ _ _ _ us hl => match us, hl with | [_, _, _], _ => rfl
  have F_q16 := fun_mk (st := s_q16) l_q16 c_q16 k_q16
  have B_q16 := F_q16.binds (ps := ["way", "cell"]) fun _ _ _ _ _ _ us hl => match us, hl with | [_, _], _ => rfl
  have F_q23 := fun_mk (st := s_q23) l_q23 c_q23 k_q23
  have B_q23 := F_q23.binds (ps := ["_law_script", "_law_k"]) fun _ _ _ _ _ _ us hl => match us, hl with | [_, _], _ => rfl
  have F_q28 := fun_mk (st := s_q28) l_q28 c_q28 k_q28
  have B_q28 := F_q28.binds (ps := ["_law_cell", "_law_k"]) fun _ _ _ _ _ _ us hl => match us, hl with | [_, _], _ => rfl
  have F_q29 := fun_mk (st := s_q29) l_q29 c_q29 k_q29
  have B_q29 := F_q29.binds (ps := ["_law_found"]) fun _ _ _ _ _ _ us hl => match us, hl with | [_], _ => rfl
  have F_Lrows := fun_mk (st := s_Lrows) l_Lrows c_Lrows k_Lrows
  have B_Lrows := F_Lrows.binds (ps := ["_law_way", "_law_end_here"]) fun _ _ _ _ _ _ us hl => match us, hl with | [_, _], _ => rfl
  have F_q24 := fun_mk (st := s_q24) l_q24 c_q24 k_q24
  have B_q24 := F_q24.binds (ps := ["_law_one", "_law_other"]) fun _ _ _ _ _ _ us hl => match us, hl with | [_, _], _ => rfl
  have F_q11 := fun_mk (st := s_q11) l_q11 c_q11 k_q11
  have B_q11 := F_q11.binds (ps := ["_law_cell", "_law_most"]) fun _ _ _ _ _ _ us hl => match us, hl with | [_, _], _ => rfl
  have F_q27 := fun_mk (st := s_q27) l_q27 c_q27 k_q27
  have B_q27 := F_q27.binds (ps := ["_law_script", "_law_book", "_law_kept", "_law_most"]) fun _ _ _ _ _ _ us hl => match us, hl with | [_, _, _, _], _ => rfl
  have F_Lfits := fun_mk (st := s_Lfits) l_Lfits c_Lfits k_Lfits
  have B_Lfits := F_Lfits.binds (ps := ["_law_kept", "_law_number", "_law_way"]) fun _ _ _ _ _ _ us hl => match us, hl with | [_, _, _], _ => rfl
  have F_Lend := fun_mk (st := s_Lend) l_Lend c_Lend k_Lend
  have B_Lend := F_Lend.binds (ps := ["_law_kept"]) fun _ _ _ _ _ _ us hl => match us, hl with | [_], _ => rfl
  have F_Lwho := fun_mk (st := s_Lwho) l_Lwho c_Lwho k_Lwho
  have B_Lwho := F_Lwho.binds (ps := ["_law_kept", "_law_place", "_law_time"]) fun _ _ _ _ _ _ us hl => match us, hl with | [_, _, _], _ => rfl
  have F_q25 := fun_mk (st := s_q25) l_q25 c_q25 k_q25
  have B_q25 := F_q25.binds (ps := ["_law_kept", "_law_number", "_law_place", "_law_other", "_law_time"]) fun _ _ _ _ _ _ us hl => match us, hl with | [_, _, _, _, _], _ => rfl
  have F_q30 := fun_mk (st := s_q30) l_q30 c_q30 k_q30
  have B_q30 := F_q30.binds (ps := ["_law_kept", "_law_number"]) fun _ _ _ _ _ _ us hl => match us, hl with | [_, _], _ => rfl
  have F_q12 := fun_mk (st := s_q12) l_q12 c_q12 k_q12
  have B_q12 := F_q12.binds (ps := ["_law_kept", "_law_number", "_law_place"]) fun _ _ _ _ _ _ us hl => match us, hl with | [_, _, _], _ => rfl
  have F_Ldue := fun_mk (st := s_Ldue) l_Ldue c_Ldue k_Ldue
  have B_Ldue := F_Ldue.binds (ps := ["_law_kept", "_law_which", "_law_number", "_law_place", "_law_other", "_law_time"]) fun _ _ _ _ _ _ us hl => match us, hl with | [_, _, _, _, _, _], _ => rfl
  have F_Ltold := fun_mk (st := s_Ltold) l_Ltold c_Ltold k_Ltold
  have B_Ltold := F_Ltold.binds (ps := ["_law_book", "_law_which", "_law_number", "_law_place", "_law_other", "_law_time"]) fun _ _ _ _ _ _ us hl => match us, hl with | [_, _, _, _, _, _], _ => rfl
  have F_q31 := fun_mk (st := s_q31) l_q31 c_q31 k_q31
  have B_q31 := F_q31.binds (ps := ["_law_book", "_law_kept", "_law_number", "_law_most"]) fun _ _ _ _ _ _ us hl => match us, hl with | [_, _, _, _], _ => rfl
  have F_q26 := fun_mk (st := s_q26) l_q26 c_q26 k_q26
  have B_q26 := F_q26.binds (ps := ["_law_book", "_law_kept", "_law_number", "_law_most"]) fun _ _ _ _ _ _ us hl => match us, hl with | [_, _, _, _], _ => rfl
  have F_law := fun_mk (st := s_law) l_law c_law k_law
  refine ⟨PySem.W.fnOf "law" "law" (defArgs s_law) (defBody s_law) (defScope s_law) .none kV_law dc_law pm_law an_law cd_law ct_law, ?bd, fun base _ _ => ?fn⟩
  case fn =>
    have G_q17 : FnOk l.prog w K mg base CX0 1 f_q17 _ ["thing"] (spWhole K) := ok_q17 (ad := A0) F_q17 T
    have G_q13 : FnOk l.prog w K mg base CX0 1 f_q13 _ ["way"] (spLast) := ok_q13 (ad := A0) F_q13 T
    have G_q18 : FnOk l.prog w K mg base CX0 1 f_q18 _ ["way", "time"] (spIdx) := ok_q18 (ad := A0) F_q18 T
    have G_q19 : FnOk l.prog w K mg base CX0 2 f_q19 _ ["way", "time"] (spPlace) := ok_q19 (ad := A0) F_q19 T B_q18 G_q18
    have G_q4 : FnOk l.prog w K mg base CX0 3 f_q4 _ ["one", "other", "time"] (spWord) := ok_q4 (ad := A0) F_q4 T B_q19 G_q19
    have G_q3 : FnOk l.prog w K mg base CX0 4 f_q3 _ ["one", "other"] (spFirst) := ok_q3 (ad := A0) F_q3 T B_q13 G_q13 B_q4 G_q4
    have G_q9 : FnOk l.prog w K mg base (CXE l.prog w) 1 f_q9 _ ["self", "other"] (spMInit A0) := ok_q9 (ad := A0) F_q9 T
    have G_q14 : FnOk l.prog w K mg base CX0 1 f_q14 _ ["self"] (spBInit A0) := ok_q14 (ad := A0) F_q14 T
    have G_q0 : FnOk l.prog w K mg base (CXE l.prog w) 2 f_q0 _ ["self", "number"] (spCheck A0) := ok_q0 (ad := A0) F_q0 T B_q17 G_q17
    have G_q5 : FnOk l.prog w K mg base CX0 1 f_q5 _ ["self"] (spNumbers A0) := ok_q5 (ad := A0) F_q5 T
    have G_q20 : FnOk l.prog w K mg base (CXE l.prog w) 5 f_q20 _ ["self", "number", "way"] (spPut A0) := ok_q20 (ad := A0) F_q20 T B_q5 G_q5 B_q3 G_q3 B_q9 G_q9
    have G_q15 : FnOk l.prog w K mg base (CXE l.prog w) 3 f_q15 _ ["self", "number"] (spDrop A0) := ok_q15 (ad := A0) F_q15 T B_q0 G_q0
    have G_q8 : FnOk l.prog w K mg base CX0 3 f_q8 _ ["self"] (spCopied A0) := ok_q8 (ad := A0) F_q8 T B_q14 G_q14
    have G_q21 : FnOk l.prog w K mg base CX0 3 f_q21 _ ["self", "cell", "time"] (spWho A0) := ok_q21 (ad := A0) F_q21 T B_q19 G_q19
    have G_q1 : FnOk l.prog w K mg base CX0 1 f_q1 _ ["self", "number"] (spBeside A0) := ok_q1 (ad := A0) F_q1 T
    have G_q7 : FnOk l.prog w K mg base CX0 3 f_q7 _ ["self", "number", "time"] (spComings A0) := ok_q7 (ad := A0) F_q7 T B_q1 G_q1 B_q19 G_q19
    have G_q22 : FnOk l.prog w K mg base CX0 1 f_q22 _ ["comings", "cell", "other"] (spClear) := ok_q22 (ad := A0) F_q22 T
    have G_q6 : FnOk l.prog w K mg base CX0 4 f_q6 _ ["self", "number", "cell", "other", "time"] (spIsOpen A0) := ok_q6 (ad := A0) F_q6 T B_q7 G_q7 B_q22 G_q22
    have G_q10 : FnOk l.prog w K mg base CX0 2 f_q10 _ ["self", "number"] (spQuiet A0) := ok_q10 (ad := A0) F_q10 T B_q1 G_q1 B_q13 G_q13
    have G_q16 : FnOk l.prog w K mg base CX0 1 f_q16 _ ["way", "cell"] (spLeft) := ok_q16 (ad := A0) F_q16 T
    have G_q2 : FnOk l.prog w K mg base CX0 2 f_q2 _ ["self", "number", "cell"] (spFree A0) := ok_q2 (ad := A0) F_q2 T B_q1 G_q1 B_q16 G_q16
    have G_q23 : FnOk l.prog w K mg base CX0 1 f_q23 _ ["_law_script", "_law_k"] (spCell K) := ok_q23 (ad := A0) F_q23 T
    have G_q28 : FnOk l.prog w K mg base CX0 1 f_q28 _ ["_law_cell", "_law_k"] (spMixed) := ok_q28 (ad := A0) F_q28 T
    have G_q29 : FnOk l.prog w K mg base CX0 1 f_q29 _ ["_law_found"] (spWhole K) := ok_q29 (ad := A0) F_q29 T
    have G_Lrows : FnOk l.prog w K mg base CX0 1 f_Lrows _ ["_law_way", "_law_end_here"] (spRowsN) := ok_Lrows (ad := A0) F_Lrows T
    have GM_Lrows : ∀ {ea C : Addr} {dx : Option Addr} {ob : Obj}, MkO C dx ob → FnOkM l.prog w K mg base ea ob 1 f_Lrows _ ["_law_way", "_law_end_here"] (spRowsN) := fun mk => okM_Lrows (ad := A0) F_Lrows T mk
    have G_q24 : FnOk l.prog w K mg base CX0 2 f_q24 _ ["_law_one", "_law_other"] (spMeeting) := ok_q24 (ad := A0) F_q24 T B_Lrows G_Lrows
    have GM_q24 : ∀ {ea C : Addr} {dx : Option Addr} {ob : Obj}, MkO C dx ob → FnOkM l.prog w K mg base ea ob 2 f_q24 _ ["_law_one", "_law_other"] (spMeeting) := fun mk => okM_q24 (ad := A0) F_q24 T B_Lrows GM_Lrows mk
    have G_q11 : FnOk l.prog w K mg base CX0 2 f_q11 _ ["_law_cell", "_law_most"] (spDrawn) := ok_q11 (ad := A0) F_q11 T B_q28 G_q28
    have G_Lfits : FnOk l.prog w K mg base CX0 3 f_Lfits _ ["_law_kept", "_law_number", "_law_way"] (spFits) := ok_Lfits (ad := A0) F_Lfits T B_q24 G_q24
    have GM_Lfits : ∀ {ea C : Addr} {dx : Option Addr} {ob : Obj}, MkO C dx ob → FnOkM l.prog w K mg base ea ob 3 f_Lfits _ ["_law_kept", "_law_number", "_law_way"] (spFits) := fun mk => okM_Lfits (ad := A0) F_Lfits T B_q24 GM_q24 mk
    have G_q27 : FnOk l.prog w K mg base CX0 6 f_q27 _ ["_law_script", "_law_book", "_law_kept", "_law_most"] (spFilled A0 K) := ok_q27 (ad := A0) F_q27 T B_q23 G_q23 B_q28 G_q28 B_q11 G_q11 B_Lfits G_Lfits B_q20 G_q20
    have G_Lend : FnOk l.prog w K mg base CX0 1 f_Lend _ ["_law_kept"] (spEnd) := ok_Lend (ad := A0) F_Lend T
    have G_Lwho : FnOk l.prog w K mg base CX0 2 f_Lwho _ ["_law_kept", "_law_place", "_law_time"] (spLWho) := ok_Lwho (ad := A0) F_Lwho T B_Lrows G_Lrows
    have G_q25 : FnOk l.prog w K mg base CX0 2 f_q25 _ ["_law_kept", "_law_number", "_law_place", "_law_other", "_law_time"] (spLOpen) := ok_q25 (ad := A0) F_q25 T B_Lrows G_Lrows
    have G_q30 : FnOk l.prog w K mg base CX0 1 f_q30 _ ["_law_kept", "_law_number"] (spLQuiet) := ok_q30 (ad := A0) F_q30 T
    have G_q12 : FnOk l.prog w K mg base CX0 2 f_q12 _ ["_law_kept", "_law_number", "_law_place"] (spLFree) := ok_q12 (ad := A0) F_q12 T B_Lend G_Lend B_Lrows G_Lrows
    have G_Ldue : FnOk l.prog w K mg base CX0 3 f_Ldue _ ["_law_kept", "_law_which", "_law_number", "_law_place", "_law_other", "_law_time"] (spDue) := ok_Ldue (ad := A0) F_Ldue T B_Lwho G_Lwho B_q25 G_q25 B_q30 G_q30 B_q12 G_q12
    have G_Ltold : FnOk l.prog w K mg base CX0 5 f_Ltold _ ["_law_book", "_law_which", "_law_number", "_law_place", "_law_other", "_law_time"] (spTold A0) := ok_Ltold (ad := A0) F_Ltold T B_q21 G_q21 B_q6 G_q6 B_q10 G_q10 B_q2 G_q2
    have G_q31 : FnOk l.prog w K mg base CX0 6 f_q31 _ ["_law_book", "_law_kept", "_law_number", "_law_most"] (spRight A0) := ok_q31 (ad := A0) F_q31 T B_Lend G_Lend B_Ltold G_Ltold B_Ldue G_Ldue B_q29 G_q29
    have G_q26 : FnOk l.prog w K mg base CX0 6 f_q26 _ ["_law_book", "_law_kept", "_law_number", "_law_most"] (spChanged A0) := ok_q26 (ad := A0) F_q26 T B_q15 G_q15 B_q11 G_q11 B_q28 G_q28 B_q20 G_q20 B_Lfits G_Lfits GM_Lfits
    exact ok_law F_law T B_q23 G_q23 B_q14 G_q14 B_q27 G_q27 B_q8 G_q8 B_q28 G_q28 B_q31 G_q31 B_q26 G_q26
  case bd => exact fun s v => .of_eq rfl
theorem walk {l : PySem.W.OpenLaw} {q : Program} {loose : List Str} {XP : (Str → Option Value) → Heap → Prop} {YP : World → Heap → Prop} {d : DefRec} {K : Params → PySem.W.Frag} (hn : l.most = some 63) (hdf : d.params.defaults = [])
    (hY : ∀ (w : World) (h : Heap), YP w h → (K w.params).In h)
    (F : ∀ (w : World) (mg : Str → Option Value) (fa : Addr) (h : Heap), (K w.params).In h → h.Ns mainGlobals mg → mg d.name = some (.ref fa) →
      ∃ fd : FuncData, (∀ (s : Shared) (u : Value), BindsTo s fd ⟨[u], []⟩ [("_law_script", u)]) ∧ ∀ base : Heap, (K w.params).In base → base.Ns mainGlobals mg → FnOk l.prog w (K w.params) mg base CX0 8 fa fd ["_law_script"] (spLaw (K w.params))) :
    PySem.W.WalkO q loose XP YP l.row.toRowW d [] (fun f vs => PySem.call f vs) :=
  L2.walk_ofB (n := 63) (k := 8) (x := "_law_script") (CX := fun _ => CX0) (sp := fun w => spLaw (K w.params)) hn (by decide) hdf ⟨rfl, by decide, by decide⟩ hY F (fun _ _ a ns hl hb _ hS => ⟨a, ns, rfl, hS, hl, hb, fun _ => rfl⟩) fun _ _ _ _ _ z => z
end Pf
open PySem PySem.W PyProof.Rows
set_option maxRecDepth 100000 in
set_option maxHeartbeats 0 in
theorem PySem.Challenge.cw_floorways_k14_who_and_open_holds : PySem.Challenge.rw_floorways_k14_who_and_open.Holds := by
  w_on; o_law; k_head; (case hw => w_witness2)
  k_fill
  refine Pf.walk (l := PySem.Challenge.rw_floorways_k14_who_and_open) rfl rfl (fun w h Y => PySem.W.kIn_of Y) ?F
  case F =>
    intro w mg fa h KX G hmg
    refine' Pf.all_mk KX G hmg ?aC_Book ?pg_Book ?hd_Book ?po_Book ?sa_Book ?kc_Book ?mk_Book ?n_Book_ways ?aC_NoCarrier ?er_NoCarrier ?aC_FloorError ?aC_Meets ?xm_Meets_Meets ?xn_Meets ?xi_Meets ?xf_Meets ?xt_sa ?xt_mro ?xt_dict ?xt_no ?xt_hd ?i_q9 ?l_q9 ?c_q9 ?k_q9 ?a_q17 ?l_q17 ?c_q17 ?k_q17 ?a_q13 ?l_q13 ?c_q13 ?k_q13 ?a_q18 ?l_q18 ?c_q18 ?k_q18 ?a_q19 ?l_q19 ?c_q19 ?k_q19 ?a_q4 ?l_q4 ?c_q4 ?k_q4 ?a_q3 ?l_q3 ?c_q3 ?k_q3 ?a_q14 ?i_q14 ?l_q14 ?c_q14 ?k_q14 ?a_q20 ?i_q20 ?l_q20 ?c_q20 ?k_q20 ?a_q15 ?i_q15 ?l_q15 ?c_q15 ?k_q15 ?a_q5 ?i_q5 ?l_q5 ?c_q5 ?k_q5 ?a_q8 ?i_q8 ?l_q8 ?c_q8 ?k_q8 ?a_q21 ?i_q21 ?l_q21 ?c_q21 ?k_q21 ?a_q6 ?i_q6 ?l_q6 ?c_q6 ?k_q6 ?a_q7 ?i_q7 ?l_q7 ?c_q7 ?k_q7 ?a_q10 ?i_q10 ?l_q10 ?c_q10 ?k_q10 ?a_q2 ?i_q2 ?l_q2 ?c_q2 ?k_q2 ?a_q1 ?i_q1 ?l_q1 ?c_q1 ?k_q1 ?a_q0 ?i_q0 ?l_q0 ?c_q0 ?k_q0 ?a_q22 ?l_q22 ?c_q22 ?k_q22 ?a_q16 ?l_q16 ?c_q16 ?k_q16 ?a_q23 ?l_q23 ?c_q23 ?k_q23 ?a_q28 ?l_q28 ?c_q28 ?k_q28 ?a_q29 ?l_q29 ?c_q29 ?k_q29 ?a_Lrows ?l_Lrows ?c_Lrows ?k_Lrows ?a_q24 ?l_q24 ?c_q24 ?k_q24 ?a_q11 ?l_q11 ?c_q11 ?k_q11 ?a_q27 ?l_q27 ?c_q27 ?k_q27 ?a_Lfits ?l_Lfits ?c_Lfits ?k_Lfits ?a_Lend ?l_Lend ?c_Lend ?k_Lend ?a_Lwho ?l_Lwho ?c_Lwho ?k_Lwho ?a_q25 ?l_q25 ?c_q25 ?k_q25 ?a_q30 ?l_q30 ?c_q30 ?k_q30 ?a_q12 ?l_q12 ?c_q12 ?k_q12 ?a_Ldue ?l_Ldue ?c_Ldue ?k_Ldue ?a_Ltold ?l_Ltold ?c_Ltold ?k_Ltold ?a_q31 ?l_q31 ?c_q31 ?k_q31 ?a_q26 ?l_q26 ?c_q26 ?k_q26 ?a_law ?l_law ?c_law ?k_law ?z_len ?z_range ?z_isinstance ?z_int ?z_bool ?z_list ?z_tuple ?z_dict ?z_min ?z_max ?z_sorted ?z_enumerate ?z_ValueError
    (case aC_Book => k_is)
    (case pg_Book => k_is)
    (case hd_Book => k_is)
    (case po_Book => k_is)
    (case sa_Book => k_is)
    (case kc_Book => k_is)
    (case mk_Book => k_is)
    (case n_Book_ways => k_is)
    (case aC_NoCarrier => k_is)
    (case er_NoCarrier => first | k_is | kit_is | kernel_rfl)
    (case aC_FloorError => k_is)
    (case aC_Meets => k_is)
    (case xm_Meets_Meets => first | k_is | kit_is | kernel_rfl)
    (case xn_Meets => k_is)
    (case xi_Meets => first | k_is | kit_is | kernel_rfl)
    (case xf_Meets => first | k_is | kit_is | kernel_rfl)
    (case xt_sa => first | k_is | kit_is | kernel_rfl)
    (case xt_mro => first | k_is | kit_is | kernel_rfl)
    (case xt_dict => first | k_is | kit_is | kernel_rfl)
    (case xt_no => first | k_is | kit_is | kernel_rfl)
    (case xt_hd => first | k_is | kit_is | kernel_rfl)
    (case i_q9 => k_is)
    (case l_q9 => k_is)
    (case c_q9 => k_is)
    (case k_q9 => k_is)
    (case a_q17 => k_is)
    (case l_q17 => k_is)
    (case c_q17 => k_is)
    (case k_q17 => k_is)
    (case a_q13 => k_is)
    (case l_q13 => k_is)
    (case c_q13 => k_is)
    (case k_q13 => k_is)
    (case a_q18 => k_is)
    (case l_q18 => k_is)
    (case c_q18 => k_is)
    (case k_q18 => k_is)
    (case a_q19 => k_is)
    (case l_q19 => k_is)
    (case c_q19 => k_is)
    (case k_q19 => k_is)
    (case a_q4 => k_is)
    (case l_q4 => k_is)
    (case c_q4 => k_is)
    (case k_q4 => k_is)
    (case a_q3 => k_is)
    (case l_q3 => k_is)
    (case c_q3 => k_is)
    (case k_q3 => k_is)
    (case a_q14 => k_is)
    (case i_q14 => k_is)
    (case l_q14 => k_is)
    (case c_q14 => k_is)
    (case k_q14 => k_is)
    (case a_q20 => k_is)
    (case i_q20 => k_is)
    (case l_q20 => k_is)
    (case c_q20 => k_is)
    (case k_q20 => k_is)
    (case a_q15 => k_is)
    (case i_q15 => k_is)
    (case l_q15 => k_is)
    (case c_q15 => k_is)
    (case k_q15 => k_is)
    (case a_q5 => k_is)
    (case i_q5 => k_is)
    (case l_q5 => k_is)
    (case c_q5 => k_is)
    (case k_q5 => k_is)
    (case a_q8 => k_is)
    (case i_q8 => k_is)
    (case l_q8 => k_is)
    (case c_q8 => k_is)
    (case k_q8 => k_is)
    (case a_q21 => k_is)
    (case i_q21 => k_is)
    (case l_q21 => k_is)
    (case c_q21 => k_is)
    (case k_q21 => k_is)
    (case a_q6 => k_is)
    (case i_q6 => k_is)
    (case l_q6 => k_is)
    (case c_q6 => k_is)
    (case k_q6 => k_is)
    (case a_q7 => k_is)
    (case i_q7 => k_is)
    (case l_q7 => k_is)
    (case c_q7 => k_is)
    (case k_q7 => k_is)
    (case a_q10 => k_is)
    (case i_q10 => k_is)
    (case l_q10 => k_is)
    (case c_q10 => k_is)
    (case k_q10 => k_is)
    (case a_q2 => k_is)
    (case i_q2 => k_is)
    (case l_q2 => k_is)
    (case c_q2 => k_is)
    (case k_q2 => k_is)
    (case a_q1 => k_is)
    (case i_q1 => k_is)
    (case l_q1 => k_is)
    (case c_q1 => k_is)
    (case k_q1 => k_is)
    (case a_q0 => k_is)
    (case i_q0 => k_is)
    (case l_q0 => k_is)
    (case c_q0 => k_is)
    (case k_q0 => k_is)
    (case a_q22 => k_is)
    (case l_q22 => k_is)
    (case c_q22 => k_is)
    (case k_q22 => k_is)
    (case a_q16 => k_is)
    (case l_q16 => k_is)
    (case c_q16 => k_is)
    (case k_q16 => k_is)
    (case a_q23 => k_is)
    (case l_q23 => k_is)
    (case c_q23 => k_is)
    (case k_q23 => k_is)
    (case a_q28 => k_is)
    (case l_q28 => k_is)
    (case c_q28 => k_is)
    (case k_q28 => k_is)
    (case a_q29 => k_is)
    (case l_q29 => k_is)
    (case c_q29 => k_is)
    (case k_q29 => k_is)
    (case a_Lrows => k_is)
    (case l_Lrows => k_is)
    (case c_Lrows => k_is)
    (case k_Lrows => k_is)
    (case a_q24 => k_is)
    (case l_q24 => k_is)
    (case c_q24 => k_is)
    (case k_q24 => k_is)
    (case a_q11 => k_is)
    (case l_q11 => k_is)
    (case c_q11 => k_is)
    (case k_q11 => k_is)
    (case a_q27 => k_is)
    (case l_q27 => k_is)
    (case c_q27 => k_is)
    (case k_q27 => k_is)
    (case a_Lfits => k_is)
    (case l_Lfits => k_is)
    (case c_Lfits => k_is)
    (case k_Lfits => k_is)
    (case a_Lend => k_is)
    (case l_Lend => k_is)
    (case c_Lend => k_is)
    (case k_Lend => k_is)
    (case a_Lwho => k_is)
    (case l_Lwho => k_is)
    (case c_Lwho => k_is)
    (case k_Lwho => k_is)
    (case a_q25 => k_is)
    (case l_q25 => k_is)
    (case c_q25 => k_is)
    (case k_q25 => k_is)
    (case a_q30 => k_is)
    (case l_q30 => k_is)
    (case c_q30 => k_is)
    (case k_q30 => k_is)
    (case a_q12 => k_is)
    (case l_q12 => k_is)
    (case c_q12 => k_is)
    (case k_q12 => k_is)
    (case a_Ldue => k_is)
    (case l_Ldue => k_is)
    (case c_Ldue => k_is)
    (case k_Ldue => k_is)
    (case a_Ltold => k_is)
    (case l_Ltold => k_is)
    (case c_Ltold => k_is)
    (case k_Ltold => k_is)
    (case a_q31 => k_is)
    (case l_q31 => k_is)
    (case c_q31 => k_is)
    (case k_q31 => k_is)
    (case a_q26 => k_is)
    (case l_q26 => k_is)
    (case c_q26 => k_is)
    (case k_q26 => k_is)
    (case a_law => k_is)
    (case l_law => k_is)
    (case c_law => k_is)
    (case k_law => k_is)
    (case z_len => k_is)
    (case z_range => k_is)
    (case z_isinstance => k_is)
    (case z_int => k_is)
    (case z_bool => k_is)
    (case z_list => k_is)
    (case z_tuple => k_is)
    (case z_dict => k_is)
    (case z_min => k_is)
    (case z_max => k_is)
    (case z_sorted => k_is)
    (case z_enumerate => k_is)
    (case z_ValueError => k_is)
