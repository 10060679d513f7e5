import PyProof.Rows.All
import PyProof.StrLoop
import PyProof.TupleIter
import PyProof.RangeIter
import Wide.All
import OpenK.AllK
import Wide.FinOn
import Lean
import PyProof.EqAt
import PyProof.EqKinds
import PyProof.TupleCall
import KE.KRevIter
import PyProof.CollectIter
import PyProof.ListRange
import PyProof.StationsW
import KE.KTryMore
import PyProof.RulesAs
import PyProof.Rows.TupDisplay
import KE.KEqDict
import PyProof.SeqI3
import KE.KDictOf
import PyProof.AttrMissHeap
import PyProof.AttrMissSeq
import PyProof.CollectWalk
import PyProof.ListStr
import KE.KDictList
import PyProof.Rows.SortShell
import PyProof.Rows.SortWalk
import PyProof.NeKinds
import PySem.Challenge.RW_floorways_k08_costs
def PySem.W.Fast.tw13867696728054021197 : Unit := ()
def PySem.W.Fast.tw11296128523392461067 : Unit := ()
def PySem.W.Fast.tw1785877060529570134 : Unit := ()
def PySem.W.Fast.tw10858096009060648221 : Unit := ()
def PySem.W.Fast.tw2089908871063877342 : Unit := ()
def PySem.W.Fast.tw13609282241324078919 : Unit := ()
def PySem.W.Fast.tw16539867487082833993 : Unit := ()
def PySem.W.Fast.tw3407344706063849392 : Unit := ()
def PySem.W.Fast.tw3504540094142685523 : Unit := ()
def PySem.W.Fast.tw9909092396600849577 : Unit := ()
def PySem.W.Fast.tw15987169085077605033 : Unit := ()
def PySem.W.Fast.tw3902564058214489400 : Unit := ()
def PySem.W.Fast.tw13365309102041282591 : Unit := ()
def PySem.W.Fast.tw11253865657150606482 : Unit := ()
def PySem.W.Fast.tw1035715500992277603 : Unit := ()
def PySem.W.Fast.tw13468868703919085143 : Unit := ()
def PySem.W.Fast.tw11800378973446177695 : Unit := ()
def PySem.W.Fast.tw4375863334969901970 : Unit := ()
def PySem.W.Fast.tw16741247928991286210 : Unit := ()
def PySem.W.Fast.tw14754989854506375787 : Unit := ()
def PySem.W.Fast.tw1304242779354045465 : Unit := ()
def PySem.W.Fast.tw3803096963085035968 : Unit := ()
def PySem.W.Fast.tw2436087600242834576 : Unit := ()
def PySem.W.Fast.tw2171477876558054759 : Unit := ()
def PySem.W.Fast.tw454819478994426074 : Unit := ()
def PySem.W.Fast.tw16257121908848029617 : Unit := ()
def PySem.W.Fast.tw11486496778127157135 : Unit := ()
def PySem.W.Fast.tw17669141477723346237 : Unit := ()
def PySem.W.Fast.tw1271122928514297220 : Unit := ()
def PySem.W.Fast.tw4194170326915890669 : Unit := ()
def PySem.W.Fast.tw4774011516701117283 : Unit := ()
def PySem.W.Fast.tw4403683353460919940 : Unit := ()
def PySem.W.Fast.tw15434147085303948072 : Unit := ()
def PySem.W.Fast.tw16210154751023686454 : Unit := ()
def PySem.W.Fast.tw11941125746581026358 : Unit := ()
def PySem.W.Fast.tw1076641337086192737 : Unit := ()
def PySem.W.Fast.tw9255509864831633371 : Unit := ()
def PySem.W.Fast.tw11143726933651881911 : Unit := ()
def PySem.W.Fast.tw3259263592592098628 : Unit := ()
def PySem.W.Fast.tw190555523513716626 : Unit := ()
def PySem.W.Fast.tw16053847390467379165 : Unit := ()
def PySem.W.Fast.tw17085971904408575757 : Unit := ()
def PySem.W.Fast.tw13172306303988727776 : Unit := ()
def PySem.W.Fast.tw1419996969716432103 : Unit := ()
def PySem.W.Fast.tw8505684044927365736 : Unit := ()
def PySem.W.Fast.tw2334120540652740550 : Unit := ()
def PySem.W.Fast.tw3184380407784709525 : Unit := ()
def PySem.W.Fast.tw7064311302176866144 : Unit := ()
def PySem.W.Fast.tw11846892274110980693 : Unit := ()
def PySem.W.Fast.tw14567472233023674109 : Unit := ()
def PySem.W.Fast.tw3854400647627051279 : Unit := ()
def PySem.W.Fast.tw4432116507026690492 : Unit := ()
def PySem.W.Fast.tw16922368742680959653 : Unit := ()
def PySem.W.Fast.tw7192387291494988962 : Unit := ()
def PySem.W.Fast.tw1668092869197743389 : Unit := ()
def PySem.W.Fast.tw6032959955729007897 : Unit := ()
def PySem.W.Fast.tw657268418114799168 : Unit := ()
def PySem.W.Fast.tw10801229737616383581 : Unit := ()
def PySem.W.Fast.tw3380767668411262519 : Unit := ()
def PySem.W.Fast.tw7212391825483365251 : Unit := ()
def PySem.W.Fast.tw769809722013703126 : Unit := ()
def PySem.W.Fast.tw8342715277358795286 : Unit := ()
def PySem.W.Fast.tw5413537571688957815 : Unit := ()
def PySem.W.Fast.tw11161623865591137908 : Unit := ()
def PySem.W.Fast.tw6150523205109518622 : Unit := ()
def PySem.W.Fast.tw6136228241345469409 : Unit := ()
def PySem.W.Fast.tw15457743739688744331 : Unit := ()
def PySem.W.Fast.tw13182053514696428347 : Unit := ()
def PySem.W.Fast.tw3194189078145690232 : Unit := ()
def PySem.W.Fast.tw10115085081111201685 : Unit := ()
def PySem.W.Fast.tw15780432299353504459 : Unit := ()
def PySem.W.Fast.tw1992071870542257168 : Unit := ()
def PySem.W.Fast.tw4505860556096951678 : Unit := ()
def PySem.W.Fast.tw1598699431598343282 : Unit := ()
def PySem.W.Fast.tw5373101479000356659 : Unit := ()
def PySem.W.Fast.tw16261253138893305599 : Unit := ()
def PySem.W.Fast.tw7920621999366918886 : Unit := ()
def PySem.W.Fast.tw16925415230970938113 : Unit := ()
def PySem.W.Fast.tw3782335981046557503 : Unit := ()
def PySem.W.Fast.tw17040011935603753838 : Unit := ()
def PySem.W.Fast.tw15857335977686258944 : Unit := ()
def PySem.W.Fast.tw9673113828299809836 : Unit := ()
def PySem.W.Fast.tw11157817226748781815 : Unit := ()
def PySem.W.Fast.tw782107717747330853 : Unit := ()
def PySem.W.Fast.tw7062968979178592202 : Unit := ()
def PySem.W.Fast.tw9460596566783029916 : Unit := ()
def PySem.W.Fast.tw1636674873006113474 : Unit := ()
def PySem.W.Fast.tw1432222626508359095 : Unit := ()
def PySem.W.Fast.tw7133133441956283954 : Unit := ()
def PySem.W.Fast.tw1577096043649174279 : Unit := ()
def PySem.W.Fast.tw8825368261564785183 : Unit := ()
def PySem.W.Fast.tw448642885559703802 : Unit := ()
def PySem.W.Fast.tw11169075245160288017 : Unit := ()
def PySem.W.Fast.tw5255400481741027415 : Unit := ()
def PySem.W.Fast.tw8189817081937903099 : Unit := ()
def PySem.W.Fast.tw17725125627652059919 : Unit := ()
def PySem.W.Fast.tw2078040581424321137 : Unit := ()
def PySem.W.Fast.tw18426083463749824797 : Unit := ()
def PySem.W.Fast.tw5419768813590359492 : Unit := ()
def PySem.W.Fast.tw13304026763891706261 : Unit := ()
def PySem.W.Fast.tw11268982482242840940 : Unit := ()
def PySem.W.Fast.tw6449929316752602518 : Unit := ()
def PySem.W.Fast.tw14078003473588154720 : Unit := ()
def PySem.W.Fast.tw4242847373275769720 : Unit := ()
def PySem.W.Fast.tw5952956368859209673 : Unit := ()
def PySem.W.Fast.tw12375918487461772742 : Unit := ()
def PySem.W.Fast.tw12673992581719062266 : Unit := ()
def PySem.W.Fast.tw4616256879043802711 : Unit := ()
def PySem.W.Fast.tw10767446539134106381 : Unit := ()
def PySem.W.Fast.tw1190880177265181062 : Unit := ()
def PySem.W.Fast.tw14003152091176161117 : Unit := ()
def PySem.W.Fast.tw3328360484999555150 : Unit := ()
def PySem.W.Fast.tw17977478432731041610 : Unit := ()
def PySem.W.Fast.tw5730959698012303685 : Unit := ()
def PySem.W.Fast.tw4935320960494131300 : Unit := ()
def PySem.W.Fast.tw16281397523047115180 : Unit := ()
def PySem.W.Fast.tw12710896643268505173 : Unit := ()
def PySem.W.Fast.tw12351891731895483250 : Unit := ()
def PySem.W.Fast.tw9633775277209289297 : Unit := ()
def PySem.W.Fast.tw15393574477013051115 : Unit := ()
def PySem.W.Fast.tw2403211169157367429 : Unit := ()
def PySem.W.Fast.tw12862185960156087544 : Unit := ()
def PySem.W.Fast.tw16048794627201187988 : Unit := ()
def PySem.W.Fast.tw13311439906817334822 : Unit := ()
def PySem.W.Fast.tw14373552721291990394 : Unit := ()
def PySem.W.Fast.tw17854004153786270162 : Unit := ()
def PySem.W.Fast.tw9391441053684793878 : Unit := ()
def PySem.W.Fast.tw10282598164383018270 : Unit := ()
def PySem.W.Fast.tw7251104388665131899 : Unit := ()
def PySem.W.Fast.tw8139210769036944170 : Unit := ()
def PySem.W.Fast.tw128019314009950804 : Unit := ()
def PySem.W.Fast.tw13390979572907722247 : Unit := ()
def PySem.W.Fast.tw15975470906068596932 : Unit := ()
def PySem.W.Fast.tw12344936599386021071 : Unit := ()
def PySem.W.Fast.tw3333899033874058527 : Unit := ()
def PySem.W.Fast.tw11520123085164635596 : Unit := ()
def PySem.W.Fast.tw1741374092368540775 : Unit := ()
def PySem.W.Fast.tw6402233688828773265 : Unit := ()
def PySem.W.Fast.tw15871952175474636426 : Unit := ()
def PySem.W.Fast.tw2300042041288565028 : Unit := ()
set_option Elab.async false
set_option linter.all false
set_option maxRecDepth 100000
namespace L2
open PySem PyProof.Rows PySem.Calls
def Hd (A : Around) (h : Heap) : Prop :=
  A.handled = none ∨ ∃ (ea C : Addr) (dx : Option Addr) (vs : Array Value) (sl : Array (Option Value)), A.handled = some (.ref ea) ∧ h.get? ea = some ⟨.ref C, dx, .fields vs, sl⟩ ∧ vs[2]? = some Value.none
theorem Hd.keeps {A : Around} {h h' : Heap} (d : Hd A h) (k : ∀ b o, h.get? b = some o → h'.get? b = some o) : Hd A h' := by
  rcases d with d | ⟨ea, C, dx, vs, sl, d1, d2, d3⟩
  · exact .inl d
  · exact .inr ⟨ea, C, dx, vs, sl, d1, k _ _ d2, d3⟩
theorem Hd.update {A : Around} {h : Heap} (d : Hd A h) {it : Addr} {o : Obj} {n : String} (ho : h.get? it = some o) (hc : o.cls = .type n) (f : Obj → Obj) : Hd A (h.update it f) := by
  rcases d with d | ⟨ea, C, dx, vs, sl, d1, d2, d3⟩
  · exact .inl d
  · refine .inr ⟨ea, C, dx, vs, sl, d1, ?_, d3⟩
    rw [Heap.get?_update_other h f (fun z => ?_)]
    · exact d2
    · subst z
      rw [ho] at d2
      cases d2
      cases hc
section
variable {prog : Program} {w : World} {A : Around} {E : Value → Shared → Prop} {s : Shared}
theorem z385 : entryFor table "proto.unchain" = some Builtin.«proto.unchain» := entryFor_of_tree (by kernel_rfl)
theorem z656 {α : Type} {Q : α → Shared → Prop} {e : Addr} {c : Value} {d : Option Addr} {ws : Array Value} {sl : Array (Option Value)} (hd : Hd A s.heap) (hn : ∀ ea, A.handled = some (.ref ea) → ea ≠ e) (he : s.heap.get? e = some ⟨c, d, .fields ws, sl⟩) (hz : 2 < ws.size)
    (k : ∀ h', (∀ b o, b ≠ e → s.heap.get? b = some o → h'.get? b = some o) → (∃ o, h'.get? e = some o ∧ o.cls = c) → E (.ref e) { s with heap := h' }) : wpAny (model prog w) A (raiseNew (.ref e) : Sem α) Q E s := by
  rcases hd with hd | ⟨ea, C, dx, vs, sl2, d1, d2, d3⟩
  · unfold raiseNew
    refine wpAny_bind (wpAny_handled ?_)
    rw [hd]
    exact wpAny_bind (wpAny_pure (wpAny_throw (k _ (fun _ _ _ z => z) ⟨_, he, rfl⟩)))
  · have ne := hn ea d1
    unfold raiseNew
    refine wpAny_bind (wpAny_handled ?_)
    rw [d1]
    have hb : (Value.ref ea != Value.ref e) = true := by simp [ne]
    dsimp only
    rw [if_pos hb]
    refine wpAny_bind (wpAny_holding (wpAny_runValue (codeAny_builtin z385 ?_)))
    show wpAny _ _ (field (.ref ea) 2 >>= _) _ _ s
    refine wpAny_bind (wpAny_field d2 rfl d3 ?_)
    rw [if_pos (by decide)]
    refine wpAny_bind (wpAny_pure (wpAny_pure ?_))
    unfold updateField
    refine wpAny_bind (wpAny_bind (wpAny_load he ?_))
    show wpAny _ _ (if 2 < ws.size then _ else _) _ _ s
    rw [if_pos hz]
    refine wpAny_update he (wpAny_throw (k _ (fun b o hb z => ?_) ⟨_, Heap.get?_update_self _ he rfl, rfl⟩))
    rw [Heap.get?_update_other _ _ (Ne.symm hb)]
    exact z
theorem z156 {α : Type} {Q : α → Shared → Prop} (hd : Hd A s.heap) (k : ∀ h' e, (∀ b o, s.heap.get? b = some o → h'.get? b = some o) → (∃ o, h'.get? e = some o ∧ o.cls = .type "StopIteration") → E (.ref e) { s with heap := h' }) :
    wpAny (model prog w) A (newExc (.type "StopIteration") [] >>= fun e => (raiseNew e : Sem α)) Q E s := by
  refine wpAny_bind ?_
  simp only [newExc, newTuple]
  refine wpAny_bind (wpAny_newObj_type ?_ (by size_fits))
  refine wpAny_bind (m := firstArgMember _ _) (wpAny_of_eq (a := Value.none) (by first | rfl | (simp only [firstArgMember]; rfl)) ?_)
  refine wpAny_newObj_type ?_ (by size_fits)
  have up : ∀ b o, s.heap.get? b = some o → ((s.heap.push { cls := .type "tuple", data := .seq #[] }).push { cls := .type "StopIteration", data := .fields (#[Value.ref s.heap.objs.size, .none, .none, .none, .bool false, .none] ++ ownMembersOf (.type "StopIteration") []) }).get? b = some o :=
    fun b o z => Heap.get?_push_of_some _ (Heap.get?_push_of_some _ z)
  have lt : ∀ b o, s.heap.get? b = some o → b ≠ (s.heap.push { cls := .type "tuple", data := .seq #[] }).objs.size := fun b o z => Nat.ne_of_lt (Heap.lt_size (Heap.get?_push_of_some _ z))
  refine z656 (hd.keeps up) (fun ea z => ?_) (Heap.get?_push_size _ rfl) (by rw [Array.size_append]; exact Nat.lt_of_lt_of_le (show 2 < 6 by decide) (Nat.le_add_right 6 _)) fun h' k1 k2 => k h' _ (fun b o z => k1 b o (lt b o z) (up b o z)) k2
  rcases hd with hd | ⟨eb, C, dx, vs, sl, d1, d2, d3⟩
  · rw [hd] at z
    cases z
  · rw [d1] at z
    cases z
    exact lt _ _ d2
theorem z151 {Q : Option Value → Shared → Prop} {e : Addr} (he : ∃ o, s.heap.get? e = some o ∧ o.cls = .type "StopIteration") (h : Q none s) :
    wpAny (model prog w) A (do if ← isInstance (.ref e) (.type "StopIteration") then pure none else throw (.ref e)) Q E s :=
  wpAny_bind (wpAny_isInstance (T := "StopIteration") (b := true) he isSubtype_stop (wpAny_pure h))
theorem z677 {it l : Addr} {i : Nat} {items : Array Value} {Q : Option Value → Shared → Prop} (hh : Hd A s.heap) (hit : s.heap.IsListIter it l i) (hl : s.heap.IsList l items) (hx : items[i]? = none)
    (hQ : ∀ h', Heap.ExtBut it s.heap h' → Q none { s with heap := h' }) : wpAny (model prog w) A (pyNext (.ref it)) Q E s := by
  obtain ⟨o, ho, hc, hd⟩ := id hit
  obtain ⟨_, hol, _, _, hdl⟩ := hl
  unfold pyNext
  refine wpAny_bind (wpAny_attempt (wpAny_callSpecial?_slot (name := Str.ofString "__next__") hit.typeIs slot_listiter_next (wpAny_call_entry slot_listiter_next hit.typeIs entry_listiter_next ?_ (args_listiter_next _))))
  show wpAny _ _ (field (.ref it) 0 >>= _) _ _ s
  refine wpAny_bind (wpAny_field ho hd (x := .ref l) rfl ?_)
  rw [if_neg (fun z : (Value.ref l == Value.none) = true => nomatch z)]
  show wpAny _ _ (field (.ref it) 1 >>= _) _ _ s
  refine wpAny_bind (wpAny_field ho hd (x := .int i 0) rfl ?_)
  show wpAny _ _ (seqItems? (.ref l) >>= _) _ _ s
  refine wpAny_bind (wpAny_seqItems hol hdl ?_)
  simp only [Int.toNat_natCast, hx]
  refine wpAny_bind (wpAny_rule (wpAny_bind (wpAny_setField ho hd (by simp) ?_)))
  refine z156 (hh.update (A := A) ho hc _) fun h' e k1 k2 => z151 k2 (hQ h' fun b o hb z => k1 b o ?_)
  rw [Heap.get?_update_other _ _ (Ne.symm hb)]
  exact z
theorem z637 {it t : Addr} {i : Nat} {items : Array Value} {Q : Option Value → Shared → Prop} (hh : Hd A s.heap) (hit : s.heap.IsTupleIter it t i) (ht : s.heap.IsTuple t items) (hx : items[i]? = none)
    (hQ : ∀ h', Heap.ExtBut it s.heap h' → Q none { s with heap := h' }) : wpAny (model prog w) A (pyNext (.ref it)) Q E s := by
  obtain ⟨o, ho, hc, hd⟩ := id hit
  obtain ⟨_, hol, _, _, hdl⟩ := ht
  unfold pyNext
  refine wpAny_bind (wpAny_attempt (wpAny_callSpecial?_slot (name := Str.ofString "__next__") hit.typeIs F.slot_tuple_iterator_next (wpAny_call_entry F.slot_tuple_iterator_next hit.typeIs F.entry_tuple_iterator_next ?_ (F.args_tuple_iterator_next_1 _))))
  show wpAny _ _ (field (.ref it) 0 >>= _) _ _ s
  refine wpAny_bind (wpAny_field ho hd (x := .ref t) rfl ?_)
  rw [if_neg (fun z : (Value.ref t == Value.none) = true => nomatch z)]
  show wpAny _ _ (field (.ref it) 1 >>= _) _ _ s
  refine wpAny_bind (wpAny_field ho hd (x := .int i 0) rfl ?_)
  show wpAny _ _ (seqItems? (.ref t) >>= _) _ _ s
  refine wpAny_bind (wpAny_seqItems hol hdl ?_)
  simp only [Int.toNat_natCast, hx]
  refine wpAny_bind (wpAny_rule (wpAny_bind (wpAny_setField ho hd (by simp) ?_)))
  refine z156 (hh.update (A := A) ho hc _) fun h' e k1 k2 => z151 k2 (hQ h' fun b o hb z => k1 b o ?_)
  rw [Heap.get?_update_other _ _ (Ne.symm hb)]
  exact z
theorem z616 {it : Addr} {x left step : Int} {Q : Option Value → Shared → Prop} (hh : Hd A s.heap) (hit : IsRangeIter s.heap it x left step) (hleft : left ≤ 0)
    (hQ : ∀ h', Heap.ExtBut it s.heap h' → Q none { s with heap := h' }) : wpAny (model prog w) A (pyNext (.ref it)) Q E s := by
  have hT : s.TypeIs (.ref it) "range_iterator" := ⟨_, hit, rfl⟩
  unfold pyNext
  refine wpAny_bind (wpAny_attempt (wpAny_callSpecial?_slot (name := Str.ofString "__next__") hT F.slot_range_iterator_next (wpAny_call_entry F.slot_range_iterator_next hT F.entry_range_iterator_next ?_ (F.args_range_iterator_next_1 _))))
  show wpAny _ _ (field (.ref it) 0 >>= _) _ _ s
  refine wpAny_bind (wpAny_field hit rfl (x := rawInt x) rfl ?_)
  show wpAny _ _ (field (.ref it) 1 >>= _) _ _ s
  refine wpAny_bind (wpAny_field hit rfl (x := rawInt left) rfl ?_)
  show wpAny _ _ (field (.ref it) 2 >>= _) _ _ s
  refine wpAny_bind (wpAny_field hit rfl (x := rawInt step) rfl ?_)
  show wpAny _ _ (if left ≤ 0 then _ else _) _ _ s
  rw [if_pos hleft]
  refine wpAny_bind (wpAny_rule (wpAny_bind ?_))
  exact z156 (A := A.in1) hh fun h' e k1 k2 => z151 k2 (hQ h' fun b o hb z => k1 b o z)
theorem z449 {it : Addr} {n : String} {x : Str} {t : Tok} {i : Nat} {Q : Option Value → Shared → Prop} (hn : n = "str_ascii_iterator" ∨ n = "str_iterator") (hh : Hd A s.heap) (hit : s.heap.IsStrIter it n x t i) (hx : x.cps[i]? = none)
    (hQ : ∀ h', Heap.ExtBut it s.heap h' → Q none { s with heap := h' }) : wpAny (model prog w) A (pyNext (.ref it)) Q E s := by
  obtain ⟨o, ho, hc, hd⟩ := id hit
  unfold pyNext
  rcases hn with rfl | rfl
  · refine wpAny_bind (wpAny_attempt (wpAny_callSpecial?_slot (name := Str.ofString "__next__") hit.typeIs F.slot_str_ascii_iterator_next (wpAny_call_entry F.slot_str_ascii_iterator_next hit.typeIs F.entry_str_ascii_iterator_next ?_ (F.args_str_ascii_iterator_next_1 _))))
    show wpAny _ _ (field (.ref it) 0 >>= _) _ _ s
    refine wpAny_bind (wpAny_field ho hd (x := .str x t) rfl ?_)
    show wpAny _ _ (field (.ref it) 1 >>= _) _ _ s
    refine wpAny_bind (wpAny_field ho hd (x := .int i 0) rfl ?_)
    simp only [Int.toNat_natCast, hx]
    refine wpAny_bind (wpAny_rule (wpAny_bind (wpAny_setField ho hd (by simp) (wpAny_bind (wpAny_letGo ?_)))))
    refine z156 (hh.update (A := A) ho hc _) fun h' e k1 k2 => z151 k2 (hQ h' fun b o hb z => k1 b o ?_)
    rw [Heap.get?_update_other _ _ (Ne.symm hb)]
    exact z
  · refine wpAny_bind (wpAny_attempt (wpAny_callSpecial?_slot (name := Str.ofString "__next__") hit.typeIs F.slot_str_iterator_next (wpAny_call_entry F.slot_str_iterator_next hit.typeIs F.entry_str_iterator_next ?_ (F.args_str_iterator_next_1 _))))
    show wpAny _ _ (field (.ref it) 0 >>= _) _ _ s
    refine wpAny_bind (wpAny_field ho hd (x := .str x t) rfl ?_)
    show wpAny _ _ (field (.ref it) 1 >>= _) _ _ s
    refine wpAny_bind (wpAny_field ho hd (x := .int i 0) rfl ?_)
    simp only [Int.toNat_natCast, hx]
    refine wpAny_bind (wpAny_rule (wpAny_bind (wpAny_setField ho hd (by simp) (wpAny_bind (wpAny_letGo ?_)))))
    refine z156 (hh.update (A := A) ho hc _) fun h' e k1 k2 => z151 k2 (hQ h' fun b o hb z => k1 b o ?_)
    rw [Heap.get?_update_other _ _ (Ne.symm hb)]
    exact z
theorem z424 {env : Env} {elts : List Expr} {x1} {pos : Pos} {t : Addr} {items : Array Value} {Q : Unit → Shared → Prop} (hh : Hd A s.heap) (ht : IsTup s.heap t items) (hn : (assignEach elts env).length = items.size) (hstar : (assignEach elts env).findIdx? (·.1) = none)
    (h : ∀ h', Heap.ExtBut s.heap.objs.size s.heap h' → wpAny (model prog w) A (assignInOrder ((assignEach elts env).map (·.2)) items.toList) Q E { s with heap := h' }) : wpAny (model prog w) A (assign (.Tuple elts x1 pos) env (.ref t)) Q E s := by
  have ne : t ≠ s.heap.objs.size := by obtain ⟨o, ho, _⟩ := ht; exact Nat.ne_of_lt (Heap.lt_size ho)
  rw [assign_Tuple]
  refine wpAny_bind (wpAny_standAt ?_)
  unfold unpack
  rw [hn, hstar]
  refine wpAny_bind (wpAny_holding ?_)
  unfold unpackItems
  refine wpAny_bind ?_
  unfold notIterableAtAll
  refine wpAny_bind (wpAny_specialOf ht.typeIs slot_tuple_iter.lookup (wpAny_pure ?_))
  simp only [Bool.false_eq_true, if_false]
  refine wpAny_bind (wpAny_holding (iter_tuple ht ?_))
  refine wpAny_bind (wpAny_holding (draw_tuple ne items.size 0 _ _ ⟨_, Heap.get?_push_size _ rfl, rfl, rfl⟩ (ht.push _) (by omega) fun h₁ hit₁ hs₁ => ?_))
  rw [List.drop_zero, List.take_of_length_le (by simp)]
  rw [if_neg (by simp)]
  have k1 : ∀ b o, s.heap.get? b = some o → h₁.get? b = some o := fun b o z => (hs₁.2 b (Nat.ne_of_lt (Heap.lt_size z))).trans (Heap.get?_push_of_some _ z)
  have ht₁ : IsTup h₁ t items := (ht.push _).extBut hs₁.extBut ne
  refine wpAny_bind (wpAny_holding (z637 (s := { s with heap := h₁ }) (hh.keeps k1) hit₁ ht₁ (by simp) fun h₂ he₂ => ?_))
  simp only [Option.isSome_none, Bool.false_eq_true, if_false]
  exact wpAny_pure (h h₂ fun b o hb z => he₂ b o hb (k1 b o z))
end
end L2
set_option Elab.async false
set_option linter.all false
set_option maxRecDepth 100000
namespace L2
open PySem PySem.Spec PyProof.Rows
abbrev Key := Sum Int Str
def keyIs : Key → Value → Bool
  | .inl k, v => Value.isInt k v
  | .inr x, v => Value.isStrOf x v
def keyH (w : World) : Key → Int
  | .inl k => hashInt k
  | .inr x => hashStr w x
theorem keyIs_shape : ∀ {k : Key} {v : Value}, keyIs k v = true → (∃ i t, k = Sum.inl i ∧ v = Value.int i t) ∨ (∃ x t, k = Sum.inr x ∧ v = Value.str x t)
  | .inl i, v, h => by
    obtain ⟨t, e⟩ := Value.isInt_shape (k := i) (v := v) h
    exact .inl ⟨i, t, rfl, e⟩
  | .inr x, v, h => by
    obtain ⟨t, e⟩ := Value.isStrOf_shape (x := x) (v := v) h
    exact .inr ⟨x, t, rfl, e⟩
theorem keyIs_int (i : Int) (t : Tok) : keyIs (.inl i) (.int i t) = true := by simp [keyIs, Value.isInt]
theorem keyIs_str (x : Str) (t : Tok) : keyIs (.inr x) (.str x t) = true := by simp [keyIs, Value.isStrOf]
theorem key_ll (a b : Int) : decide ((Sum.inl a : Key) = Sum.inl b) = (a == b) := by
  by_cases e : a = b
  · subst e; simp
  · have h : ¬ (Sum.inl a : Key) = Sum.inl b := fun q => e (Sum.inl.inj q)
    rw [decide_eq_false h]
    exact (beq_eq_false_iff_ne.mpr e).symm
theorem key_rr (a b : Str) : decide ((Sum.inr a : Key) = Sum.inr b) = decide (a = b) := by
  by_cases e : a = b
  · subst e; simp
  · have h : ¬ (Sum.inr a : Key) = Sum.inr b := fun q => e (Sum.inr.inj q)
    rw [decide_eq_false h, decide_eq_false e]
theorem key_lr (a : Int) (b : Str) : decide ((Sum.inl a : Key) = Sum.inr b) = false := decide_eq_false (fun q => nomatch q)
theorem key_rl (a : Str) (b : Int) : decide ((Sum.inr a : Key) = Sum.inl b) = false := decide_eq_false (fun q => nomatch q)
def mixKind (prog : Program) (w : World) : PySem.KeyKind prog w Key where
  is := keyIs
  hash := keyH w
  inj := fun v a b ha hb => by
    rcases keyIs_shape ha with ⟨i, t, rfl, rfl⟩ | ⟨x, t, rfl, rfl⟩
    · rcases keyIs_shape hb with ⟨j, u, rfl, e⟩ | ⟨y, u, rfl, e⟩
      · injection e with e1 _; rw [e1]
      · exact nomatch e
    · rcases keyIs_shape hb with ⟨j, u, rfl, e⟩ | ⟨y, u, rfl, e⟩
      · exact nomatch e
      · injection e with e1 _; rw [e1]
  byValue := fun k v h => by
    rcases keyIs_shape h with ⟨i, t, rfl, rfl⟩ | ⟨x, t, rfl, rfl⟩ <;> rfl
  pyHash := fun hv h => by
    rcases keyIs_shape hv with ⟨i, t, rfl, rfl⟩ | ⟨x, t, rfl, rfl⟩
    · exact wpAny_pyHash_int h
    · exact wpAny_pyHash_str h
  eqBool := fun hu hv h => by
    rcases keyIs_shape hu with ⟨i, t, rfl, rfl⟩ | ⟨x, t, rfl, rfl⟩
    · rcases keyIs_shape hv with ⟨j, u, rfl, rfl⟩ | ⟨y, u, rfl, rfl⟩
      · rw [key_ll] at h; exact wpAny_eqBool_int h
      · rw [key_lr] at h; exact SeqAt.EqAt.int_str i t y u _ _ _ _ h
    · rcases keyIs_shape hv with ⟨j, u, rfl, rfl⟩ | ⟨y, u, rfl, rfl⟩
      · rw [key_rl] at h; exact SeqAt.EqAt.str_int x t j u _ _ _ _ h
      · rw [key_rr] at h; exact wpAny_eqBool_str h
  «strs» := fun k x t v h => by
    rcases keyIs_shape h with ⟨i, u, rfl, e⟩ | ⟨y, u, rfl, e⟩
    · exact nomatch e
    · injection e with e1 _
      subst e1
      cases v <;> rfl
theorem mixKind_int (prog : Program) (w : World) (i : Int) (t : Tok) : (mixKind prog w).is (.inl i) (.int i t) = true := keyIs_int i t
theorem mixKind_str (prog : Program) (w : World) (x : Str) (t : Tok) : (mixKind prog w).is (.inr x) (.str x t) = true := keyIs_str x t
end L2
namespace L2
open PySem PySem.Spec PyProof.Rows
inductive V where
  | non | bl (b : Bool) | int (i : Int) | str (x : Str) | byt (b : Array UInt8) | flt (b : UInt64) | ref (a : Addr) | ty (n : String)
  deriving DecidableEq
def RelV : V → Value → Prop
  | .non, u => u = Value.none
  | .bl b, u => u = Value.bool b
  | .int i, u => ∃ t, u = Value.int i t
  | .str x, u => ∃ t, u = Value.str x t
  | .byt b, u => ∃ t, u = Value.bytes b t
  | .flt b, u => ∃ t, u = Value.float b t
  | .ref a, u => u = Value.ref a
  | .ty n, u => u = Value.type n
abbrev Vals : List V → List Value → Prop := Paired RelV
theorem Vals.length {xs : List V} {us : List Value} (r : Vals xs us) : xs.length = us.length := Paired.length r
theorem Vals.get : ∀ {xs : List V} {us : List Value} {i : Nat} {x : V}, Vals xs us → xs[i]? = some x → ∃ u, us[i]? = some u ∧ RelV x u
  | _, _, _, _, .nil, e => by simp at e
  | _, _, 0, _, .cons r _, e => by simp at e; subst e; exact ⟨_, rfl, r⟩
  | _, _, i + 1, x, .cons _ t, e => by
    obtain ⟨u, h1, h2⟩ := Vals.get (i := i) (x := x) t (by simpa using e)
    exact ⟨u, by simpa using h1, h2⟩
theorem Vals.set {x : V} {u : Value} (r : RelV x u) : ∀ {xs : List V} {us : List Value} (i : Nat), Vals xs us → Vals (xs.set i x) (us.set i u)
  | _, _, _, .nil => .nil
  | _, _, 0, .cons _ t => .cons r t
  | _, _, i + 1, .cons q t => .cons q (Vals.set r i t)
theorem Vals.append : ∀ {xs ys : List V} {us ws : List Value}, Vals xs us → Vals ys ws → Vals (xs ++ ys) (us ++ ws)
  | _, _, _, _, .nil, s => s
  | _, _, _, _, .cons r t, s => .cons r (Vals.append t s)
theorem Vals.take : ∀ {xs : List V} {us : List Value} (n : Nat), Vals xs us → Vals (xs.take n) (us.take n)
  | _, _, 0, _ => .nil
  | _, _, _ + 1, .nil => .nil
  | _, _, n + 1, .cons r t => .cons r (Vals.take n t)
theorem Vals.drop : ∀ {xs : List V} {us : List Value} (n : Nat), Vals xs us → Vals (xs.drop n) (us.drop n)
  | _, _, 0, r => r
  | _, _, _ + 1, .nil => .nil
  | _, _, n + 1, .cons _ t => Vals.drop n t
theorem Vals.none_of : ∀ {xs : List V} {us : List Value} {i : Nat}, Vals xs us → xs[i]? = none → us[i]? = none := fun {xs us i} r e => by
  have h1 := r.length
  have h2 : xs.length ≤ i := List.getElem?_eq_none_iff.mp e
  exact List.getElem?_eq_none_iff.mpr (by omega)
def RelO : Option V → Option Value → Prop
  | some v, some u => RelV v u
  | none, none => True
  | _, _ => False
def KV {κ : Type} : List (κ × V) → List (κ × Value) → Prop := Paired fun (p : κ × V) (q : κ × Value) => p.1 = q.1 ∧ RelV p.2 q.2
def kV : Key → V
  | .inl i => .int i
  | .inr x => .str x
inductive HO where
  | lst (xs : List V)
  | tup (xs : List V)
  | dK (kvs : List (Key × V)) | dT (kvs : List (List Key × V))
  | set (S : Int → Bool) (n : Nat)
  | ins (C dx : Addr) (fs : List (Str × V))
  | own (x : Addr)
  | xd (fs : List (Str × V))
  | met (f x : Addr)
  | rng (lo hi : Int)
  | frz (o : Obj) (u : HO)
  | tbl (ps : Array Value)
  | ext (φ : Heap → Prop)
abbrev Hp := Addr → Option HO
def upd (H : Hp) (a : Addr) (o : HO) : Hp := fun b => if b = a then some o else H b
theorem upd_same {H : Hp} {a : Addr} {o : HO} : upd H a o a = some o := by unfold upd; rw [if_pos rfl]
theorem upd_ne {H : Hp} {a b : Addr} {o : HO} (h : b ≠ a) : upd H a o b = H b := by unfold upd; rw [if_neg h]
theorem upd_upd {H : Hp} {a : Addr} {o u : HO} : upd (upd H a o) a u = upd H a u := by
  funext b; unfold upd; split <;> rfl
theorem ne_of {H : Hp} {a b : Addr} {o u : HO} (h : H a = some o) (h' : H b = some u) (d : o ≠ u) : a ≠ b := by
  intro e; subst e; rw [h] at h'; exact d (Option.some.inj h')
theorem ne_of_none {H : Hp} {a b : Addr} {o : HO} (h : H a = some o) (h' : H b = none) : a ≠ b := by
  intro e; subst e; rw [h] at h'; cases h'
section
variable (P : Program) (w : World)
def ObjOk (H : Hp) (h : Heap) (a : Addr) : HO → Prop
  | .lst xs => xs.length ≤ sizeLine ∧ ∃ (its : List Value) (n : Nat), Vals xs its ∧ h.get? a = some { cls := .type "list", data := .seq its.toArray n }
  | .tup xs => xs.length ≤ sizeLine ∧ ∃ its : List Value, Vals xs its ∧ IsTup h a its.toArray
  | .dK kvs => kvs.length ≤ sizeLine ∧ (a == sysModules) = false ∧ ∃ vs, KV kvs vs ∧ h.DictOf (mixKind P w) a vs
  | .dT kvs => kvs.length ≤ sizeLine ∧ (a == sysModules) = false ∧ ∃ xs : List (List Key × Addr × Value),
      Paired (fun (p : List Key × V) (q : List Key × Addr × Value) => p.1 = q.1 ∧ H q.2.1 = some (.tup (p.1.map kV)) ∧ RelV p.2 q.2.2) kvs xs ∧
      ∃ o es ep, h.get? a = some o ∧ o.ExactDict ∧ o.data = .dict es ep ∧ es.toList = xs.map (entryOfKey (tupleKind (mixKind P w))) ∧ (xs.map (·.1)).Nodup
  | .set S n => h.SetOf (intKind P w) a S n
  | .ins C dx fs => H dx = some (.own a) ∧ fs.length ≤ 1000 ∧ dx ≠ a ∧ h.get? a = some (PySem.W.instObj C dx) ∧
      ∃ mA, h.Ns1 dx mA ∧ (∀ f, RelO (fs.lookup f) (mA f)) ∧ PySem.Within mA (fs.map (·.1))
  | .own _ => ∃ o, h.get? a = some o
  | .xd fs => ∃ mA, h.Ns1 a mA ∧ ∀ f, RelO (fs.lookup f) (mA f)
  | .rng lo hi => ∃ t u v, h.get? a = some { cls := .type "range", data := .fields #[.int lo t, .int hi u, .int 1 v] }
  | .frz o u => h.get? a = some o ∧ ObjOk H h a u
  | .tbl ps => h.get? a = some { cls := .none, data := .fields ps }
  | .met f x => h.get? a = some (PySem.W.methodObj (.ref f) (.ref x))
  | .ext φ => φ h ∧ (∃ o, h.get? a = some o) ∧ ∀ h1 h2 : Heap, φ h1 → (∀ o, h1.get? a = some o → h2.get? a = some o) → φ h2
def HOk (H : Hp) (h : Heap) : Prop := ∀ a o, H a = some o → ObjOk P w H h a o
end
section
variable {P : Program} {w : World} {H H' : Hp} {h h' : Heap} {a : Addr} {o : HO}
theorem ObjOk.lt (x : ObjOk P w H h a o) : a < h.objs.size := by
  cases o with
  | lst xs => obtain ⟨_, _, _, _, e⟩ := x; exact Heap.lt_size e
  | tup xs => obtain ⟨_, _, _, p⟩ := x; exact p.lt
  | dK kvs => obtain ⟨_, _, _, _, o, _, _, e, _⟩ := x; exact Heap.lt_size e
  | dT kvs => obtain ⟨_, _, _, _, o, _, _, e, _⟩ := x; exact Heap.lt_size e
  | set S n => obtain ⟨o, _, _, _, e, _⟩ := x; exact Heap.lt_size e
  | ins C dx fs => obtain ⟨_, _, _, e, _⟩ := x; exact Heap.lt_size e
  | own y => obtain ⟨_, e⟩ := x; exact Heap.lt_size e
  | xd fs => obtain ⟨_, ⟨_, _, _, e, _⟩, _⟩ := x; exact Heap.lt_size e
  | rng lo hi => obtain ⟨_, _, _, e⟩ := x; exact Heap.lt_size e
  | frz ob u => obtain ⟨e, _⟩ := x; exact Heap.lt_size e
  | tbl ps => exact Heap.lt_size (show h.get? a = some _ from x)
  | met f y => exact Heap.lt_size (show h.get? a = some _ from x)
  | ext φ => obtain ⟨_, ⟨_, e⟩, _⟩ := x; exact Heap.lt_size e
theorem Paired.mapP {α β : Type} {F G : α → β → Prop} : ∀ {l₁ : List α} {l₂ : List β}, Paired F l₁ l₂ → (∀ a b, F a b → G a b) → Paired G l₁ l₂
  | _, _, .nil, _ => .nil
  | _, _, .cons r t, f => .cons (f _ _ r) (Paired.mapP t f)
theorem ObjOk.stay (x : ObjOk P w H h a o) (k : ∀ b u, (b = a ∨ H b = some (.own a)) → h.get? b = some u → h'.get? b = some u)
    (ho : ∀ b, H b = some (.own a) → H' b = some (.own a)) (ht : ∀ b xs, H b = some (.tup xs) → H' b = some (.tup xs)) : ObjOk P w H' h' a o := by
  induction o with
  | lst xs => obtain ⟨z, its, n, r, e⟩ := x; exact ⟨z, its, n, r, k _ _ (.inl rfl) e⟩
  | tup xs => obtain ⟨z, its, r, ob, e, c⟩ := x; exact ⟨z, its, r, ob, k _ _ (.inl rfl) e, c⟩
  | dK kvs => obtain ⟨z, y, vs, r, ob, es, ep, e, c⟩ := x; exact ⟨z, y, vs, r, ob, es, ep, k _ _ (.inl rfl) e, c⟩
  | dT kvs =>
    obtain ⟨z, y, xs, r, ob, es, ep, e, c⟩ := x
    exact ⟨z, y, xs, Paired.mapP r fun p q z => ⟨z.1, ht _ _ z.2.1, z.2.2⟩, ob, es, ep, k _ _ (.inl rfl) e, c⟩
  | set S n => obtain ⟨ob, es, ep, t, e, c⟩ := x; exact ⟨ob, es, ep, t, k _ _ (.inl rfl) e, c⟩
  | ins C dx fs =>
    obtain ⟨d, z, ne, e, mA, ⟨od, es, ep, e2, c⟩, r⟩ := x
    exact ⟨ho _ d, z, ne, k _ _ (.inl rfl) e, mA, ⟨od, es, ep, k _ _ (.inr d) e2, c⟩, r⟩
  | own y => obtain ⟨ob, e⟩ := x; exact ⟨ob, k _ _ (.inl rfl) e⟩
  | xd fs => obtain ⟨mA, ⟨od, es, ep, e, c⟩, r⟩ := x; exact ⟨mA, ⟨od, es, ep, k _ _ (.inl rfl) e, c⟩, r⟩
  | rng lo hi => obtain ⟨t, u, v, e⟩ := x; exact ⟨t, u, v, k _ _ (.inl rfl) e⟩
  | frz ob u ih => obtain ⟨e, q⟩ := x; exact ⟨k _ _ (.inl rfl) e, ih q⟩
  | tbl ps =>
    have e : h.get? a = some { cls := .none, data := .fields ps } := x
    show h'.get? a = some { cls := .none, data := .fields ps }
    exact k a _ (.inl rfl) e
  | met f y =>
    have e : h.get? a = some (PySem.W.methodObj (.ref f) (.ref y)) := x
    show h'.get? a = some (PySem.W.methodObj (.ref f) (.ref y))
    exact k a _ (.inl rfl) e
  | ext φ => obtain ⟨p, ⟨o, e⟩, st⟩ := x; exact ⟨st _ _ p fun o q => k _ _ (.inl rfl) q, ⟨o, k _ _ (.inl rfl) e⟩, st⟩
theorem HOk.lt (x : HOk P w H h) (e : H a = some o) : a < h.objs.size := (x a o e).lt
theorem HOk.fresh (x : HOk P w H h) (e : h.objs.size ≤ a) : H a = none := by
  cases q : H a with
  | none => rfl
  | some u => exact absurd (Nat.lt_of_lt_of_le (x.lt q) e) (Nat.lt_irrefl _)
theorem HOk.kept (x : HOk P w H h) (k : ∀ b u, h.get? b = some u → h'.get? b = some u) : HOk P w H h' := fun a o e =>
  (x a o e).stay (fun b u _ q => k b u q) (fun _ q => q) fun _ _ q => q
theorem HOk.laid (x : HOk P w H h) (k : ∀ b u, h.get? b = some u → h'.get? b = some u) (hp : h.objs.size ≤ a) (new : ObjOk P w (upd H a o) h' a o) : HOk P w (upd H a o) h' := fun b u e => by
  have hn := x.fresh hp
  by_cases hb : b = a
  · subst hb; rw [upd_same] at e; cases e; exact new
  · rw [upd_ne hb] at e
    exact (x b u e).stay (fun c v _ q => k c v q) (fun c q => by rw [upd_ne (ne_of_none q hn)]; exact q) fun c xs q => by rw [upd_ne (ne_of_none q hn)]; exact q
end
def Rd (H : Hp) (a : Addr) (u : HO) : Prop := H a = some u ∨ ∃ o, H a = some (.frz o u)
theorem Rd.of {H : Hp} {a : Addr} {u : HO} (h : H a = some u) : Rd H a u := .inl h
theorem Rd.ok {P : Program} {w : World} {H : Hp} {h : Heap} {a : Addr} {u : HO} (r : Rd H a u) (x : HOk P w H h) : ObjOk P w H h a u := by
  rcases r with r | ⟨o, r⟩
  · exact x a u r
  · obtain ⟨_, q⟩ := x a _ r
    exact q
def Mut : Option HO → Prop
  | some (.lst _) => True
  | some (.dK _) => True
  | some (.dT _) => True
  | some (.set _ _) => True
  | some (.ins _ _ _) => True
  | some (.ext _) => True
  | _ => False
section
variable {P : Program} {w : World} {H : Hp} {h h' : Heap} {x e : Addr} {o' : HO}
theorem HOk.write (ok : HOk P w H h) (mu : Mut (H x)) (he : e = x ∨ H e = some (.own x)) (k : ∀ b u, b ≠ e → h.get? b = some u → h'.get? b = some u) (heo : ∃ u, h'.get? e = some u)
    (new : ObjOk P w (upd H x o') h' x o') : HOk P w (upd H x o') h' := fun b u q => by
  have nown : ∀ c y, H c = some (.own y) → c ≠ x := fun c y r z => by subst z; rw [r] at mu; exact mu
  have ntup : ∀ c xs, H c = some (.tup xs) → c ≠ x := fun c xs r z => by subst z; rw [r] at mu; exact mu
  by_cases hb : b = x
  · subst hb; rw [upd_same] at q; cases q; exact new
  · rw [upd_ne hb] at q
    by_cases hbe : b = e
    · have q' : H b = some (.own x) := by
        rcases he with z | z
        · exact absurd (hbe.trans z) hb
        · rw [hbe]; exact z
      rw [q] at q'; cases q'
      obtain ⟨v, hv⟩ := heo
      exact ⟨v, by rw [hbe]; exact hv⟩
    · refine (ok b u q).stay (fun c v hc r => k c v ?_ r) (fun c r => by rw [upd_ne (nown c b r)]; exact r) fun c xs r => by rw [upd_ne (ntup c xs r)]; exact r
      rcases hc with rfl | hc
      · exact hbe
      · rintro rfl
        rcases he with z | z
        · exact nown c b hc z
        · rw [hc] at z; cases z; exact hb rfl
end
structure Un (fs ex : List Addr) (H H' : Hp) (h h' : Heap) : Prop where
  keep : ∀ b o, h.get? b = some o → H b = none → b ∉ fs → b ∉ ex → h'.get? b = some o
  slot : ∀ b o, h.get? b = some o → H b = none → b ∈ fs → b ∉ ex → ∃ sl, h'.get? b = some { o with slots := sl }
  free : ∀ b o, h.get? b = some o → H b = none → b ∉ ex → H' b = none
  there : ∀ b o, h.get? b = some o → b ∉ ex → ∃ o', h'.get? b = some o'
  tups : ∀ b xs, H b = some (.tup xs) → H' b = some (.tup xs)
  frzs : ∀ b o u, H b = some (.frz o u) → H' b = some (.frz o u)
  tbls : ∀ b ps, H b = some (.tbl ps) → ∃ more, H' b = some (.tbl (ps ++ more))
section
variable {fs fs' ex ex' : List Addr} {H H1 H2 : Hp} {h h1 h2 h' : Heap} {a x e : Addr} {o : HO}
theorem Un.any (u : Un fs ex H H1 h h1) {b : Addr} {ob : Obj} (q : h.get? b = some ob) (n : H b = none) (hx : b ∉ ex) : ∃ sl, h1.get? b = some { ob with slots := sl } := by
  by_cases hb : b ∈ fs
  · exact u.slot b ob q n hb hx
  · exact ⟨ob.slots, u.keep b ob q n hb hx⟩
theorem Un.trans (a : Un fs ex H H1 h h1) (b : Un fs ex H1 H2 h1 h2) : Un fs ex H H2 h h2 where
  keep := fun c ob q n hc hx => b.keep c ob (a.keep c ob q n hc hx) (a.free c ob q n hx) hc hx
  slot := fun c ob q n hc hx => by
    obtain ⟨sl, e1⟩ := a.slot c ob q n hc hx
    obtain ⟨sl', e2⟩ := b.slot c _ e1 (a.free c ob q n hx) hc hx
    exact ⟨sl', e2⟩
  free := fun c ob q n hx => by
    obtain ⟨o', e1⟩ := a.there c ob q hx
    exact b.free c o' e1 (a.free c ob q n hx) hx
  there := fun c ob q hx => by
    obtain ⟨o', e1⟩ := a.there c ob q hx
    exact b.there c o' e1 hx
  tups := fun c xs q => b.tups c xs (a.tups c xs q)
  frzs := fun c ob xs q => b.frzs c ob xs (a.frzs c ob xs q)
  tbls := fun c ps q => by
    obtain ⟨m1, e1⟩ := a.tbls c ps q
    obtain ⟨m2, e2⟩ := b.tbls c _ e1
    exact ⟨m1 ++ m2, by rw [e2, Array.append_assoc]⟩
theorem Un.kept (k : ∀ b u, h.get? b = some u → h'.get? b = some u) : Un fs ex H H h h' :=
  ⟨fun b ob q _ _ _ => k b ob q, fun b ob q _ _ _ => ⟨ob.slots, k b ob q⟩, fun _ _ _ n _ => n, fun b ob q _ => ⟨ob, k b ob q⟩, fun _ _ q => q, fun _ _ _ q => q, fun _ ps q => ⟨#[], by rw [q]; simp⟩⟩
theorem Un.refl : Un fs ex H H h h := Un.kept fun _ _ q => q
theorem Un.laid (k : ∀ b u, h.get? b = some u → h'.get? b = some u) (hp : h.objs.size ≤ a) (hn : H a = none) : Un fs ex H (upd H a o) h h' where
  keep := fun b u q _ _ _ => k b u q
  slot := fun b u q _ _ _ => ⟨u.slots, k b u q⟩
  free := fun b u q n _ => by rw [upd_ne (Nat.ne_of_lt (Nat.lt_of_lt_of_le (Heap.lt_size q) hp))]; exact n
  there := fun b u q _ => ⟨u, k b u q⟩
  tups := fun b xs q => by rw [upd_ne (ne_of_none q hn)]; exact q
  frzs := fun b u xs q => by rw [upd_ne (ne_of_none q hn)]; exact q
  tbls := fun b ps q => ⟨#[], by rw [upd_ne (ne_of_none q hn), q]; simp⟩
theorem Un.write (mu : Mut (H x)) (he : e = x ∨ H e = some (.own x)) (k : ∀ b u, b ≠ e → h.get? b = some u → h'.get? b = some u) (heo : ∃ u, h'.get? e = some u) : Un fs ex H (upd H x o) h h' := by
  have hx : ∀ b, H b = none → b ≠ x := fun b n z => by subst z; rw [n] at mu; exact mu
  have hb : ∀ b, H b = none → b ≠ e := fun b n z => by
    subst z
    rcases he with r | r
    · exact hx b n r
    · rw [n] at r; cases r
  have hm : ∀ b u, H b = some u → ¬ Mut (some u) → b ≠ x := fun b u q nm z => by subst z; rw [q] at mu; exact nm mu
  refine ⟨fun b u q n _ _ => k b u (hb b n) q, fun b u q n _ _ => ⟨u.slots, k b u (hb b n) q⟩, fun b u q n _ => by rw [upd_ne (hx b n)]; exact n, fun b u q _ => ?_,
    fun b xs q => by rw [upd_ne (hm b _ q fun z => z)]; exact q, fun b u xs q => by rw [upd_ne (hm b _ q fun z => z)]; exact q, fun b ps q => ⟨#[], by rw [upd_ne (hm b _ q fun z => z), q]; simp⟩⟩
  by_cases hbe : b = e
  · subst hbe; exact heo
  · exact ⟨u, k b u hbe q⟩
theorem Un.mono (u : Un fs ex H H1 h h1) (hs : ∀ b ∈ fs, b ∈ fs') (hx : ∀ b ∈ ex, b ∈ ex') : Un fs' ex' H H1 h h1 :=
  ⟨fun b ob q n hb he => u.keep b ob q n (fun z => hb (hs b z)) fun z => he (hx b z), fun _ _ q n _ he => u.any q n fun z => he (hx _ z), fun b ob q n he => u.free b ob q n fun z => he (hx b z), fun b ob q he => u.there b ob q fun z => he (hx b z), u.tups, u.frzs, u.tbls⟩
end
def trk (h : Heap) (H : Hp) : List Addr := (List.range h.objs.size).filter fun a => (H a).isSome
def hidT (h : Heap) (H : Hp) : Heap := PySem.W.hideAll h (trk h H)
theorem hidT_size (h : Heap) (H : Hp) : (hidT h H).objs.size = h.objs.size := PySem.W.hideAll_size _ _
theorem hidT_get {h : Heap} {H : Hp} {b : Addr} {o : Obj} (e : h.get? b = some o) (n : H b = none) : (hidT h H).get? b = some o :=
  PySem.W.hideAll_get _ e fun hm => by
    have q : (H b).isSome = true := (List.mem_filter.mp hm).2
    rw [n] at q; simp at q
theorem of_hidT {h : Heap} {H : Hp} {b : Addr} {o : Obj} (e : (hidT h H).get? b = some o) : h.get? b = some o ∧ H b = none := by
  have e' : h.get? b = some o := PySem.W.of_hideAll (trk h H) e
  refine ⟨e', ?_⟩
  cases q : H b with
  | none => rfl
  | some x =>
    have hm : b ∈ trk h H := List.mem_filter.mpr ⟨List.mem_range.mpr (Heap.lt_size e'), by simp [q]⟩
    have z : (hidT h H).get? b = none := PySem.W.hideAll_none (trk h H) hm
    rw [z] at e; cases e
def allNews (g h : Heap) (L : Addr) : List (Addr × Obj) := (List.range h.objs.size).filterMap fun a => if a = L ∨ (g.get? a).isSome = true then none else (h.get? a).map fun o => (a, o)
def rest (g h : Heap) (L d : Addr) : List (Addr × Obj) := (allNews g h L).filter fun p => decide (p.1 ≠ d)
end L2
namespace L2
open PySem PySem.Spec PyProof.Rows
structure Mod (K : PySem.W.Frag) (mg : Str → Option Value) (base : Heap) : Prop where
  kin : K.In base
  glob : base.Ns mainGlobals mg
  blt : ∃ mb, base.Ns builtinsNs mb ∧ ∀ x : Str, x ≠ "__name__" → mb x = bootBuiltins x
  nolimit : base.NoLimit
structure Cx where
  prog : Program
  w : World
  K : PySem.W.Frag
  mg : Str → Option Value
  base : Heap
  A : Around
  N : List Str
  s₀ : Shared
  H₀ : Hp
  env : Env
  outer : List Env
  stack : List Env
  ex : List Addr
  fn : Str → Bool
  calm : Bool
  pn : List (Addr × Obj)
  xe : Value → Shared → Prop
def frs (l : List Env) : List Addr := l.filterMap (·.frame)
abbrev Cx.fs (X : Cx) : List Addr := frs X.outer
def Vis (sc : Scope) (x : Str) : Prop := sc.names.lookup x = some .local ∨ sc.names.lookup x = some .cell ∨ sc.names.lookup x = some .free
def Loc (sc : Scope) (x : Str) : Prop := sc.names.lookup x = some .local ∨ sc.names.lookup x = some .cell
def Look (env : Env) (h : Heap) (m : Str → Option Value) (x : Str) (u : Value) : Prop :=
  (env.kindOf x = some .local ∧ m x = some u) ∨ ((env.kindOf x = some .cell ∨ env.kindOf x = some .free) ∧ ∃ c, env.cells.lookup x = some c ∧ h.IsCell c (some u))
structure Cx.Ok (X : Cx) : Prop where
  mod : Mod X.K X.mg X.base
  kind : X.env.scope.kind = .function
  glob : X.env.globals = mainGlobals
  blt : X.env.builtins = builtinsNs
  above : X.s₀.heap.objs.size ≤ X.env.locals
  inj : ∀ x y c, X.env.cells.lookup x = some c → X.env.cells.lookup y = some c → x = y
  has : ∀ x, (X.env.kindOf x = some .cell ∨ X.env.kindOf x = some .free) → ∃ c, X.env.cells.lookup x = some c
  cab : ∀ x c, X.fn x = true → X.env.cells.lookup x = some c → X.s₀.heap.objs.size ≤ c
  hd : X.calm = true → X.A.handled = none
  frames : X.A.frames = some X.stack
  stk : X.stack = X.outer ∨ (X.stack = X.env :: X.outer ∧ X.env.frame = some X.env.locals)
  exf : ∀ b ∈ X.ex, b ≠ X.env.locals ∧ ∀ x c, X.env.cells.lookup x = some c → c ≠ b
  bs : ∀ b o, X.base.get? b = some o → X.s₀.heap.get? b = some o ∧ X.H₀ b = none
  bsz : X.base.objs.size ≤ X.s₀.heap.objs.size
  noex : ∀ b o, X.base.get? b = some o → b ∉ X.ex
  exfs : ∀ b ∈ X.ex, b ∉ X.fs
  funs : X.s₀.heap.FunFrames X.base X.outer
  frf : ∀ b ∈ X.fs, X.H₀ b = none
structure Inv (X : Cx) (pins : List (Addr × Obj)) (σ : List (Option V)) (H : Hp) (s : Shared) : Prop where
  ok : X.Ok
  os : s.os = X.s₀.os
  bare : AllBare s.gens
  base : Un X.fs X.ex X.H₀ H X.s₀.heap s.heap
  loc : ∃ m, s.heap.Ns X.env.locals m ∧ ∀ (i : Nat) (x : Str) (v : V), X.N[i]? = some x → σ[i]? = some (some v) → Vis X.env.scope x → ∃ u, RelV v u ∧ Look X.env s.heap m x u
  cell : ∀ x c, X.env.cells.lookup x = some c → ∃ v, s.heap.IsCell c v
  free : H X.env.locals = none
  freeC : ∀ x c, X.env.cells.lookup x = some c → H c = none
  pin : ∀ p ∈ X.pn ++ pins, s.heap.get? p.1 = some p.2 ∧ H p.1 = none ∧ p.1 ≠ X.env.locals ∧ p.1 ∉ X.fs ∧ ∀ v, p.2.data ≠ .cell v
  hok : HOk X.prog X.w H s.heap
  len : σ.length = X.N.length
section
variable {X : Cx} {pins : List (Addr × Obj)} {σ : List (Option V)} {H H' : Hp} {s : Shared} {h' : Heap}
theorem Cx.Ok.nofr (ok : X.Ok) {b : Addr} {o : Obj} (e : X.base.get? b = some o) : b ∉ X.fs := fun hb => by
  have := (ok.funs.mem hb).1
  rw [e] at this; cases this
theorem Inv.bs (I : Inv X pins σ H s) : ∀ b o, X.base.get? b = some o → s.heap.get? b = some o ∧ H b = none := fun b o e =>
  ⟨I.base.keep b o (I.ok.bs b o e).1 (I.ok.bs b o e).2 (I.ok.nofr e) (I.ok.noex b o e), I.base.free b o (I.ok.bs b o e).1 (I.ok.bs b o e).2 (I.ok.noex b o e)⟩
theorem Inv.bk (I : Inv X pins σ H s) : ∀ b o, X.base.get? b = some o → s.heap.get? b = some o := fun b o e => (I.bs b o e).1
theorem Inv.mod (I : Inv X pins σ H s) : Mod X.K X.mg X.base := I.ok.mod
theorem Inv.kIn (I : Inv X pins σ H s) : X.K.In s.heap := I.ok.mod.kin.keeps I.bk
theorem Inv.nolimit (I : Inv X pins σ H s) : s.heap.NoLimit := I.ok.mod.nolimit.keeps I.bk
theorem Inv.fr (I : Inv X pins σ H s) : ∃ m, Fr X.base X.env.locals s.heap m :=
  let ⟨m, hn, _⟩ := I.loc
  ⟨m, hn, I.bk, Nat.le_trans I.ok.bsz I.ok.above⟩
theorem Inv.lt (I : Inv X pins σ H s) : X.env.locals < s.heap.objs.size := let ⟨_, hn, _⟩ := I.loc; hn.lt
theorem Inv.sz (I : Inv X pins σ H s) : X.s₀.heap.objs.size ≤ s.heap.objs.size := Nat.le_trans I.ok.above (Nat.le_of_lt I.lt)
theorem Inv.nofs (I : Inv X pins σ H s) {a : Addr} (h : s.heap.objs.size ≤ a) : a ∉ X.fs := fun hb => by
  obtain ⟨_, o, ho, _⟩ := I.ok.funs.mem hb
  exact absurd (Nat.lt_of_lt_of_le (Heap.lt_size ho) (Nat.le_trans I.sz h)) (Nat.lt_irrefl _)
theorem Inv.cne (I : Inv X pins σ H s) : ∀ x c, X.env.cells.lookup x = some c → c ≠ X.env.locals := fun x c e z => by
  obtain ⟨v, o, ho, hd⟩ := I.cell x c e
  obtain ⟨m, ⟨o', es, ep, ho', hd', _⟩, _⟩ := I.loc
  rw [z, ho'] at ho; cases ho; rw [hd'] at hd; cases hd
theorem Inv.funs (I : Inv X pins σ H s) : s.heap.FunFrames X.base X.outer := by
  have all : ∀ (l : List Env), (∀ b ∈ frs l, b ∈ X.fs) → X.s₀.heap.FunFrames X.base l → s.heap.FunFrames X.base l := by
    intro l
    induction l with
    | nil => intro _ _; trivial
    | cons env r ih =>
      intro hs hl
      obtain ⟨hk, ⟨L, o, hf, hn, ho, hd⟩, hr⟩ := hl
      have hL : L ∈ X.fs := hs L (by unfold frs; rw [List.filterMap_cons, hf]; exact List.mem_cons_self)
      obtain ⟨sl, e⟩ := I.base.slot L o ho (I.ok.frf L hL) hL fun z => I.ok.exfs L z hL
      exact ⟨hk, ⟨L, _, hf, hn, e, hd⟩, ih (fun b hb => hs b (by unfold frs; rw [List.filterMap_cons, hf]; exact List.mem_cons_of_mem _ hb)) hr⟩
  exact all X.outer (fun _ hb => hb) I.ok.funs
theorem Inv.stack (I : Inv X pins σ H s) : s.heap.FunFrames X.base X.stack := by
  rcases I.ok.stk with e | ⟨e, hf⟩
  · rw [e]; exact I.funs
  · rw [e]
    obtain ⟨m, hn, _⟩ := I.loc
    refine .cons (by rw [I.ok.kind]; decide) hf hn ?_ I.funs
    exact Heap.get?_none_of_le (Nat.le_trans I.ok.bsz I.ok.above)
theorem Inv.stkSub (I : Inv X pins σ H s) : ∀ b ∈ frs X.stack, b ∈ X.env.locals :: X.fs := fun b hb => by
  rcases I.ok.stk with e | ⟨e, hf⟩
  · rw [e] at hb; exact List.mem_cons_of_mem _ hb
  · rw [e] at hb
    unfold frs at hb
    rw [List.filterMap_cons, hf] at hb
    exact hb
theorem Inv.stkFree (I : Inv X pins σ H s) : ∀ b ∈ frs X.stack, H b = none := fun b hb => by
  rcases List.mem_cons.mp (I.stkSub b hb) with e | hb
  · rw [e]; exact I.free
  · obtain ⟨_, o, ho, _⟩ := I.ok.funs.mem hb
    exact I.base.free b o ho (I.ok.frf b hb) fun z => I.ok.exfs b z hb
theorem Inv.step {g' : Array GenState} {t' : Nat} {d' : Drawn} {ch : List Addr} (I : Inv X pins σ H s)
    (hch : ∀ b ∈ ch, (b ∈ X.ex ∨ X.s₀.heap.objs.size ≤ b) ∧ b ≠ X.env.locals ∧ (∀ x c, X.env.cells.lookup x = some c → c ≠ b) ∧ ∀ p ∈ X.pn ++ pins, p.1 ≠ b)
    (keep : ∀ b o, b ≠ X.env.locals → b ∉ X.fs → b ∉ ch → s.heap.get? b = some o → H b = none → h'.get? b = some o)
    (slot : ∀ b o, b ≠ X.env.locals → b ∈ X.fs → b ∉ ch → s.heap.get? b = some o → H b = none → ∃ sl, h'.get? b = some { o with slots := sl }) (free : ∀ b o, b ∉ ch → s.heap.get? b = some o → H b = none → H' b = none)
    (there : ∀ b o, b ∉ ch → s.heap.get? b = some o → ∃ o', h'.get? b = some o')
    (tups : ∀ b xs, H b = some (.tup xs) → H' b = some (.tup xs)) (frzs : ∀ b o u, H b = some (.frz o u) → H' b = some (.frz o u)) (tbls : ∀ b ps, H b = some (.tbl ps) → ∃ more, H' b = some (.tbl (ps ++ more)))
    (ns : ∀ m, s.heap.Ns X.env.locals m → h'.Ns X.env.locals m) (hok : HOk X.prog X.w H' h') (hg : AllBare g') :
    Inv X pins σ H' { s with heap := h', gens := g', drawn := d', toks := t' } := by
  have neL : ∀ b o, X.s₀.heap.get? b = some o → b ≠ X.env.locals := fun b o e => Nat.ne_of_lt (Nat.lt_of_lt_of_le (Heap.lt_size e) I.ok.above)
  have neC : ∀ b o, X.s₀.heap.get? b = some o → b ∉ X.ex → b ∉ ch := fun b o e hx hb => by
    rcases (hch b hb).1 with z | z
    · exact hx z
    · exact absurd (Nat.lt_of_lt_of_le (Heap.lt_size e) z) (Nat.lt_irrefl _)
  have cellK : ∀ x c, X.env.cells.lookup x = some c → ∀ v, s.heap.IsCell c v → h'.IsCell c v := fun x c e v ⟨o, ho, hd⟩ => by
    have nch : c ∉ ch := fun z => (hch c z).2.2.1 x c e rfl
    by_cases hc : c ∈ X.fs
    · obtain ⟨sl, q⟩ := slot c o (I.cne x c e) hc nch ho (I.freeC x c e)
      exact ⟨_, q, hd⟩
    · exact ⟨o, keep c o (I.cne x c e) hc nch ho (I.freeC x c e), hd⟩
  refine ⟨I.ok, I.os, hg, ⟨fun b o e n hb hx => ?_, fun b o e n hb hx => ?_, fun b o e n hx => ?_, fun b o e hx => ?_, fun b xs e => tups b xs (I.base.tups b xs e), fun b o xs e => frzs b o xs (I.base.frzs b o xs e), fun b ps e => ?_⟩, ?_, fun x c e => ?_, ?_, fun x c e => ?_, fun p hp => ?_, hok, I.len⟩
  · exact keep b o (neL b o e) hb (neC b o e hx) (I.base.keep b o e n hb hx) (I.base.free b o e n hx)
  · obtain ⟨sl, e1⟩ := I.base.slot b o e n hb hx
    obtain ⟨sl', e2⟩ := slot b _ (neL b o e) hb (neC b o e hx) e1 (I.base.free b o e n hx)
    exact ⟨sl', e2⟩
  · obtain ⟨o', e1⟩ := I.base.there b o e hx
    exact free b o' (neC b o e hx) e1 (I.base.free b o e n hx)
  · obtain ⟨o', e1⟩ := I.base.there b o e hx
    exact there b o' (neC b o e hx) e1
  · obtain ⟨m1, e1⟩ := I.base.tbls b ps e
    obtain ⟨m2, e2⟩ := tbls b _ e1
    exact ⟨m1 ++ m2, by rw [e2, Array.append_assoc]⟩
  · obtain ⟨m, hn, hl⟩ := I.loc
    refine ⟨m, ns m hn, fun i x v e1 e2 e3 => ?_⟩
    obtain ⟨u, r, l⟩ := hl i x v e1 e2 e3
    refine ⟨u, r, ?_⟩
    rcases l with l | ⟨k, c, e, z⟩
    · exact .inl l
    · exact .inr ⟨k, c, e, cellK x c e _ z⟩
  · obtain ⟨v, z⟩ := I.cell x c e
    exact ⟨v, cellK x c e v z⟩
  · obtain ⟨m, ⟨o, _, _, ho, _⟩, _⟩ := I.loc
    exact free _ o (fun z => (hch _ z).2.1 rfl) ho I.free
  · obtain ⟨v, o, ho, hd⟩ := I.cell x c e
    exact free c o (fun z => (hch c z).2.2.1 x c e rfl) ho (I.freeC x c e)
  · obtain ⟨e, n, ne, nf, d⟩ := I.pin p hp
    have nch : p.1 ∉ ch := fun z => (hch p.1 z).2.2.2 p hp rfl
    exact ⟨keep p.1 p.2 ne nf nch e n, free p.1 p.2 nch e n, ne, nf, d⟩
theorem Inv.un {t' : Nat} (I : Inv X pins σ H s) (u : Un X.fs [] H H' s.heap h') (hok : HOk X.prog X.w H' h') : Inv X pins σ H' { s with heap := h', toks := t' } := by
  obtain ⟨m, ⟨o, es, ep, ho, r⟩, _⟩ := id I.loc
  obtain ⟨sl, hL⟩ := u.any ho I.free (by simp)
  exact I.step (g' := s.gens) (d' := s.drawn) (ch := []) (fun _ z => nomatch z) (fun b o _ hb _ e n => u.keep b o e n hb (by simp)) (fun b o _ hb _ e n => u.slot b o e n hb (by simp)) (fun b o _ e n => u.free b o e n (by simp)) (fun b o _ e => u.there b o e (by simp)) u.tups u.frzs u.tbls (fun m' hm => by
    obtain ⟨o', es', ep', ho', r'⟩ := hm
    rw [ho] at ho'; cases ho'
    exact ⟨_, es', ep', hL, r'⟩) hok I.bare
theorem Inv.call {g' : Array GenState} {t' : Nat} {d' : Drawn} {ch : List Addr} (I : Inv X pins σ H s) (u : Un (frs X.stack) ch H H' s.heap h') (hok : HOk X.prog X.w H' h') (hg : AllBare g')
    (hch : ∀ b ∈ ch, (b ∈ X.ex ∨ X.s₀.heap.objs.size ≤ b) ∧ b ≠ X.env.locals ∧ (∀ x c, X.env.cells.lookup x = some c → c ≠ b) ∧ ∀ p ∈ X.pn ++ pins, p.1 ≠ b) :
    Inv X pins σ H' { s with heap := h', gens := g', drawn := d', toks := t' } := by
  obtain ⟨m, ⟨o, es, ep, ho, r⟩, _⟩ := id I.loc
  obtain ⟨sl, hL⟩ := u.any ho I.free fun z => (hch _ z).2.1 rfl
  exact I.step (ch := ch) hch (fun b o hL hb hc e n => u.keep b o e n (fun z => (List.mem_cons.mp (I.stkSub b z)).elim hL hb) hc) (fun b o _ _ hc e n => u.any e n hc) (fun b o hc e n => u.free b o e n hc) (fun b o hc e => u.there b o e hc) u.tups u.frzs u.tbls (fun m' hm => by
    obtain ⟨o', es', ep', ho', r'⟩ := hm
    rw [ho] at ho'; cases ho'
    exact ⟨_, es', ep', hL, r'⟩) hok hg
theorem Inv.turned {t' : Nat} {it : Addr} (I : Inv X pins σ H s) (k : ∀ b o, b ≠ it → s.heap.get? b = some o → h'.get? b = some o) (hn : H it = none) (hL : it ≠ X.env.locals)
    (h1 : it ∈ X.ex ∨ X.s₀.heap.objs.size ≤ it) (h2 : ∀ x c, X.env.cells.lookup x = some c → c ≠ it) (h3 : ∀ p ∈ X.pn ++ pins, p.1 ≠ it) : Inv X pins σ H { s with heap := h', toks := t' } := by
  have nit : ∀ b u, H b = some u → b ≠ it := fun b u e z => by rw [z, hn] at e; cases e
  refine I.step (g' := s.gens) (d' := s.drawn) (ch := [it]) (fun b hb => ?_) (fun b o _ _ hc e _ => k b o (fun z => hc (by simp [z])) e) (fun b o _ _ hc e _ => ⟨o.slots, k b o (fun z => hc (by simp [z])) e⟩) (fun _ _ _ _ n => n)
    (fun b o hc e => ⟨o, k b o (fun z => hc (by simp [z])) e⟩) (fun _ _ e => e) (fun _ _ _ e => e) (fun b ps e => ⟨#[], by rw [e]; simp⟩) (fun m hm => ?_) (fun b u e => ?_) I.bare
  · have e : b = it := by simpa using hb
    subst e
    exact ⟨h1, hL, h2, h3⟩
  · obtain ⟨o, es, ep, ho, r⟩ := hm
    exact ⟨o, es, ep, k _ o (Ne.symm hL) ho, r⟩
  · refine (I.hok b u e).stay (fun c v hc q => k c v ?_ q) (fun _ q => q) fun _ _ q => q
    rcases hc with z | z
    · rw [z]; exact nit b u e
    · exact nit c _ z
theorem Inv.tok (I : Inv X pins σ H s) (t : Nat) : Inv X pins σ H { s with toks := t } := I.un (h' := s.heap) (t' := t) Un.refl I.hok
theorem Inv.kept {t' : Nat} (I : Inv X pins σ H s) (k : ∀ b u, s.heap.get? b = some u → h'.get? b = some u) : Inv X pins σ H { s with heap := h', toks := t' } := I.un (Un.kept k) (I.hok.kept k)
theorem Inv.laid {a : Addr} {o : HO} {t' : Nat} (I : Inv X pins σ H s) (k : ∀ b u, s.heap.get? b = some u → h'.get? b = some u) (hp : s.heap.objs.size ≤ a) (new : ObjOk X.prog X.w (upd H a o) h' a o) :
    Inv X pins σ (upd H a o) { s with heap := h', toks := t' } := I.un (Un.laid k hp (I.hok.fresh hp)) (I.hok.laid k hp new)
theorem Inv.write {x e : Addr} {o : HO} {t' : Nat} (I : Inv X pins σ H s) (mu : Mut (H x)) (he : e = x ∨ H e = some (.own x)) (k : ∀ b u, b ≠ e → s.heap.get? b = some u → h'.get? b = some u) (heo : ∃ u, h'.get? e = some u)
    (new : ObjOk X.prog X.w (upd H x o) h' x o) : Inv X pins σ (upd H x o) { s with heap := h', toks := t' } := I.un (Un.write mu he k heo) (I.hok.write mu he k heo new)
theorem Inv.weak {σ' : List (Option V)} (I : Inv X pins σ H s) (hl : σ'.length = σ.length) (w : ∀ (i : Nat) v, σ'[i]? = some (some v) → σ[i]? = some (some v)) : Inv X pins σ' H s :=
  ⟨I.ok, I.os, I.bare, I.base, let ⟨m, hn, hl'⟩ := I.loc; ⟨m, hn, fun i x v e1 e2 e3 => hl' i x v e1 (w i v e2) e3⟩, I.cell, I.free, I.freeC, I.pin, I.hok, hl.trans I.len⟩
def Calm (X : Cx) : Prop := X.calm = true ∨ ∃ (ea C : Addr) (dx : Option Addr) (vs : Array Value) (sl : Array (Option Value)), X.A.handled = some (.ref ea) ∧ vs[2]? = some Value.none ∧ (ea, (⟨.ref C, dx, .fields vs, sl⟩ : Obj)) ∈ X.pn
theorem calm0 {X : Cx} (h : X.calm = true) : Calm X := .inl h
theorem Inv.calm (I : Inv X pins σ H s) (c : Calm X) : Hd X.A s.heap := by
  rcases c with c | ⟨ea, C, dx, vs, sl, h1, h2, h3⟩
  · exact .inl (I.ok.hd c)
  · exact .inr ⟨ea, C, dx, vs, sl, h1, (I.pin _ (List.mem_append_left _ h3)).1, h2⟩
theorem Inv.pins_of {pins' : List (Addr × Obj)} (I : Inv X pins σ H s) (h : ∀ p ∈ pins', s.heap.get? p.1 = some p.2 ∧ H p.1 = none ∧ p.1 ≠ X.env.locals ∧ p.1 ∉ X.fs ∧ ∀ v, p.2.data ≠ .cell v) : Inv X pins' σ H s :=
  ⟨I.ok, I.os, I.bare, I.base, I.loc, I.cell, I.free, I.freeC, fun p hp => (List.mem_append.mp hp).elim (fun z => I.pin p (List.mem_append_left _ z)) (h p), I.hok, I.len⟩
theorem nodup_ix {N : List Str} (hN : N.Nodup) {i j : Nat} {x : Str} (a : N[i]? = some x) (b : N[j]? = some x) : i = j := by
  obtain ⟨h1, e1⟩ := List.getElem?_eq_some_iff.mp a
  obtain ⟨h2, e2⟩ := List.getElem?_eq_some_iff.mp b
  exact (List.getElem_inj hN).mp (e1.trans e2.symm)
theorem store_ok2 {M : Model} {A : Around} {E : Value → Shared → Prop} {i : Nat} {x : Str} {v : V} {u : Value} {Q : Unit → Shared → Prop} (I : Inv X pins σ H s) (hN : X.N.Nodup) (hi : X.N[i]? = some x) (hx : Loc X.env.scope x) (r : RelV v u)
    (h : ∀ s', Inv X pins (σ.set i (some v)) H s' → (∃ a, Heap.SameBut a s.heap s'.heap ∧ (a = X.env.locals ∨ X.env.cells.lookup x = some a)) → Q () s') (hf : X.fn x = true ∨ X.env.scope.names.lookup x = some .local := by first | exact .inl rfl | exact .inr rfl | assumption) : wpAny M A (storeName X.env x u) Q E s := by
  obtain ⟨m, hn, hl⟩ := id I.loc
  have hcls : (X.env.scope.kind == .class || (X.env.scope.kind == .module && X.env.locals != X.env.globals)) = false := by rw [I.ok.kind]; rfl
  have hiσ : i < σ.length := by rw [I.len]; exact (List.getElem?_eq_some_iff.mp hi).1
  have cne := I.cne
  have tracked : ∀ {a : Addr} {h' : Heap}, (∃ o, s.heap.get? a = some o ∧ H a = none) → Heap.SameBut a s.heap h' → HOk X.prog X.w H h' := fun {a h'} ha hs b ob e => by
    obtain ⟨_, _, hfree⟩ := ha
    refine (I.hok b ob e).stay (fun c w' hc q => (hs.2 c ?_).trans q) (fun _ q => q) fun _ _ q => q
    rintro rfl
    rcases hc with rfl | hc
    · rw [hfree] at e; cases e
    · rw [hfree] at hc; cases hc
  rcases hx with hk | hk
  · refine wpAny_storeName_local hk hn (fun h' hn' hs => ?_) hcls
    obtain ⟨oL, _, _, hoL, _⟩ := id hn
    refine h _ ⟨I.ok, I.os, I.bare, ⟨fun b o e n hb hx => ?_, fun b o e n hb hx => ?_, I.base.free, fun b o e hx => ?_, I.base.tups, I.base.frzs, I.base.tbls⟩, ⟨_, hn', fun j y v' e1 e2 e3 => ?_⟩, fun y c e => ?_, I.free, I.freeC, fun p hp => ?_, tracked ⟨oL, hoL, I.free⟩ hs, by simpa using I.len⟩ ⟨_, hs, .inl rfl⟩
    · exact (hs.2 b (Nat.ne_of_lt (Nat.lt_of_lt_of_le (Heap.lt_size e) I.ok.above))).trans (I.base.keep b o e n hb hx)
    · obtain ⟨sl, e1⟩ := I.base.slot b o e n hb hx
      exact ⟨sl, (hs.2 b (Nat.ne_of_lt (Nat.lt_of_lt_of_le (Heap.lt_size e) I.ok.above))).trans e1⟩
    · obtain ⟨o', e1⟩ := I.base.there b o e hx
      exact ⟨o', (hs.2 b (Nat.ne_of_lt (Nat.lt_of_lt_of_le (Heap.lt_size e) I.ok.above))).trans e1⟩
    · by_cases hj : j = i
      · subst hj
        rw [hi] at e1; cases e1
        rw [List.getElem?_set_self hiσ] at e2
        cases e2
        exact ⟨u, r, .inl ⟨hk, by simp⟩⟩
      · rw [List.getElem?_set_ne (Ne.symm hj)] at e2
        obtain ⟨u', r', q⟩ := hl j y v' e1 e2 e3
        refine ⟨u', r', ?_⟩
        rcases q with ⟨k, e⟩ | ⟨k, c, e, z⟩
        · refine .inl ⟨k, ?_⟩
          have : y ≠ x := fun e => hj (nodup_ix hN e1 (e ▸ hi))
          simp [this, e]
        · exact .inr ⟨k, c, e, z.sameBut hs (cne y c e)⟩
    · obtain ⟨w', z⟩ := I.cell y c e
      exact ⟨w', z.sameBut hs (cne y c e)⟩
    · obtain ⟨e, n, ne, nf, d⟩ := I.pin p hp
      exact ⟨(hs.2 p.1 ne).trans e, n, ne, nf, d⟩
  · have hfn : X.fn x = true := by
      rcases hf with z | z
      · exact z
      · rw [z] at hk; cases hk
    obtain ⟨c, hc⟩ := I.ok.has x (.inl hk)
    obtain ⟨w', z⟩ := I.cell x c hc
    refine wpAny_storeName_cell I.ok.kind hk hc z (fun h' hc' hs => ?_)
    obtain ⟨oc, hoc, hocd⟩ := id z
    refine h { s with heap := h' } ⟨I.ok, I.os, I.bare, ⟨fun b o e n hb hx => ?_, fun b o e n hb hx => ?_, I.base.free, fun b o e hx => ?_, I.base.tups, I.base.frzs, I.base.tbls⟩, ⟨m, hn.sameBut hs (Ne.symm (cne x c hc)), fun j y v' e1 e2 e3 => ?_⟩, fun y c' e => ?_, I.free, I.freeC, fun p hp => ?_, tracked ⟨oc, hoc, I.freeC x c hc⟩ hs, by simpa using I.len⟩ ⟨c, hs, .inr hc⟩
    · exact (hs.2 b (Nat.ne_of_lt (Nat.lt_of_lt_of_le (Heap.lt_size e) (I.ok.cab x c hfn hc)))).trans (I.base.keep b o e n hb hx)
    · obtain ⟨sl, e1⟩ := I.base.slot b o e n hb hx
      exact ⟨sl, (hs.2 b (Nat.ne_of_lt (Nat.lt_of_lt_of_le (Heap.lt_size e) (I.ok.cab x c hfn hc)))).trans e1⟩
    · obtain ⟨o', e1⟩ := I.base.there b o e hx
      exact ⟨o', (hs.2 b (Nat.ne_of_lt (Nat.lt_of_lt_of_le (Heap.lt_size e) (I.ok.cab x c hfn hc)))).trans e1⟩
    · by_cases hj : j = i
      · subst hj
        rw [hi] at e1; cases e1
        rw [List.getElem?_set_self hiσ] at e2
        cases e2
        exact ⟨u, r, .inr ⟨.inl hk, c, hc, hc'⟩⟩
      · rw [List.getElem?_set_ne (Ne.symm hj)] at e2
        obtain ⟨u', r', q⟩ := hl j y v' e1 e2 e3
        refine ⟨u', r', ?_⟩
        rcases q with q | ⟨k, c', e, z'⟩
        · exact .inl q
        · refine .inr ⟨k, c', e, z'.sameBut hs ?_⟩
          rintro rfl
          exact hj (nodup_ix hN e1 (I.ok.inj _ _ _ e hc ▸ hi))
    · by_cases hcc : c' = c
      · subst hcc; exact ⟨_, hc'⟩
      · obtain ⟨w2, z2⟩ := I.cell y c' e
        exact ⟨w2, z2.sameBut hs hcc⟩
    · obtain ⟨e, n, ne, nf, d⟩ := I.pin p hp
      refine ⟨(hs.2 p.1 ?_).trans e, n, ne, nf, d⟩
      intro q
      rw [q, hoc] at e
      have q' : oc = p.2 := Option.some.inj e
      exact d w' (by rw [← q']; exact hocd)
theorem store_ok {M : Model} {A : Around} {E : Value → Shared → Prop} {i : Nat} {x : Str} {v : V} {u : Value} {Q : Unit → Shared → Prop} (I : Inv X pins σ H s) (hN : X.N.Nodup) (hi : X.N[i]? = some x) (hx : Loc X.env.scope x) (r : RelV v u)
    (h : ∀ s', Inv X pins (σ.set i (some v)) H s' → Q () s') (hf : X.fn x = true ∨ X.env.scope.names.lookup x = some .local := by first | exact .inl rfl | exact .inr rfl | assumption) : wpAny M A (storeName X.env x u) Q E s :=
  store_ok2 I hN hi hx r (fun s' I' _ => h s' I') hf
theorem Inv.call' {s' : Shared} {ch : List Addr} (I : Inv X pins σ H s) (ho : s'.os = s.os) (u : Un (frs X.stack) ch H H' s.heap s'.heap) (hok : HOk X.prog X.w H' s'.heap) (hg : AllBare s'.gens)
    (hch : ∀ b ∈ ch, (b ∈ X.ex ∨ X.s₀.heap.objs.size ≤ b) ∧ b ≠ X.env.locals ∧ (∀ x c, X.env.cells.lookup x = some c → c ≠ b) ∧ ∀ p ∈ X.pn ++ pins, p.1 ≠ b) : Inv X pins σ H' s' := by
  obtain ⟨h', g', d', t', o'⟩ := s'
  have e : o' = s.os := ho
  subst e
  exact I.call (g' := g') (t' := t') (d' := d') u hok hg hch
end
abbrev XK := Value → Option Addr → Hp → Prop
abbrev St := List (Option V)
abbrev VK := V → Hp → Prop
abbrev TE := St → Hp → VK → Prop
abbrev TT := St → Hp → (Bool → Hp → Prop) → Prop
abbrev TA := St → Hp → (List V → Hp → Prop) → Prop
structure Ends where
  nx : St → Hp → Prop
  rt : VK
  bk : St → Hp → Prop := fun _ _ => False
  ct : St → Hp → Prop := fun _ _ => False
abbrev TS := Ends → St → Hp → Prop
def EP (X : Cx) (pins : List (Addr × Obj)) (σ : St) (Q : VK) (u : Value) (s' : Shared) : Prop := ∃ v H', Inv X pins σ H' s' ∧ RelV v u ∧ Q v H'
def TP (X : Cx) (pins : List (Addr × Obj)) (σ : St) (Q : Bool → Hp → Prop) (b : Bool) (s' : Shared) : Prop := ∃ H', Inv X pins σ H' s' ∧ Q b H'
def AP (X : Cx) (pins : List (Addr × Obj)) (σ : St) (Q : List V → Hp → Prop) (us : List Value) (s' : Shared) : Prop := ∃ vs H', Inv X pins σ H' s' ∧ Vals vs us ∧ Q vs H'
def SP (X : Cx) (pins : List (Addr × Obj)) (D : Ends) (f : Flow) (s' : Shared) : Prop :=
  match f with
  | .next => ∃ σ' H', Inv X pins σ' H' s' ∧ D.nx σ' H'
  | .brk => ∃ σ' H', Inv X pins σ' H' s' ∧ D.bk σ' H'
  | .cont => ∃ σ' H', Inv X pins σ' H' s' ∧ D.ct σ' H'
  | .ret u => ∃ v σ' H', Inv X pins σ' H' s' ∧ RelV v u ∧ D.rt v H'
def PE (X : Cx) (e : Expr) (t : TE) : Prop :=
  ∀ (pins : List (Addr × Obj)) (s : Shared) (σ : St) (H : Hp) (Q : VK), Inv X pins σ H s → t σ H Q → wpAny (model X.prog X.w) X.A (eval e X.env) (EP X pins σ Q) X.xe s
def PT (X : Cx) (e : Expr) (t : TT) : Prop :=
  ∀ (pins : List (Addr × Obj)) (s : Shared) (σ : St) (H : Hp) (Q : Bool → Hp → Prop), Inv X pins σ H s → t σ H Q → wpAny (model X.prog X.w) X.A (isTrue e X.env (eval e X.env)) (TP X pins σ Q) X.xe s
def PW (X : Cx) (e : Expr) (t : TT) : Prop :=
  ∀ (whole : Sem Value) (pins : List (Addr × Obj)) (s : Shared) (σ : St) (H : Hp) (Q : Bool → Hp → Prop), Inv X pins σ H s → t σ H Q → wpAny (model X.prog X.w) X.A (isTrue e X.env whole) (TP X pins σ Q) X.xe s
theorem PW.pt {X : Cx} {e : Expr} {t : TT} (h : PW X e t) : PT X e t := h _
def PA (X : Cx) (es : List Expr) (t : TA) : Prop :=
  ∀ (pos : Pos) (pins : List (Addr × Obj)) (s : Shared) (σ : St) (H : Hp) (Q : List V → Hp → Prop), Inv X pins σ H s → t σ H Q → wpAny (model X.prog X.w) X.A (spliced (backTo pos (starEach es X.env))) (AP X pins σ Q) X.xe s
def PS (X : Cx) (st : Stmt) (t : TS) : Prop :=
  ∀ (pins : List (Addr × Obj)) (s : Shared) (σ : St) (H : Hp) (D : Ends), Inv X pins σ H s → t D σ H → wpAny (model X.prog X.w) X.A (exec st X.env) (SP X pins D) X.xe s
def PSs (X : Cx) (st : List Stmt) (t : TS) : Prop :=
  ∀ (pins : List (Addr × Obj)) (s : Shared) (σ : St) (H : Hp) (D : Ends), Inv X pins σ H s → t D σ H → wpAny (model X.prog X.w) X.A (execs st X.env) (SP X pins D) X.xe s
theorem thn {α : Type} {t : Sem α} {Q Q' : α → Shared → Prop} {M : Model} {A : Around} {E : Value → Shared → Prop} {s : Shared} (h : wpAny M A t Q E s) (hQ : ∀ a s, Q a s → Q' a s) : wpAny M A t Q' E s := wpAny_mono h hQ fun _ _ x => x
end L2
namespace L2
open PySem PySem.Spec PyProof.Rows
section
variable {X : Cx}
def tVar (i : Nat) : TE := fun σ H Q => ∃ v, σ[i]? = some (some v) ∧ Q v H
def tC (v : V) : TE := fun _ H Q => Q v H
theorem pe_var {i : Nat} {x : Str} {pos : Pos} (hN : X.N[i]? = some x) (hv : Vis X.env.scope x) (hd : (x == ("__debug__" : Str)) = false := by decide) (hcd : (x == ("__classdict__" : Str)) = false := by decide) : PE X (.Name x pos) (tVar i) := by
  intro pins s σ H Q I h
  obtain ⟨v, e, h⟩ := h
  obtain ⟨m, hn, hl⟩ := I.loc
  obtain ⟨u, r, l⟩ := hl i x v hN e hv
  have fin : EP X pins σ Q u s := ⟨v, H, I, r, h⟩
  rcases l with ⟨hk, hm⟩ | ⟨hk, c, hc, hcell⟩
  · exact wpAny_Name (wpAny_loadName_local I.ok.kind hk hn hm fin) hd
  · rcases hk with hk | hk
    · exact wpAny_Name (wpAny_loadName_cell I.ok.kind hk hc hcell fin) hd
    · exact wpAny_Name (wpAny_loadName_free I.ok.kind hk hc hcell fin hcd) hd
theorem pe_int {i j pos} : PE X (.Constant (.int i) j pos) (tC (.int i)) := fun _ _ _ H _ I h => wpAny_Constant_int ⟨.int i, H, I.tok _, ⟨_, rfl⟩, h⟩
theorem pe_bl {b j pos} : PE X (.Constant (.bool b) j pos) (tC (.bl b)) := fun _ _ _ H _ I h => Constant_bool ⟨.bl b, H, I, rfl, h⟩
theorem pe_non {j pos} : PE X (.Constant .none j pos) (tC .non) := fun _ _ _ H _ I h => Constant_none ⟨.non, H, I, rfl, h⟩
theorem pe_str {x j pos} : PE X (.Constant (.str x) j pos) (tC (.str x)) := fun _ _ _ H _ I h => Calls.Constant_str ⟨.str x, H, I.tok _, ⟨_, rfl⟩, h⟩
def Gl (X : Cx) (x : Str) : Prop := X.env.kindOf x = some .globalImplicit
theorem ld_glob {E : Value → Shared → Prop} {pins : List (Addr × Obj)} {s : Shared} {σ : St} {H : Hp} {x : Str} {u : Value} {pos : Pos} {Q : Value → Shared → Prop} (I : Inv X pins σ H s) (hg : Gl X x) (hm : X.mg x = some u) (h : Q u s)
    (hd : (x == ("__debug__" : Str)) = false := by decide) : wpAny (model X.prog X.w) X.A (eval (.Name x pos) X.env) Q E s :=
  Calls.Name_function_global I.ok.kind hg (Calls.loadGlobal_global (by rw [I.ok.glob]; exact I.mod.glob.keeps I.bk) hm h) hd
theorem ld_blt {E : Value → Shared → Prop} {pins : List (Addr × Obj)} {s : Shared} {σ : St} {H : Hp} {x : Str} {u : Value} {pos : Pos} {Q : Value → Shared → Prop} (I : Inv X pins σ H s) (hg : Gl X x) (hm : X.mg x = none) (hv : bootBuiltins x = some u) (h : Q u s)
    (hn : x ≠ "__name__" := by decide) (hd : (x == ("__debug__" : Str)) = false := by decide) : wpAny (model X.prog X.w) X.A (eval (.Name x pos) X.env) Q E s := by
  obtain ⟨mb, h1, h2⟩ := I.mod.blt
  exact Calls.Name_function_global I.ok.kind hg (Calls.loadGlobal_builtin (by rw [I.ok.glob]; exact I.mod.glob.keeps I.bk) hm (by rw [I.ok.blt]; exact h1.keeps I.bk) ((h2 x hn).trans hv) h) hd
theorem pe_glob {x : Str} {v : V} {u : Value} {pos : Pos} (hg : Gl X x) (hm : X.mg x = some u) (r : RelV v u) (hd : (x == ("__debug__" : Str)) = false := by decide) : PE X (.Name x pos) (tC v) :=
  fun _ _ _ H _ I h => ld_glob I hg hm ⟨v, H, I, r, h⟩ hd
theorem pe_bltn {x : Str} {v : V} {u : Value} {pos : Pos} (hg : Gl X x) (hm : X.mg x = none) (hv : bootBuiltins x = some u) (r : RelV v u) (hn : x ≠ "__name__" := by decide) (hd : (x == ("__debug__" : Str)) = false := by decide) : PE X (.Name x pos) (tC v) :=
  fun _ _ _ H _ I h => ld_blt I hg hm hv ⟨v, H, I, r, h⟩ hn hd
variable {a b : Expr} {ta tb : TE} {pos : Pos}
def PC (X : Cx) (op : CmpOp) (a b : Expr) (t : TE) : Prop :=
  ∀ (pins : List (Addr × Obj)) (s : Shared) (σ : St) (H : Hp) (Q : VK), Inv X pins σ H s → t σ H Q →
    wpAny (model X.prog X.w) X.A (eval a X.env) (fun v s₁ => wpAny (model X.prog X.w) X.A (eval b X.env) (fun u s₂ => wpAny (model X.prog X.w) X.A (compareOp op v u) (EP X pins σ Q) X.xe s₂) X.xe s₁) X.xe s
theorem nobehind (b : Expr) {op : CmpOp} (h : op ≠ .In) (h2 : op ≠ .NotIn) : behindInMarks op b = false := by
  have e1 : (op == CmpOp.In) = false := by cases op <;> first | rfl | exact absurd rfl h
  have e2 : (op == CmpOp.NotIn) = false := by cases op <;> first | rfl | exact absurd rfl h2
  cases b <;> simp [behindInMarks, e1, e2]
def tB (t : TE) : TT := fun σ H Q => t σ H fun x H1 => ∃ c, x = .bl c ∧ Q c H1
theorem pt_cmp {op : CmpOp} {t : TE} (h : PC X op a b t) (h1 : behindInMarks op b = false := by first | exact nobehind _ (by decide) (by decide) | rfl) : PT X (.Compare a [op] [b] pos) (tB t) := by
  intro pins s σ H Q I hw
  refine wpAny_isTrue_Compare1 (thn (h pins s σ H _ I hw) fun v s1 h1 => thn h1 fun u s2 h2 => thn h2 fun c s3 ⟨x, H1, I1, r1, q1⟩ => ?_) h1
  obtain ⟨d, rfl, q⟩ := q1
  cases r1
  exact wpAny_truthy_bool ⟨H1, I1, q⟩
theorem pt_val {e : Expr} {t : TE} (h : PE X e t) (he : ∀ whole, isTrue e X.env whole = (do let v ← whole; standAt e.pos; holding [v] (truthy v)) := by intro _; rfl) : PT X e (tB t) := by
  intro pins s σ H Q I hw
  refine isTrue_plain (thn (h pins s σ H _ I hw) fun v s1 ⟨x, H1, I1, r1, q1⟩ => ?_) (he _)
  obtain ⟨d, rfl, q⟩ := q1
  cases r1
  exact wpAny_truthy_bool ⟨H1, I1, q⟩
variable {tA tB' : TT} {rest : List Expr}
def tAnd (t u : TT) : TT := fun σ H Q => t σ H fun c H1 => if c = true then u σ H1 Q else Q false H1
def tOr (t u : TT) : TT := fun σ H Q => t σ H fun c H1 => if c = true then Q true H1 else u σ H1 Q
def tNot (t : TT) : TT := fun σ H Q => t σ H fun c H1 => Q (!c) H1
theorem pw_and1 (ha : PT X a tA) : PW X (.BoolOp .And [a] pos) tA := by
  intro wh pins s σ H Q I h
  refine isTrue_and (thn (ha pins s σ H Q I h) fun c s1 e => ?_)
  cases c with
  | true => exact isTrue_and_nil e
  | false => exact e
theorem pw_or1 (ha : PT X a tA) : PW X (.BoolOp .Or [a] pos) tA := by
  intro wh pins s σ H Q I h
  refine isTrue_or (thn (ha pins s σ H Q I h) fun c s1 e => ?_)
  cases c with
  | false => exact isTrue_or_nil e
  | true => exact e
theorem pw_and (ha : PT X a tA) (hb : PW X (.BoolOp .And (b :: rest) pos) tB') : PW X (.BoolOp .And (a :: b :: rest) pos) (tAnd tA tB') := by
  intro wh pins s σ H Q I h
  refine isTrue_and (thn (ha pins s σ H _ I h) fun c s1 ⟨H1, I1, q1⟩ => ?_)
  cases c with
  | true => exact hb wh pins s1 σ H1 Q I1 q1
  | false => exact ⟨H1, I1, q1⟩
theorem pw_or (ha : PT X a tA) (hb : PW X (.BoolOp .Or (b :: rest) pos) tB') : PW X (.BoolOp .Or (a :: b :: rest) pos) (tOr tA tB') := by
  intro wh pins s σ H Q I h
  refine isTrue_or (thn (ha pins s σ H _ I h) fun c s1 ⟨H1, I1, q1⟩ => ?_)
  cases c with
  | true => exact ⟨H1, I1, q1⟩
  | false => exact hb wh pins s1 σ H1 Q I1 q1
theorem pt_not (ha : PT X a tA) : PT X (.UnaryOp .Not a pos) (tNot tA) := by
  intro pins s σ H Q I h
  exact isTrue_not (ha pins s σ H (fun c H1 => Q (!c) H1) I h)
def tAndV (ta tb : TE) : TE := fun σ H Q => ta σ H fun x H1 => ∃ c, x = .bl c ∧ if c = true then tb σ H1 Q else Q (.bl false) H1
def tOrV (ta tb : TE) : TE := fun σ H Q => ta σ H fun x H1 => ∃ c, x = .bl c ∧ if c = true then Q (.bl true) H1 else tb σ H1 Q
def tNotV (ta : TE) : TE := fun σ H Q => ta σ H fun x H1 => ∃ c, x = .bl c ∧ Q (.bl (!c)) H1
theorem pe_one {op} {t : TE} (h : PE X a t) : PE X (.BoolOp op [a] pos) t := fun pins s σ H Q I hw => BoolOp_one (h pins s σ H Q I hw)
theorem pe_and (ha : PE X a ta) (hb : PE X (.BoolOp .And (b :: rest) pos) tb) : PE X (.BoolOp .And (a :: b :: rest) pos) (tAndV ta tb) := by
  intro pins s σ H Q I h
  refine BoolOp_and (thn (ha pins s σ H _ I h) fun v s1 ⟨x, H1, I1, r1, q1⟩ => ?_)
  obtain ⟨c, rfl, q1⟩ := q1
  cases r1
  refine wpAny_truthy_bool ?_
  cases c with
  | true => exact hb pins s1 σ H1 Q I1 q1
  | false => exact ⟨.bl false, H1, I1, rfl, q1⟩
theorem pe_or (ha : PE X a ta) (hb : PE X (.BoolOp .Or (b :: rest) pos) tb) : PE X (.BoolOp .Or (a :: b :: rest) pos) (tOrV ta tb) := by
  intro pins s σ H Q I h
  refine BoolOp_or (thn (ha pins s σ H _ I h) fun v s1 ⟨x, H1, I1, r1, q1⟩ => ?_)
  obtain ⟨c, rfl, q1⟩ := q1
  cases r1
  refine wpAny_truthy_bool ?_
  cases c with
  | false => exact hb pins s1 σ H1 Q I1 q1
  | true => exact ⟨.bl true, H1, I1, rfl, q1⟩
theorem pe_not (ha : PE X a ta) : PE X (.UnaryOp .Not a pos) (tNotV ta) := by
  intro pins s σ H Q I h
  refine UnaryOp_ (thn (ha pins s σ H _ I h) fun v s1 ⟨x, H1, I1, r1, q1⟩ => ?_)
  obtain ⟨c, rfl, q1⟩ := q1
  cases r1
  exact not_of (wpAny_truthy_bool ⟨.bl (!c), H1, I1, rfl, q1⟩)
def tIf (t : TT) (ta tb : TE) : TE := fun σ H Q => t σ H fun c H1 => if c = true then ta σ H1 Q else tb σ H1 Q
theorem pe_ifExp {c : Expr} (hc : PT X c tA) (ha : PE X a ta) (hb : PE X b tb) : PE X (.IfExp c a b pos) (tIf tA ta tb) := by
  intro pins s σ H Q I h
  refine wpAny_IfExp (thn (hc pins s σ H _ I h) fun d s1 ⟨H1, I1, q1⟩ => ?_)
  cases d with
  | true => exact ha pins s1 σ H1 Q I1 q1
  | false => exact hb pins s1 σ H1 Q I1 q1
end
end L2
namespace L2
open PySem PySem.Spec PyProof.Rows
def SqL (K : PySem.W.Frag) (H : Hp) (a : Addr) (xs : List V) : Prop :=
  Rd H a (.lst xs) ∨
    ∃ (o : Obj) (its : Array Value) (n : Nat), K.lookup a = some o ∧ o.cls = .type "list" ∧ o.dict = none ∧ o.data = .seq its n ∧ its.size ≤ sizeLine ∧ Vals xs its.toList
def SqT (K : PySem.W.Frag) (H : Hp) (a : Addr) (xs : List V) : Prop :=
  Rd H a (.tup xs) ∨
    ∃ (o : Obj) (its : Array Value) (n : Nat), K.lookup a = some o ∧ o.cls = .type "tuple" ∧ o.data = .seq its n ∧ its.size ≤ sizeLine ∧ Vals xs its.toList
def absV : Value → Option V
  | .none => some .non
  | .bool b => some (.bl b)
  | .int i _ => some (.int i)
  | .str x _ => some (.str x)
  | .bytes b _ => some (.byt b)
  | .float b _ => some (.flt b)
  | .ref a => some (.ref a)
  | .type n => some (.ty n)
  | _ => none
theorem RelV.abs {x : V} {u : Value} (r : RelV x u) : absV u = some x := by
  cases x with
  | non => cases r; rfl
  | bl _ => cases r; rfl
  | int _ => obtain ⟨t, rfl⟩ := r; rfl
  | str _ => obtain ⟨t, rfl⟩ := r; rfl
  | byt _ => obtain ⟨t, rfl⟩ := r; rfl
  | flt _ => obtain ⟨t, rfl⟩ := r; rfl
  | ref _ => cases r; rfl
  | ty _ => cases r; rfl
theorem RelV.inj {x y : V} {u : Value} (r : RelV x u) (q : RelV y u) : x = y := Option.some.inj (r.abs.symm.trans q.abs)
theorem Vals.inj : ∀ {xs ys : List V} {us : List Value}, Vals xs us → Vals ys us → xs = ys
  | _, _, _, .nil, .nil => rfl
  | _, _, _, .cons r t, .cons r' t' => by rw [r.inj r', Vals.inj t t']
section
variable {X : Cx} {pins : List (Addr × Obj)} {σ : St} {H : Hp} {s : Shared} {a : Addr} {xs ys : List V}
theorem SqL.of {K : PySem.W.Frag} (h : H a = some (.lst xs)) : SqL K H a xs := .inl (.inl h)
theorem SqT.of {K : PySem.W.Frag} (h : H a = some (.tup xs)) : SqT K H a xs := .inl (.inl h)
theorem Inv.list (I : Inv X pins σ H s) (h : SqL X.K H a xs) : ∃ its : List Value, Vals xs its ∧ PlainL s.heap a its.toArray ∧ xs.length ≤ sizeLine := by
  rcases h with h | ⟨o, its, n, hk, hc, hd, hs, hz, r⟩
  · obtain ⟨z, its, n, r, e⟩ := h.ok I.hok
    exact ⟨its, r, ⟨_, n, e, rfl, rfl, rfl⟩, z⟩
  · refine ⟨its.toList, r, ⟨o, n, I.kIn a o hk, hc, hd, by simpa using hs⟩, ?_⟩
    have e := r.length
    simp only [Array.length_toList] at e
    omega
theorem Inv.tuple (I : Inv X pins σ H s) (h : SqT X.K H a xs) : ∃ its : List Value, Vals xs its ∧ IsTup s.heap a its.toArray ∧ xs.length ≤ sizeLine := by
  rcases h with h | ⟨o, its, n, hk, hc, hs, hz, r⟩
  · obtain ⟨z, its, r, p⟩ := h.ok I.hok
    exact ⟨its, r, p, z⟩
  · refine ⟨its.toList, r, ⟨o, I.kIn a o hk, hc, n, by simpa using hs⟩, ?_⟩
    have e := r.length
    simp only [Array.length_toList] at e
    omega
theorem Inv.list_inj (I : Inv X pins σ H s) (h : SqL X.K H a xs) (h' : SqL X.K H a ys) : xs = ys := by
  obtain ⟨its, r, ⟨o, n, e, _, _, d⟩, _⟩ := I.list h
  obtain ⟨its', r', ⟨o', n', e', _, _, d'⟩, _⟩ := I.list h'
  rw [e] at e'; cases e'
  rw [d] at d'
  injection d' with d1 _
  have : its = its' := by simpa using congrArg Array.toList d1
  subst this
  exact r.inj r'
end
abbrev Cx.wish (X : Cx) (E : Value → Shared → Prop) : Cx := { X with xe := E }
abbrev Cx.nox (X : Cx) : Cx := X.wish fun _ _ => False
theorem Cx.Ok.wish {X : Cx} (ok : X.Ok) (E : Value → Shared → Prop) : (X.wish E).Ok :=
  ⟨ok.mod, ok.kind, ok.glob, ok.blt, ok.above, ok.inj, ok.has, ok.cab, ok.hd, ok.frames, ok.stk, ok.exf, ok.bs, ok.bsz, ok.noex, ok.exfs, ok.funs, ok.frf⟩
theorem Cx.Ok.unwish {X : Cx} {E : Value → Shared → Prop} (ok : (X.wish E).Ok) : X.Ok :=
  ⟨ok.mod, ok.kind, ok.glob, ok.blt, ok.above, ok.inj, ok.has, ok.cab, ok.hd, ok.frames, ok.stk, ok.exf, ok.bs, ok.bsz, ok.noex, ok.exfs, ok.funs, ok.frf⟩
section
variable {X : Cx} {pins : List (Addr × Obj)} {σ : St} {H : Hp} {s : Shared} {E : Value → Shared → Prop}
theorem Inv.wish (I : Inv X pins σ H s) (E : Value → Shared → Prop) : Inv (X.wish E) pins σ H s := ⟨I.ok.wish E, I.os, I.bare, I.base, I.loc, I.cell, I.free, I.freeC, I.pin, I.hok, I.len⟩
theorem Inv.unwish (I : Inv (X.wish E) pins σ H s) : Inv X pins σ H s := ⟨I.ok.unwish, I.os, I.bare, I.base, I.loc, I.cell, I.free, I.freeC, I.pin, I.hok, I.len⟩
theorem SP.unwish {D : Ends} {f : Flow} {s' : Shared} (h : SP (X.wish E) pins D f s') : SP X pins D f s' := by
  cases f with
  | next => obtain ⟨σ', H', I, q⟩ := h; exact ⟨σ', H', I.unwish, q⟩
  | brk => obtain ⟨σ', H', I, q⟩ := h; exact ⟨σ', H', I.unwish, q⟩
  | cont => obtain ⟨σ', H', I, q⟩ := h; exact ⟨σ', H', I.unwish, q⟩
  | ret u => obtain ⟨v, σ', H', I, r, q⟩ := h; exact ⟨v, σ', H', I.unwish, r, q⟩
theorem PE.nox {e : Expr} {t : TE} (h : PE X.nox e t) : PE X e t := fun pins s σ H Q I hw =>
  wpAny_mono (h pins s σ H Q (I.wish _) hw) (fun _ _ ⟨v, H', I', r, q⟩ => ⟨v, H', I'.unwish, r, q⟩) fun _ _ z => False.elim z
theorem PT.nox {e : Expr} {t : TT} (h : PT X.nox e t) : PT X e t := fun pins s σ H Q I hw =>
  wpAny_mono (h pins s σ H Q (I.wish _) hw) (fun _ _ ⟨H', I', q⟩ => ⟨H', I'.unwish, q⟩) fun _ _ z => False.elim z
theorem PSs.nox {st : List Stmt} {t : TS} (h : PSs X.nox st t) : PSs X st t := fun pins s σ H D I hw =>
  wpAny_mono (h pins s σ H D (I.wish _) hw) (fun _ _ q => q.unwish) fun _ _ z => False.elim z
end
section
variable {X : Cx} {st : Stmt} {rest : List Stmt} {t u : TS} {e : Expr} {te : TE} {pos : Pos}
def tNext : TS := fun D σ H => D.nx σ H
def tSeq (t u : TS) : TS := fun D σ H => t { D with nx := u D } σ H
theorem pss_nil : PSs X [] tNext := fun _ _ σ H _ I h => wpAny_execs_nil ⟨σ, H, I, h⟩
theorem pss_cons (h1 : PS X st t) (h2 : PSs X rest u) : PSs X (st :: rest) (tSeq t u) := by
  intro pins s σ H D I h
  refine wpAny_execs_cons (thn (h1 pins s σ H { D with nx := u D } I h) fun f s1 q => ?_)
  cases f with
  | next =>
    obtain ⟨σ', H', I', q⟩ := q
    exact h2 pins s1 σ' H' D I' q
  | ret v => exact q
  | brk => exact q
  | cont => exact q
theorem pss_one (h1 : PS X st t) : PSs X [st] t := by
  intro pins s σ H D I h
  refine wpAny_execs_cons (thn (h1 pins s σ H D I h) fun f s1 q => ?_)
  cases f with
  | next => exact wpAny_execs_nil q
  | ret v => exact q
  | brk => exact q
  | cont => exact q
def tBreak : TS := fun D σ H => D.bk σ H
def tCont : TS := fun D σ H => D.ct σ H
theorem Inv.quiet {pins : List (Addr × Obj)} {σ : St} {H : Hp} {s : Shared} (I : Inv X pins σ H s) : interactive X.env = false := by simp [interactive, I.ok.kind]
def tDrop (te : TE) : TS := fun D σ H => te σ H fun _ H1 => D.nx σ H1
theorem ps_expr (he : PE X e te) (hs : swapsWith e none pos.line X.env = pure false := by rfl) : PS X (.Expr e pos) (tDrop te) := by
  intro pins s σ H D I h
  exact wpAny_Expr_any (thn (he pins s σ H _ I h) fun v s1 ⟨x, H1, I1, r1, q1⟩ => ⟨σ, H1, I1, q1⟩) I.quiet hs
def tRet (te : TE) : TS := fun D σ H => te σ H D.rt
theorem ps_ret (he : PE X e te) : PS X (.Return (some e) pos) (tRet te) := by
  intro pins s σ H D I h
  exact wpAny_Return_some (thn (he pins s σ H _ I h) fun v s1 ⟨x, H1, I1, r1, q1⟩ => ⟨x, σ, H1, I1, r1, q1⟩)
def tRetN : TS := fun D _ H => D.rt .non H
def tIfS (c : TT) (t u : TS) : TS := fun D σ H => c σ H fun b H1 => if b = true then t D σ H1 else u D σ H1
theorem ps_if {c : Expr} {a b : List Stmt} {tc : TT} (hc : PT X c tc) (ha : PSs X a t) (hb : PSs X b u) : PS X (.If c a b pos) (tIfS tc t u) := by
  intro pins s σ H D I h
  refine wpAny_If (thn (hc pins s σ H _ I h) fun d s1 ⟨H1, I1, q1⟩ => ?_)
  cases d with
  | true => exact ha pins s1 σ H1 D I1 q1
  | false => exact hb pins s1 σ H1 D I1 q1
def tNever : TS := fun _ _ _ => False
theorem pss_never {sts : List Stmt} : PSs X sts tNever := fun _ _ _ _ _ _ h => h.elim
end
abbrev TG := V → St → Hp → (St → Hp → Prop) → Prop
abbrev TGs := List V → St → Hp → (St → Hp → Prop) → Prop
def PG (X : Cx) (target : Expr) (t : TG) : Prop :=
  ∀ (pins : List (Addr × Obj)) (s : Shared) (σ : St) (H : Hp) (v : V) (u : Value) (Q : St → Hp → Prop), Inv X pins σ H s → RelV v u → t v σ H Q →
    wpAny (model X.prog X.w) X.A (assign target X.env u) (fun _ s' => ∃ σ' H', Inv X pins σ' H' s' ∧ Q σ' H') X.xe s
def PGs (X : Cx) (ts : List Expr) (t : TGs) : Prop :=
  ∀ (pins : List (Addr × Obj)) (s : Shared) (σ : St) (H : Hp) (vs : List V) (us : List Value) (Q : St → Hp → Prop), Inv X pins σ H s → Vals vs us → t vs σ H Q →
    wpAny (model X.prog X.w) X.A (assignInOrder ((assignEach ts X.env).map (·.2)) us) (fun _ s' => ∃ σ' H', Inv X pins σ' H' s' ∧ Q σ' H') X.xe s
abbrev TSet := V → V → V → Hp → (Hp → Prop) → Prop
def PSet (X : Cx) (t : TSet) : Prop :=
  ∀ (pins : List (Addr × Obj)) (s : Shared) (σ : St) (H : Hp) (o i v : V) (ov iv u : Value) (Q : Hp → Prop), Inv X pins σ H s → RelV o ov → RelV i iv → RelV v u → t o i v H Q →
    wpAny (model X.prog X.w) X.A (setItem ov iv u) (fun _ s' => ∃ H', Inv X pins σ H' s' ∧ Q H') X.xe s
abbrev TIp := V → V → Hp → VK → Prop
section
variable {X : Cx} {pos : Pos}
def gName (i : Nat) : TG := fun v σ H Q => Q (σ.set i (some v)) H
theorem pg_name {i : Nat} {x : Str} (hN : X.N.Nodup) (hi : X.N[i]? = some x) (hx : Loc X.env.scope x) (hf : X.fn x = true ∨ X.env.scope.names.lookup x = some .local := by first | exact .inl rfl | exact .inr rfl | assumption) : PG X (.Name x pos) (gName i) := by
  intro pins s σ H v u Q I r h
  exact wpAny_assign_Name (store_ok I hN hi hx r (fun s' I' => ⟨_, H, I', h⟩) hf)
def gNil : TGs := fun vs σ H Q => vs = [] ∧ Q σ H
def gCons (t : TG) (u : TGs) : TGs := fun vs σ H Q => ∃ v r, vs = v :: r ∧ t v σ H fun σ' H' => u r σ' H' Q
theorem pgs_nil : PGs X [] gNil := by
  intro pins s σ H vs us Q I r h
  obtain ⟨e, h⟩ := h
  subst e
  cases r
  exact assignInOrder_nil ⟨σ, H, I, h⟩
theorem pgs_cons {e : Expr} {es : List Expr} {t : TG} {u : TGs} (h1 : PG X e t) (h2 : PGs X es u)
    (hs : (assignEach (e :: es) X.env).map (·.2) = assign e X.env :: (assignEach es X.env).map (·.2) := by rfl) : PGs X (e :: es) (gCons t u) := by
  intro pins s σ H vs us Q I r h
  obtain ⟨v, vr, e1, h⟩ := h
  subst e1
  cases r with
  | cons r rr =>
    rw [hs]
    refine assignInOrder_cons (thn (h1 pins s σ H _ _ _ I r h) fun _ s1 ⟨σ1, H1, I1, q1⟩ => ?_)
    exact h2 pins s1 σ1 H1 _ _ Q I1 rr q1
def gTup (K : PySem.W.Frag) (n : Nat) (t : TGs) : TG := fun v σ H Q => ∃ a xs, v = .ref a ∧ SqT K H a xs ∧ xs.length = n ∧ t xs σ H Q
theorem pg_tup {es : List Expr} {k : Nat} {t : TGs} {n : Nat} (hc : Calm X) (h : PGs X es t)
    (hn : (assignEach es X.env).length = n := by rfl) (hst : (assignEach es X.env).findIdx? (·.1) = none := by rfl) : PG X (.Tuple es k pos) (gTup X.K n t) := by
  intro pins s σ H v u Q I r hw
  obtain ⟨a, xs, e1, hq, hl, hw⟩ := hw
  subst e1
  cases r
  obtain ⟨its, rv, ht, hz⟩ := I.tuple hq
  refine z424 (I.calm hc) ht (by simp [hn, ← hl, rv.length]) hst fun h' hx => ?_
  have I1 : Inv X pins σ H { s with heap := h' } := I.kept (t' := s.toks) fun b o e => hx b o (Nat.ne_of_lt (Heap.lt_size e)) e
  exact h pins _ σ H xs _ Q I1 (by simpa using rv) hw
def gSub (to ti : TE) (t : TSet) : TG := fun v σ H Q => to σ H fun o H1 => ti σ H1 fun i H2 => t o i v H2 fun H3 => Q σ H3
theorem pg_sub {o i : Expr} {to ti : TE} {t : TSet} (ho : PE X o to) (hi : PE X i ti) (hs : PSet X t)
    (ha : ∀ v, assign (.Subscript o i pos) X.env v = (do
      let ov ← holding [v] (eval o X.env)
      let iv ← holding [v, ov] (eval i X.env)
      standAt pos
      holding [v, ov, iv] (setItem ov iv v)
      release [v, ov, iv] []) := by intro _; rfl) : PG X (.Subscript o i pos) (gSub to ti t) := by
  intro pins s σ H v u Q I r h
  rw [ha]
  refine wpAny_bind (wpAny_holding (thn (ho pins s σ H _ I h) fun ov s1 ⟨x, H1, I1, r1, q1⟩ => ?_))
  refine wpAny_bind (wpAny_holding (thn (hi pins s1 σ H1 _ I1 q1) fun iv s2 ⟨y, H2, I2, r2, q2⟩ => ?_))
  refine wpAny_bind (wpAny_standAt (wpAny_bind (wpAny_holding (thn (hs pins s2 σ H2 x y v ov iv u _ I2 r1 r2 r q2) fun _ s3 ⟨H3, I3, q3⟩ => ?_))))
  exact wpAny_release ⟨σ, H3, I3, q3⟩
def tAsg (te : TE) (g : TG) : TS := fun D σ H => te σ H fun x H1 => g x σ H1 D.nx
theorem ps_asg {tg e : Expr} {te : TE} {g : TG} (he : PE X e te) (hg : PG X tg g) (hs : swapsWithSole [tg] e pos.line X.env = pure false := by rfl) (hw : swappedStores [tg] e X.env = pure none := by rfl)
    (h1 : (assignEach [tg] X.env).map (·.2) = [assign tg X.env] := by rfl) : PS X (.Assign [tg] e pos) (tAsg te g) := by
  intro pins s σ H D I h
  refine wpAny_Assign_stores (thn (he pins s σ H _ I h) fun v s1 ⟨x, H1, I1, r1, q1⟩ => ?_) hs hw
  rw [h1]
  exact thn (hg pins s1 σ H1 x v _ I1 r1 q1) fun _ s2 q => q
theorem ps_set {i : Nat} {x : Str} {e : Expr} {te : TE} {pos' : Pos} (hN : X.N.Nodup) (hi : X.N[i]? = some x) (hx : Loc X.env.scope x) (he : PE X e te) (hs : swapsWith e (some (.Name x pos')) pos.line X.env = pure false := by rfl) (hf : X.fn x = true ∨ X.env.scope.names.lookup x = some .local := by first | exact .inl rfl | exact .inr rfl | assumption) :
    PS X (.Assign [.Name x pos'] e pos) (tAsg te (gName i)) := by
  intro pins s σ H D I h
  refine wpAny_Assign_Name (thn (he pins s σ H _ I h) fun v s1 ⟨y, H1, I1, r1, q1⟩ => ?_) hs
  exact store_ok I1 hN hi hx r1 (fun s2 I2 => ⟨_, H1, I2, q1⟩) hf
def tAug (i : Nat) (te : TE) (ti : TIp) : TS := fun D σ H => ∃ x, σ[i]? = some (some x) ∧ te σ H fun y H1 => ti x y H1 fun z H2 => D.nx (σ.set i (some z)) H2
def ipI (f : Int → Int → Int) : TIp := fun x y H Q => ∃ i j, x = .int i ∧ y = .int j ∧ Q (.int (f i j)) H
end
section
variable {X : Cx} {pos : Pos}
def tWhile (c : TT) (tb : TS) : TS := fun D σ H => ∃ W : Nat → St → Hp → Prop, (∃ m, W m σ H) ∧ ∀ m σ H, W m σ H →
  c σ H fun b H1 => if b = true then ∃ N : St → Hp → Prop, (∀ σ' H', N σ' H' → ∃ m', m' < m ∧ W m' σ' H') ∧ tb { D with nx := N, ct := N, bk := D.nx } σ H1 else D.nx σ H1
theorem ps_while {c : Expr} {body : List Stmt} {tc : TT} {tb : TS} (hp : PassesOwn (model X.prog X.w) X.A X.env X.xe) (hc : PT X c tc) (hb : PSs X body tb) : PS X (.While c body [] pos) (tWhile tc tb) := by
  intro pins s σ H D I h
  obtain ⟨W, ⟨m0, w0⟩, turn⟩ := h
  refine wpAny_While (codeAny_whileLoop (fun n s' => ∃ σ' H', Inv X pins σ' H' s' ∧ W n σ' H') ?_ m0 ⟨σ, H, I, w0⟩)
  rintro n s1 ⟨σ1, H1, I1, w1⟩
  refine wpAny_passesOwn hp (thn (hc pins s1 σ1 H1 _ I1 (turn n σ1 H1 w1)) fun b s2 ⟨H2, I2, q2⟩ => ?_)
  cases b with
  | true =>
    obtain ⟨N, hN, q2⟩ := q2
    rw [if_pos rfl]
    refine wpAny_passesOwn hp (thn (hb pins s2 σ1 H2 _ I2 q2) fun f s3 q3 => ?_)
    cases f with
    | next =>
      obtain ⟨σ3, H3, I3, n3⟩ := q3
      obtain ⟨m', hm, w3⟩ := hN σ3 H3 n3
      exact ⟨m', hm, σ3, H3, I3, w3⟩
    | cont =>
      obtain ⟨σ3, H3, I3, n3⟩ := q3
      obtain ⟨m', hm, w3⟩ := hN σ3 H3 n3
      exact ⟨m', hm, σ3, H3, I3, w3⟩
    | brk => exact q3
    | ret v => exact q3
  | false =>
    rw [if_neg Bool.false_ne_true]
    exact wpAny_execs_nil ⟨σ1, H2, I2, q2⟩
end
structure It where
  go : Nat → Hp → Prop
  yld : Nat → Hp → V → Hp → Prop
  stop : Nat → Hp → Prop
def FpOk (X : Cx) (pins : List (Addr × Obj)) (H : Hp) (b : Addr) : Prop :=
  H b = none ∧ b ≠ X.env.locals ∧ b ∉ X.fs ∧ (b ∈ X.ex ∨ X.s₀.heap.objs.size ≤ b) ∧ (∀ x c, X.env.cells.lookup x = some c → c ≠ b) ∧ ∀ p ∈ X.pn ++ pins, p.1 ≠ b
theorem Inv.fpOk {X : Cx} {pins : List (Addr × Obj)} {σ : St} {H H' : Hp} {s : Shared} {b : Addr} (I : Inv X pins σ H s) (hb : s.heap.objs.size ≤ b) (hn : H' b = none) : FpOk X pins H' b := by
  refine ⟨hn, Nat.ne_of_gt (Nat.lt_of_lt_of_le I.lt hb), I.nofs hb, .inr (Nat.le_trans I.sz hb), fun x c e z => ?_, fun p hp z => ?_⟩
  · obtain ⟨v, q⟩ := I.cell x c e
    exact absurd (Nat.lt_of_lt_of_le q.lt (by rw [z]; exact hb)) (Nat.lt_irrefl _)
  · exact absurd (Nat.lt_of_lt_of_le (Heap.lt_size (I.pin p hp).1) (by rw [z]; exact hb)) (Nat.lt_irrefl _)
structure Turn (P : Program) (w : World) (K : PySem.W.Frag) (tg : Expr) (J : It) (fp : List Addr) (it : Addr) (tn : Nat → Heap → Prop) : Prop where
  mem : it ∈ fp
  obj : ∀ i h, tn i h → ∀ b ∈ fp, ∃ o, h.get? b = some o ∧ ∀ v, o.data ≠ .cell v
  keep : ∀ i h h', tn i h → (∀ b ∈ fp, ∀ o, h.get? b = some o → h'.get? b = some o) → tn i h'
  item : ∀ (X : Cx), X.prog = P → X.w = w → X.K = K → Calm X → ∀ (i : Nat) (pins : List (Addr × Obj)) (s : Shared) (σ : St) (H : Hp) (E : Value → Shared → Prop), Inv X pins σ H s → (∀ b ∈ fp, FpOk X pins H b) → tn i s.heap → J.go i H →
    wpAny (model P w) X.A (pyNext (.ref it)) (fun r s1 => ∃ u, r = some u ∧
      wpAny (model P w) X.A (letOwnedTupleGo tg (.ref it) u) (fun _ s2 => ∃ x H', Inv X pins σ H' s2 ∧ RelV x u ∧ J.yld i H x H' ∧ tn (i + 1) s2.heap ∧ ∀ b ∈ fp, H' b = none) E s1) E s
  done : ∀ (X : Cx), X.prog = P → X.w = w → X.K = K → Calm X → ∀ (i : Nat) (pins : List (Addr × Obj)) (s : Shared) (σ : St) (H : Hp) (E : Value → Shared → Prop), Inv X pins σ H s → (∀ b ∈ fp, FpOk X pins H b) → tn i s.heap → J.stop i H →
    wpAny (model P w) X.A (pyNext (.ref it)) (fun r s1 => r = none ∧ Inv X pins σ H s1) E s
  self : ∀ (A : Around) (i : Nat) (s : Shared) (Q : Value → Shared → Prop) (E : Value → Shared → Prop), tn i s.heap → Q (.ref it) s → wpAny (model P w) A (pyIter (.ref it)) Q E s
abbrev TI := St → Hp → (It → Hp → Prop) → Prop
def PIE (X : Cx) (pins : List (Addr × Obj)) (σ : St) (tg : Expr) (R : It → Hp → Prop) (itv : Value) (s2 : Shared) : Prop :=
  ∃ (it : Addr) (fp : List Addr) (tn : Nat → Heap → Prop) (J : It) (H' : Hp), itv = .ref it ∧ Inv X pins σ H' s2 ∧ Turn X.prog X.w X.K tg J fp it tn ∧ tn 0 s2.heap ∧ (∀ b ∈ fp, FpOk X pins H' b) ∧ R J H'
def PI (X : Cx) (tg iter : Expr) (wi : TI) : Prop :=
  ∀ (pins : List (Addr × Obj)) (s : Shared) (σ : St) (H : Hp) (R : It → Hp → Prop), Inv X pins σ H s → wi σ H R →
    wpAny (model X.prog X.w) X.A (eval iter X.env) (fun v s1 => wpAny (model X.prog X.w) X.A (pyIter v) (PIE X pins σ tg R) X.xe s1) X.xe s
theorem go_of {M : Model} {A : Around} {E : Value → Shared → Prop} {s : Shared} {tg : Expr} {it : Addr} {u : Value} {o : Obj} {n : String} {vs : Array Value} {Q : Unit → Shared → Prop} (ho : s.heap.get? it = some o) (hc : o.cls = .type n) (hd : o.data = .fields vs)
    (hn : ["enumerate", "zip", "dict_itemiterator", "dict_reverseitemiterator", "odict_iterator", "itertools.zip_longest", "itertools.pairwise"].contains n = false) (hQ : Q () s) : wpAny M A (letOwnedTupleGo tg (.ref it) u) Q E s := by
  unfold letOwnedTupleGo
  cases tg <;> first
    | exact wpAny_pure hQ
    | (cases u <;> first
        | exact wpAny_pure hQ
        | (refine wpAny_bind (wpAny_load ho ?_)
           rw [hc, hd]
           show wpAny M A (if (["enumerate", "zip", "dict_itemiterator", "dict_reverseitemiterator", "odict_iterator", "itertools.zip_longest", "itertools.pairwise"].contains n && vs[0]? == some (rawInt _)) = true then _ else _) Q E s
           rw [if_neg (by intro h; rw [hn, Bool.false_and] at h; cases h)]
           exact wpAny_pure hQ))
def Itl (K : PySem.W.Frag) (a : Addr) : It :=
  ⟨fun i H => ∃ xs x, SqL K H a xs ∧ xs[i]? = some x, fun i H x H' => H' = H ∧ ∀ xs, SqL K H a xs → xs[i]? = some x, fun i H => ∃ xs, SqL K H a xs ∧ xs.length ≤ i⟩
def Itt (K : PySem.W.Frag) (a : Addr) : It :=
  ⟨fun i H => ∃ xs x, SqT K H a xs ∧ xs[i]? = some x, fun i H x H' => H' = H ∧ ∀ xs, SqT K H a xs → xs[i]? = some x, fun i H => ∃ xs, SqT K H a xs ∧ xs.length ≤ i⟩
def Itr (lo : Int) (n : Nat) : It := ⟨fun i _ => i < n, fun i H x H' => H' = H ∧ x = .int (lo + i), fun i _ => n ≤ i⟩
theorem turn_list {P : Program} {w : World} {K : PySem.W.Frag} {tg : Expr} (a it : Addr) : Turn P w K tg (Itl K a) [it] it (fun i h => h.IsListIter it a i) where
  mem := by simp
  obj := fun i h st b hb => by
    have e : b = it := by simpa using hb
    subst e
    obtain ⟨o, e, c, d⟩ := st
    exact ⟨o, e, fun v z => by rw [d] at z; cases z⟩
  keep := fun i h h' st k => st.at fun o e => k it (by simp) o e
  item := by
    intro X hP hw hK hc i pins s σ H E I hf st hg
    subst hP hw hK
    obtain ⟨xs, x, hq, hx⟩ := hg
    obtain ⟨its, rv, p, hz⟩ := I.list hq
    obtain ⟨u, hu, ru⟩ := rv.get hx
    obtain ⟨f0, f1, f2, f3, f4, f5⟩ := hf it (by simp)
    refine wpAny_pyNext_list_item st p.isList (x := u) (by simpa using hu) fun h' st' sb => ?_
    have I1 : Inv X pins σ H { s with heap := h' } := I.turned (t' := s.toks) (fun b o hb e => (sb.2 b hb).trans e) f0 f1 f3 f4 f5
    obtain ⟨o, e, c, d⟩ := id st'
    exact ⟨u, rfl, go_of (s := { s with heap := h' }) e c d (by decide) ⟨x, H, I1, ru, ⟨rfl, fun ys hy => by rw [I.list_inj hy hq]; exact hx⟩, st', fun b hb => (hf b hb).1⟩⟩
  done := by
    intro X hP hw hK hc i pins s σ H E I hf st hg
    subst hP hw hK
    obtain ⟨xs, hq, hx⟩ := hg
    obtain ⟨its, rv, p, hz⟩ := I.list hq
    obtain ⟨f0, f1, f2, f3, f4, f5⟩ := hf it (by simp)
    have hl := rv.length
    exact z677 (I.calm hc) st p.isList (by simp; omega) fun h' eb => ⟨rfl, I.turned (t' := s.toks) (fun b o hb e => eb b o hb e) f0 f1 f3 f4 f5⟩
  self := fun _ _ _ _ _ st h => wpAny_pyIter_listiter st h
theorem turn_range {P : Program} {w : World} {K : PySem.W.Frag} {tg : Expr} (it : Addr) (lo : Int) (n : Nat) : Turn P w K tg (Itr lo n) [it] it (fun i h => IsRangeIter h it (lo + (i : Nat) * 1) ((n : Int) - (i : Nat)) 1) where
  mem := by simp
  obj := fun i h st b hb => by
    have e : b = it := by simpa using hb
    subst e
    exact ⟨_, st, fun v z => by
      have z' : Data.fields _ = Data.cell v := z
      cases z'⟩
  keep := fun i h h' st k => k it (by simp) _ st
  item := by
    intro X hP hw hK hc i pins s σ H E I hf st hg
    subst hP hw hK
    obtain ⟨f0, f1, f2, f3, f4, f5⟩ := hf it (by simp)
    refine wpAny_pyNext_range_item st (by have : i < n := hg; omega) fun h' st2 sb => ?_
    have st' : IsRangeIter h' it (lo + ((i + 1 : Nat) : Int) * 1) ((n : Int) - ((i + 1 : Nat) : Int)) 1 := by
      rw [show lo + ((i + 1 : Nat) : Int) * 1 = lo + (i : Nat) * 1 + 1 by omega, show (n : Int) - ((i + 1 : Nat) : Int) = n - (i : Nat) - 1 by omega]
      exact st2
    have I1 : Inv X pins σ H { s with heap := h', toks := s.toks + 1 } := I.turned (fun b o hb e => (sb.2 b hb).trans e) f0 f1 f3 f4 f5
    refine ⟨_, rfl, go_of (s := { s with heap := h', toks := s.toks + 1 }) (n := "range_iterator") st' rfl rfl (by decide) ⟨.int (lo + i), H, I1, ⟨s.toks, ?_⟩, ⟨rfl, rfl⟩, st', fun b hb => (hf b hb).1⟩⟩
    rw [Int.mul_one]
  done := by
    intro X hP hw hK hc i pins s σ H E I hf st hg
    subst hP hw hK
    obtain ⟨f0, f1, f2, f3, f4, f5⟩ := hf it (by simp)
    exact z616 (I.calm hc) st (by have : n ≤ i := hg; omega) fun h' eb => ⟨rfl, I.turned (t' := s.toks) (fun b o hb e => eb b o hb e) f0 f1 f3 f4 f5⟩
  self := fun _ _ _ _ _ st h => wpAny_pyIter_rangeiter st h
end L2
namespace L2
open PySem PySem.Spec PyProof.Rows
section
variable {X : Cx} {tg : Expr}
def iList (K : PySem.W.Frag) (tl : TE) : TI := fun σ H R => tl σ H fun x H1 => ∃ a, x = .ref a ∧ (∃ xs, SqL K H1 a xs) ∧ R (Itl K a) H1
def iTup (K : PySem.W.Frag) (tl : TE) : TI := fun σ H R => tl σ H fun x H1 => ∃ a, x = .ref a ∧ (∃ xs, SqT K H1 a xs) ∧ R (Itt K a) H1
theorem pi_list {l : Expr} {tl : TE} (hl : PE X l tl) : PI X tg l (iList X.K tl) := by
  intro pins s σ H R I h
  refine thn (hl pins s σ H _ I h) fun v s1 ⟨x, H1, I1, r1, q1⟩ => ?_
  obtain ⟨a, e, ⟨xs, hq⟩, q⟩ := q1
  subst e
  cases r1
  obtain ⟨its, rv, p, hz⟩ := I1.list hq
  refine wpAny_pyIter_list p.isList ?_
  refine ⟨s1.heap.objs.size, [s1.heap.objs.size], _, _, H1, rfl, I1.kept (t' := s1.toks) fun b o e => Heap.get?_push_of_some _ e, turn_list a _, ⟨_, Heap.get?_push_size _ rfl, rfl, rfl⟩, fun b hb => ?_, q⟩
  have e : b = s1.heap.objs.size := by simpa using hb
  subst e
  exact I1.fpOk (Nat.le_refl _) (I1.hok.fresh (Nat.le_refl _))
theorem range_it {pins : List (Addr × Obj)} {σ : St} {H : Hp} {s : Shared} {R : It → Hp → Prop} {E : Value → Shared → Prop} {lo hi : Int} {t u v : Tok} {tk : Nat} (I : Inv X pins σ H s) (h1 : -(2 ^ 62) ≤ lo) (h2 : lo < 2 ^ 62) (h3 : -(2 ^ 62) ≤ hi) (h4 : hi < 2 ^ 62)
    (q : R (Itr lo (hi - lo).toNat) H) : wpAny (model X.prog X.w) X.A (pyIter (.ref s.heap.objs.size)) (PIE X pins σ tg R) E { s with heap := s.heap.push { cls := .type "range", data := .fields #[.int lo t, .int hi u, .int 1 v] }, toks := tk } := by
  refine wpAny_pyIter_range (IsRange.new ..) (small_one h1 h2 h3 h4) ?_
  have I1 : Inv X pins σ H { s with heap := s.heap.push { cls := .type "range", data := .fields #[.int lo t, .int hi u, .int 1 v] }, toks := tk } := I.kept fun b o e => Heap.get?_push_of_some _ e
  refine ⟨(s.heap.push { cls := .type "range", data := .fields #[.int lo t, .int hi u, .int 1 v] }).objs.size, [(s.heap.push { cls := .type "range", data := .fields #[.int lo t, .int hi u, .int 1 v] }).objs.size], _, _, H, rfl,
    I1.kept (t' := tk) fun b o e => Heap.get?_push_of_some _ e, turn_range _ lo (hi - lo).toNat, ?_, fun b hb => ?_, q⟩
  · have e1 : lo + ((0 : Nat) : Int) * 1 = lo := by simp
    have e2 : (((hi - lo).toNat : Nat) : Int) - ((0 : Nat) : Int) = Builtin.Range.rangeSize lo hi 1 := by rw [rangeSize_one]; split <;> omega
    show IsRangeIter _ _ (lo + ((0 : Nat) : Int) * 1) ((((hi - lo).toNat : Nat) : Int) - ((0 : Nat) : Int)) 1
    rw [e1, e2]
    exact Heap.get?_push_size _ rfl
  · have e : b = (s.heap.push { cls := .type "range", data := .fields #[.int lo t, .int hi u, .int 1 v] }).objs.size := by simpa using hb
    subst e
    exact I1.fpOk (Nat.le_refl _) (I1.hok.fresh (Nat.le_refl _))
def iRng1 (ta : TA) : TI := fun σ H R => ta σ H fun vs H1 => ∃ j : Int, vs = [.int j] ∧ -(2 ^ 62) ≤ j ∧ j < 2 ^ 62 ∧ R (Itr 0 j.toNat) H1
def iRng2 (ta : TA) : TI := fun σ H R => ta σ H fun vs H1 => ∃ i j : Int, vs = [.int i, .int j] ∧ (-(2 ^ 62) ≤ i ∧ i < 2 ^ 62 ∧ -(2 ^ 62) ≤ j ∧ j < 2 ^ 62) ∧ R (Itr i (j - i).toNat) H1
theorem pi_range1 {a : Expr} {ta : TA} {p pos : Pos} (hg : Gl X "range") (hm : X.mg "range" = none) (ha : PA X [a] ta) (hs : starEach [a] X.env = [(false, eval a X.env)] := by rfl) : PI X tg (.Call (.Name "range" p) [a] [] pos) (iRng1 ta) := by
  intro pins s σ H R I h
  refine Call_ (ld_blt I hg hm boot_range (PyProof.Rows.callWith_type1 (thn (ha pos pins s σ H _ I h) fun us s1 ⟨vs, H1, I1, r1, q1⟩ => ?_) hs rfl))
  obtain ⟨j, e, q1, q2, q⟩ := q1
  subst e
  cases r1 with
  | cons r rr =>
    cases rr
    obtain ⟨t, rfl⟩ := r
    exact call_range_1 (range_it I1 (by omega) (by omega) q1 q2 (by simpa using q))
def tFor (wi : TI) (g : TG) (tb : TS) : TS := fun D σ H => wi σ H fun J H1 => ∃ W : Nat → Nat → St → Hp → Prop, (∃ m, W 0 m σ H1) ∧ ∀ i m σ H, W i m σ H →
  (J.stop i H ∧ D.nx σ H) ∨ (J.go i H ∧ ∃ N : St → Hp → Prop, (∀ σ' H', N σ' H' → ∃ m', m' < m ∧ W (i + 1) m' σ' H') ∧ ∀ x H', J.yld i H x H' → g x σ H' fun σ2 H2 => tb { D with nx := N, ct := N, bk := D.nx } σ2 H2)
def pinsAt (fp : List Addr) (h : Heap) : List (Addr × Obj) := fp.filterMap fun b => (h.get? b).map fun o => (b, o)
theorem mem_pinsAt {fp : List Addr} {h : Heap} {b : Addr} {o : Obj} (hb : b ∈ fp) (e : h.get? b = some o) : (b, o) ∈ pinsAt fp h := List.mem_filterMap.mpr ⟨b, hb, by rw [e]; rfl⟩
theorem of_pinsAt {fp : List Addr} {h : Heap} {p : Addr × Obj} (hp : p ∈ pinsAt fp h) : p.1 ∈ fp ∧ h.get? p.1 = some p.2 := by
  obtain ⟨b, hb, e⟩ := List.mem_filterMap.mp hp
  cases q : h.get? b with
  | none => rw [q] at e; cases e
  | some o =>
    rw [q] at e
    have e' : (b, o) = p := Option.some.inj e
    subst e'
    exact ⟨hb, q⟩
theorem Inv.pinned {pins : List (Addr × Obj)} {σ : St} {H : Hp} {s : Shared} {fp : List Addr} (I : Inv X pins σ H s) (hf : ∀ b ∈ fp, FpOk X pins H b) (ho : ∀ b ∈ fp, ∃ o, s.heap.get? b = some o ∧ ∀ v, o.data ≠ .cell v) : Inv X (pins ++ pinsAt fp s.heap) σ H s :=
  I.pins_of fun p hp => (List.mem_append.mp hp).elim (fun z => I.pin p (List.mem_append_right _ z)) fun z => by
    obtain ⟨hb, e⟩ := of_pinsAt z
    obtain ⟨f0, f1, f2, _⟩ := hf p.1 hb
    obtain ⟨o, e', d⟩ := ho p.1 hb
    rw [e] at e'; cases e'
    exact ⟨e, f0, f1, f2, d⟩
theorem Inv.unpinned {pins pl : List (Addr × Obj)} {σ : St} {H : Hp} {s : Shared} (I : Inv X (pins ++ pl) σ H s) : Inv X pins σ H s := I.pins_of fun p hp => I.pin p (List.mem_append_right _ (List.mem_append_left _ hp))
theorem ps_for {iter : Expr} {body : List Stmt} {wi : TI} {g : TG} {tb : TS} {pos : Pos} (hp : PassesOwn (model X.prog X.w) X.A X.env X.xe) (hc : Calm X) (hi : PI X tg iter wi) (hg : PG X tg g) (hb : PSs X body tb)
    (hs : ∀ x, foldedSetIterable iter X.env x = pure x := by intro _; rfl) : PS X (.For tg iter body [] pos) (tFor wi g tb) := by
  intro pins s σ H D I h
  refine wpAny_For (thn (hi pins s σ H _ I h) fun v s1 h1 => thn h1 fun itv s2 h2 => ?_) hs
  obtain ⟨it, fp, tn, J, H2, e, I2, T, st2, f2, W, ⟨m0, w0⟩, turn⟩ := h2
  subst e
  have stat : ∀ {H' : Hp}, (∀ b ∈ fp, H' b = none) → ∀ b ∈ fp, FpOk X pins H' b := fun hn b hb => ⟨hn b hb, (f2 b hb).2⟩
  refine codeAny_forLoop_any (fun n s' => ∃ i σ' H', Inv X pins σ' H' s' ∧ tn i s'.heap ∧ (∀ b ∈ fp, H' b = none) ∧ W i n σ' H') ?_ m0 ⟨0, σ, H2, I2, st2, fun b hb => (f2 b hb).1, w0⟩
  rintro n s3 ⟨i, σ3, H3, I3, st3, fr3, w3⟩
  rcases turn i n σ3 H3 w3 with ⟨stop, qn⟩ | ⟨go, N, hN, step⟩
  · refine wpAny_passesOwn hp (thn (T.done X rfl rfl rfl hc i pins s3 σ3 H3 X.xe I3 (stat fr3) st3 stop) fun r s4 ⟨hr, I4⟩ => ?_)
    subst hr
    exact wpAny_execs_nil ⟨σ3, H3, I4, qn⟩
  · refine wpAny_passesOwn hp (thn (T.item X rfl rfl rfl hc i pins s3 σ3 H3 X.xe I3 (stat fr3) st3 go) fun r s4 ⟨u, hr, h4⟩ => ?_)
    subst hr
    refine wpAny_passesOwn hp (thn h4 fun _ s5 ⟨x, H5, I5, r5, y5, st5, fr5⟩ => ?_)
    have I5' := I5.pinned (stat fr5) (T.obj _ _ st5)
    refine wpAny_passesOwn hp (thn (hg _ s5 σ3 H5 x u _ I5' r5 (step x H5 y5)) fun _ s6 ⟨σ6, H6, I6, q6⟩ => ?_)
    refine wpAny_passesOwn hp (thn (hb _ s6 σ6 H6 _ I6 q6) fun f s7 q7 => ?_)
    have again : ∀ {σ7 : St} {H7 : Hp}, Inv X (pins ++ pinsAt fp s5.heap) σ7 H7 s7 → N σ7 H7 → ∃ m, m < n ∧ ∃ i σ' H', Inv X pins σ' H' s7 ∧ tn i s7.heap ∧ (∀ b ∈ fp, H' b = none) ∧ W i m σ' H' := fun {σ7 H7} I7 n7 => by
      obtain ⟨m', hm, w7⟩ := hN σ7 H7 n7
      refine ⟨m', hm, i + 1, σ7, H7, I7.unpinned, T.keep _ _ _ st5 fun b hb o e => (I7.pin (b, o) (List.mem_append_right _ (List.mem_append_right _ (mem_pinsAt hb e)))).1, fun b hb => ?_, w7⟩
      obtain ⟨o, e, d⟩ := T.obj _ _ st5 b hb
      exact (I7.pin (b, o) (List.mem_append_right _ (List.mem_append_right _ (mem_pinsAt hb e)))).2.1
    cases f with
    | next => obtain ⟨σ7, H7, I7, n7⟩ := q7; exact again I7 n7
    | cont => obtain ⟨σ7, H7, I7, n7⟩ := q7; exact again I7 n7
    | brk => obtain ⟨σ7, H7, I7, q7⟩ := q7; exact ⟨σ7, H7, I7.unpinned, q7⟩
    | ret v => obtain ⟨x7, σ7, H7, I7, r7, q7⟩ := q7; exact ⟨x7, σ7, H7, I7.unpinned, r7, q7⟩
end
theorem for_list {K : PySem.W.Frag} {a : Addr} {xs : List V} {g : TG} {tb : TS} {D : Ends} {σ : St} {H : Hp} (Pv : Nat → St → Hp → Prop) (h0 : Pv 0 σ H) (hl : ∀ i σ H, i ≤ xs.length → Pv i σ H → SqL K H a xs)
    (hs : ∀ i x σ H, xs[i]? = some x → Pv i σ H → g x σ H fun σ2 H2 => tb { D with nx := Pv (i + 1), ct := Pv (i + 1), bk := D.nx } σ2 H2) (hd : ∀ σ H, Pv xs.length σ H → D.nx σ H) :
    ∃ W : Nat → Nat → St → Hp → Prop, (∃ m, W 0 m σ H) ∧ ∀ i m σ H, W i m σ H →
      ((Itl K a).stop i H ∧ D.nx σ H) ∨ ((Itl K a).go i H ∧ ∃ N : St → Hp → Prop, (∀ σ' H', N σ' H' → ∃ m', m' < m ∧ W (i + 1) m' σ' H') ∧ ∀ x H', (Itl K a).yld i H x H' → g x σ H' fun σ2 H2 => tb { D with nx := N, ct := N, bk := D.nx } σ2 H2) := by
  refine ⟨fun i m σ H => m = xs.length - i ∧ i ≤ xs.length ∧ Pv i σ H, ⟨xs.length, by simp, Nat.zero_le _, h0⟩, ?_⟩
  rintro i m σ H ⟨rfl, hi, p⟩
  have q := hl i σ H hi p
  by_cases hlt : i < xs.length
  · refine .inr ⟨⟨xs, xs[i], q, by simp [hlt]⟩, Pv (i + 1), fun σ' H' p' => ⟨xs.length - (i + 1), by omega, rfl, hlt, p'⟩, fun x H' y => ?_⟩
    obtain ⟨e, y⟩ := y
    subst e
    exact hs i x σ _ (y xs q) p
  · have e : i = xs.length := by omega
    subst e
    exact .inl ⟨⟨xs, q, Nat.le_refl _⟩, hd σ H p⟩
theorem for_range {lo : Int} {n : Nat} {g : TG} {tb : TS} {D : Ends} {σ : St} {H : Hp} (Pv : Nat → St → Hp → Prop) (h0 : Pv 0 σ H)
    (hs : ∀ i σ H, i < n → Pv i σ H → g (.int (lo + i)) σ H fun σ2 H2 => tb { D with nx := Pv (i + 1), ct := Pv (i + 1), bk := D.nx } σ2 H2) (hd : ∀ σ H, Pv n σ H → D.nx σ H) :
    ∃ W : Nat → Nat → St → Hp → Prop, (∃ m, W 0 m σ H) ∧ ∀ i m σ H, W i m σ H →
      ((Itr lo n).stop i H ∧ D.nx σ H) ∨ ((Itr lo n).go i H ∧ ∃ N : St → Hp → Prop, (∀ σ' H', N σ' H' → ∃ m', m' < m ∧ W (i + 1) m' σ' H') ∧ ∀ x H', (Itr lo n).yld i H x H' → g x σ H' fun σ2 H2 => tb { D with nx := N, ct := N, bk := D.nx } σ2 H2) := by
  refine ⟨fun i m σ H => m = n - i ∧ i ≤ n ∧ Pv i σ H, ⟨n, by simp, Nat.zero_le _, h0⟩, ?_⟩
  rintro i m σ H ⟨rfl, hi, p⟩
  by_cases hlt : i < n
  · refine .inr ⟨hlt, Pv (i + 1), fun σ' H' p' => ⟨n - (i + 1), by omega, rfl, hlt, p'⟩, fun x H' y => ?_⟩
    obtain ⟨e, y⟩ := y
    subst e y
    exact hs i σ _ hlt p
  · have e : i = n := by omega
    subst e
    exact .inl ⟨Nat.le_refl _, hd σ H p⟩
end L2
namespace L2
open PySem PySem.Spec PyProof.Rows
abbrev R2 := V → V → Hp → VK → Prop
def OpR (X : Cx) (f : Value → Value → Sem Value) (r : R2) : Prop :=
  ∀ (pins : List (Addr × Obj)) (s : Shared) (σ : St) (H : Hp) (x y : V) (v u : Value) (Q : VK), Inv X pins σ H s → RelV x v → RelV y u → r x y H Q →
    wpAny (model X.prog X.w) X.A (f v u) (EP X pins σ Q) X.xe s
def UnR (X : Cx) (f : Value → Sem Value) (r : V → Hp → VK → Prop) : Prop :=
  ∀ (pins : List (Addr × Obj)) (s : Shared) (σ : St) (H : Hp) (x : V) (v : Value) (Q : VK), Inv X pins σ H s → RelV x v → r x H Q →
    wpAny (model X.prog X.w) X.A (f v) (EP X pins σ Q) X.xe s
def CallR (X : Cx) (f : Value) (r : List V → Hp → VK → Prop) : Prop :=
  ∀ (pins : List (Addr × Obj)) (s : Shared) (σ : St) (H : Hp) (xs : List V) (us : List Value) (Q : VK), Inv X pins σ H s → Vals xs us → r xs H Q →
    wpAny (model X.prog X.w) X.A (call f us) (EP X pins σ Q) X.xe s
def TruR (X : Cx) (r : V → Hp → (Bool → Hp → Prop) → Prop) : Prop :=
  ∀ (pins : List (Addr × Obj)) (s : Shared) (σ : St) (H : Hp) (x : V) (v : Value) (Q : Bool → Hp → Prop), Inv X pins σ H s → RelV x v → r x H Q →
    wpAny (model X.prog X.w) X.A (truthy v) (TP X pins σ Q) X.xe s
def tOp (r : R2) (ta tb : TE) : TE := fun σ H Q => ta σ H fun x H1 => tb σ H1 fun y H2 => r x y H2 Q
def tUn (r : V → Hp → VK → Prop) (ta : TE) : TE := fun σ H Q => ta σ H fun x H1 => r x H1 Q
def rI (C : Int → Int → Prop) (g : Int → Int → V) : R2 := fun x y H Q => ∃ i j, x = .int i ∧ y = .int j ∧ C i j ∧ Q (g i j) H
def rI0 (g : Int → Int → V) : R2 := fun x y H Q => ∃ i j, x = .int i ∧ y = .int j ∧ Q (g i j) H
def rU (g : Int → V) : V → Hp → VK → Prop := fun x H Q => ∃ i, x = .int i ∧ Q (g i) H
section
variable {X : Cx} {a b c : Expr} {ta tb tc : TE} {pos : Pos}
theorem binT (ha : PE X a ta) (hb : PE X b tb) {pins : List (Addr × Obj)} {s : Shared} {σ : St} {H : Hp} {R : V → V → Hp → Prop} (I : Inv X pins σ H s)
    (h : ta σ H fun x H1 => tb σ H1 fun y H2 => R x y H2) {Q : Value → Shared → Prop} {f : Value → Value → Sem Value}
    (hf : ∀ v u s2 x y H2, Inv X pins σ H2 s2 → RelV x v → RelV y u → R x y H2 → wpAny (model X.prog X.w) X.A (f v u) Q X.xe s2) :
    wpAny (model X.prog X.w) X.A (eval a X.env) (fun v s₁ => wpAny (model X.prog X.w) X.A (eval b X.env) (fun u s₂ => wpAny (model X.prog X.w) X.A (f v u) Q X.xe s₂) X.xe s₁) X.xe s := by
  refine thn (ha pins s σ H _ I h) fun v s1 ⟨x, H1, I1, r1, q1⟩ => ?_
  refine thn (hb pins s1 σ H1 _ I1 q1) fun u s2 ⟨y, H2, I2, r2, q2⟩ => ?_
  exact hf v u s2 x y H2 I2 r1 r2 q2
theorem pe_op {op : Operator} {r : R2} (ho : OpR X (binaryOp op) r) (ha : PE X a ta) (hb : PE X b tb) : PE X (.BinOp a op b pos) (tOp r ta tb) := by
  intro pins s σ H Q I h
  exact wpAny_BinOp (binT ha hb I h fun v u s2 x y H2 I2 rx ry q => ho pins s2 σ H2 x y v u Q I2 rx ry q)
theorem pe_un {op : UnaryOp} {r : V → Hp → VK → Prop} (ho : UnR X (unaryOp op) r) (ha : PE X a ta) : PE X (.UnaryOp op a pos) (tUn r ta) := by
  intro pins s σ H Q I h
  exact UnaryOp_ (thn (ha pins s σ H _ I h) fun v s1 ⟨x, H1, I1, r1, q1⟩ => ho pins s1 σ H1 x v Q I1 r1 q1)
theorem opI {f : Value → Value → Sem Value} {C : Int → Int → Prop} {g : Int → Int → Int}
    (rule : ∀ (i j : Int) (t u : Tok) (s : Shared) (Q : Value → Shared → Prop) (E : Value → Shared → Prop), C i j → Q (.int (g i j) s.toks) { s with toks := s.toks + 1 } → wpAny (model X.prog X.w) X.A (f (.int i t) (.int j u)) Q E s) :
    OpR X f (rI C fun i j => .int (g i j)) := by
  intro pins s σ H x y v u Q I rx ry h
  obtain ⟨i, j, rfl, rfl, hc, q⟩ := h
  obtain ⟨t, rfl⟩ := rx
  obtain ⟨t', rfl⟩ := ry
  exact rule i j t t' s _ _ hc ⟨.int (g i j), H, I.tok _, ⟨_, rfl⟩, q⟩
theorem opI0 {f : Value → Value → Sem Value} {g : Int → Int → Int}
    (rule : ∀ (i j : Int) (t u : Tok) (s : Shared) (Q : Value → Shared → Prop) (E : Value → Shared → Prop), Q (.int (g i j) s.toks) { s with toks := s.toks + 1 } → wpAny (model X.prog X.w) X.A (f (.int i t) (.int j u)) Q E s) :
    OpR X f (rI0 fun i j => .int (g i j)) := by
  intro pins s σ H x y v u Q I rx ry h
  obtain ⟨i, j, rfl, rfl, q⟩ := h
  obtain ⟨t, rfl⟩ := rx
  obtain ⟨t', rfl⟩ := ry
  exact rule i j t t' s _ _ ⟨.int (g i j), H, I.tok _, ⟨_, rfl⟩, q⟩
theorem opB0 {f : Value → Value → Sem Value} {g : Int → Int → Bool}
    (rule : ∀ (i j : Int) (t u : Tok) (s : Shared) (Q : Value → Shared → Prop) (E : Value → Shared → Prop), Q (.bool (g i j)) s → wpAny (model X.prog X.w) X.A (f (.int i t) (.int j u)) Q E s) :
    OpR X f (rI0 fun i j => .bl (g i j)) := by
  intro pins s σ H x y v u Q I rx ry h
  obtain ⟨i, j, rfl, rfl, q⟩ := h
  obtain ⟨t, rfl⟩ := rx
  obtain ⟨t', rfl⟩ := ry
  exact rule i j t t' s _ _ ⟨.bl (g i j), H, I, rfl, q⟩
def CDiv (i j : Int) : Prop := 0 < j ∧ j < 1073741824
def CMul (i j : Int) : Prop := (-(2 ^ 64) < i ∧ i < 2 ^ 64) ∨ (-(2 ^ 64) < j ∧ j < 2 ^ 64)
theorem CMul.ok {i j : Int} (h : CMul i j) : IntMulOk i j := by
  rcases h with ⟨h1, h2⟩ | ⟨h1, h2⟩
  · exact .of_left (intBits_le_64 h1 h2)
  · exact .of_right (intBits_le_64 h1 h2)
theorem op_add : OpR X (binaryOp .Add) (rI0 fun i j => .int (i + j)) := opI0 fun _ _ _ _ _ _ _ q => add_int q
theorem op_sub : OpR X (binaryOp .Sub) (rI0 fun i j => .int (i - j)) := opI0 fun _ _ _ _ _ _ _ q => sub_int q
theorem op_mul : OpR X (binaryOp .Mult) (rI CMul fun i j => .int (i * j)) := opI fun _ _ _ _ _ _ _ hc q => mul_int q hc.ok
theorem op_fdiv : OpR X (binaryOp .FloorDiv) (rI CDiv fun i j => .int (i / j)) := opI fun i j _ _ _ _ _ hc q => by
  have h1 : (0 : Int) < j := hc.1
  have h2 : j < 1073741824 := hc.2
  exact floordiv_int (by omega) (by rw [Int.fdiv_eq_ediv_of_nonneg i (by omega)]; exact q) (.inl (PyProof.noPylong_small (by omega)))
theorem op_mod : OpR X (binaryOp .Mod) (rI (fun _ j => 0 < j) fun i j => .int (i % j)) := opI fun i j _ _ _ _ _ hc q => by
  have h1 : (0 : Int) < j := hc
  exact mod_int' (by omega) (by rw [Int.fmod_eq_emod_of_nonneg i (by omega)]; exact q)
theorem unI {f : Value → Sem Value} {g : Int → Int}
    (rule : ∀ (i : Int) (t : Tok) (s : Shared) (Q : Value → Shared → Prop) (E : Value → Shared → Prop), Q (.int (g i) s.toks) { s with toks := s.toks + 1 } → wpAny (model X.prog X.w) X.A (f (.int i t)) Q E s) :
    UnR X f (rU fun i => .int (g i)) := by
  intro pins s σ H x v Q I rx h
  obtain ⟨i, rfl, q⟩ := h
  obtain ⟨t, rfl⟩ := rx
  exact rule i t s _ _ ⟨.int (g i), H, I.tok _, ⟨_, rfl⟩, q⟩
theorem un_neg : UnR X (unaryOp .USub) (rU fun i => .int (-i)) := unI fun _ _ _ _ _ q => neg_int q
end
def scal : V → V → Bool
  | .non, .non => true | .non, .int _ => true | .int _, .non => true | .non, .bl _ => true | .bl _, .non => true | .non, .str _ => true | .str _, .non => true
  | .int _, .int _ => true | .bl _, .bl _ => true | .str _, .str _ => true | .byt _, .byt _ => true
  | .int _, .str _ => true | .str _, .int _ => true | .bl _, .str _ => true | .str _, .bl _ => true
  | _, _ => false
def rEq : R2 := fun x y H Q => scal x y = true ∧ Q (.bl (decide (x = y))) H
def rNe : R2 := fun x y H Q => scal x y = true ∧ Q (.bl (!decide (x = y))) H
theorem dec_int {i j : Int} : decide (V.int i = V.int j) = (i == j) := by
  rw [Bool.eq_iff_iff]
  simp
theorem dec_bl {i j : Bool} : decide (V.bl i = V.bl j) = (i == j) := by
  rw [Bool.eq_iff_iff]
  simp
theorem dec_str {i j : Str} : decide (V.str i = V.str j) = (i == j) := by
  rw [Bool.eq_iff_iff]
  simp
theorem dec_byt {i j : Array UInt8} : decide (V.byt i = V.byt j) = (i.toList == j.toList) := by
  rw [Bool.eq_iff_iff]
  cases i
  cases j
  simp
section
variable {X : Cx} {a b c : Expr} {ta tb tc : TE} {pos : Pos}
theorem fin_bl {pins : List (Addr × Obj)} {σ : St} {H : Hp} {s : Shared} {Q : VK} {k k' : Bool} (I : Inv X pins σ H s) (q : Q (.bl k) H) (e : k = k') : EP X pins σ Q (.bool k') s := by
  subst e
  exact ⟨.bl k, H, I, rfl, q⟩
theorem op_eq : OpR X (compareOp .Eq) rEq := by
  intro pins s σ H x y v u Q I rx ry h
  obtain ⟨hs, q⟩ := h
  cases x with
  | non =>
    cases rx
    cases y with
    | non => cases ry; exact PySem.EqNone.eq_none_none (fin_bl I q (by simp))
    | bl j => cases ry; exact PySem.EqNone.eq_none_bool (fin_bl I q (by simp))
    | int j => obtain ⟨t', rfl⟩ := ry; exact PySem.EqNone.eq_none_int (fin_bl I q (by simp))
    | str j => obtain ⟨t', rfl⟩ := ry; exact PySem.EqNone.eq_none_str (fin_bl I q (by simp))
    | _ => exact absurd (show false = true from hs) Bool.false_ne_true
  | bl i =>
    cases rx
    cases y with
    | non => cases ry; exact PySem.EqNone.eq_bool_none (fin_bl I q (by simp))
    | bl j => cases ry; exact eq_bool (fin_bl I q dec_bl)
    | str j => obtain ⟨t', rfl⟩ := ry; exact PySem.EqMixed.eq_bool_str (fin_bl I q (by simp))
    | _ => exact absurd (show false = true from hs) Bool.false_ne_true
  | int i =>
    obtain ⟨t, rfl⟩ := rx
    cases y with
    | non => cases ry; exact PySem.EqNone.eq_int_none (fin_bl I q (by simp))
    | int j => obtain ⟨t', rfl⟩ := ry; exact eq_int (fin_bl I q dec_int)
    | str j => obtain ⟨t', rfl⟩ := ry; exact PySem.EqMixed.eq_int_str (fin_bl I q (by simp))
    | _ => exact absurd (show false = true from hs) Bool.false_ne_true
  | str i =>
    obtain ⟨t, rfl⟩ := rx
    cases y with
    | non => cases ry; exact PySem.EqNone.eq_str_none (fin_bl I q (by simp))
    | bl j => cases ry; exact PySem.EqMixed.eq_str_bool (fin_bl I q (by simp))
    | int j => obtain ⟨t', rfl⟩ := ry; exact PySem.EqMixed.eq_str_int (fin_bl I q (by simp))
    | str j => obtain ⟨t', rfl⟩ := ry; exact eq_str (fin_bl I q dec_str)
    | _ => exact absurd (show false = true from hs) Bool.false_ne_true
  | byt i =>
    obtain ⟨t, rfl⟩ := rx
    cases y with
    | byt j => obtain ⟨t', rfl⟩ := ry; exact PySem.W.eq_bytes (fin_bl I q dec_byt)
    | _ => exact absurd (show false = true from hs) Bool.false_ne_true
  | _ => cases y <;> exact absurd (show false = true from hs) Bool.false_ne_true
theorem op_ne : OpR X (compareOp .NotEq) rNe := by
  intro pins s σ H x y v u Q I rx ry h
  obtain ⟨hs, q⟩ := h
  cases x with
  | non =>
    cases rx
    cases y with
    | non => cases ry; exact PySem.EqNone.ne_none_none (fin_bl I q (by simp))
    | bl j => cases ry; exact PySem.EqNone.ne_none_bool (fin_bl I q (by simp))
    | int j => obtain ⟨t', rfl⟩ := ry; exact PySem.EqNone.ne_none_int (fin_bl I q (by simp))
    | str j => obtain ⟨t', rfl⟩ := ry; exact PySem.EqNone.ne_none_str (fin_bl I q (by simp))
    | _ => exact absurd (show false = true from hs) Bool.false_ne_true
  | bl i =>
    cases rx
    cases y with
    | non => cases ry; exact PySem.EqNone.ne_bool_none (fin_bl I q (by simp))
    | bl j => cases ry; exact ne_bool (fin_bl I q (congrArg not dec_bl))
    | str j => obtain ⟨t', rfl⟩ := ry; exact PySem.EqMixed.ne_bool_str (fin_bl I q (by simp))
    | _ => exact absurd (show false = true from hs) Bool.false_ne_true
  | int i =>
    obtain ⟨t, rfl⟩ := rx
    cases y with
    | non => cases ry; exact PySem.EqNone.ne_int_none (fin_bl I q (by simp))
    | int j => obtain ⟨t', rfl⟩ := ry; exact ne_int (fin_bl I q (congrArg not dec_int))
    | str j => obtain ⟨t', rfl⟩ := ry; exact PySem.EqMixed.ne_int_str (fin_bl I q (by simp))
    | _ => exact absurd (show false = true from hs) Bool.false_ne_true
  | str i =>
    obtain ⟨t, rfl⟩ := rx
    cases y with
    | non => cases ry; exact PySem.EqNone.ne_str_none (fin_bl I q (by simp))
    | bl j => cases ry; exact PySem.EqMixed.ne_str_bool (fin_bl I q (by simp))
    | int j => obtain ⟨t', rfl⟩ := ry; exact PySem.EqMixed.ne_str_int (fin_bl I q (by simp))
    | str j => obtain ⟨t', rfl⟩ := ry; exact ne_str (fin_bl I q (congrArg not dec_str))
    | _ => exact absurd (show false = true from hs) Bool.false_ne_true
  | byt i =>
    obtain ⟨t, rfl⟩ := rx
    cases y with
    | byt j => obtain ⟨t', rfl⟩ := ry; exact PySem.W.ne_bytes (fin_bl I q (congrArg not dec_byt))
    | _ => exact absurd (show false = true from hs) Bool.false_ne_true
  | _ => cases y <;> exact absurd (show false = true from hs) Bool.false_ne_true
theorem op_lt : OpR X (compareOp .Lt) (rI0 fun i j => .bl (decide (i < j))) := opB0 fun _ _ _ _ _ _ _ q => lt_int q
theorem op_le : OpR X (compareOp .LtE) (rI0 fun i j => .bl (decide (i ≤ j))) := opB0 fun _ _ _ _ _ _ _ q => le_int q
theorem op_gt : OpR X (compareOp .Gt) (rI0 fun i j => .bl (decide (j < i))) := opB0 fun _ _ _ _ _ _ _ q => gt_int q
theorem op_ge : OpR X (compareOp .GtE) (rI0 fun i j => .bl (decide (j ≤ i))) := opB0 fun _ _ _ _ _ _ _ q => ge_int q
theorem op_in_str : OpR X (compareOp .In) (fun x y H Q => ∃ i j, x = .str i ∧ y = .str j ∧ Q (.bl (!(Builtin.Str.occurrences j i 0 j.length 1).isEmpty)) H) := by
  intro pins s σ H x y v u Q I rx ry h
  obtain ⟨i, j, rfl, rfl, q⟩ := h
  obtain ⟨t, rfl⟩ := rx
  obtain ⟨t', rfl⟩ := ry
  exact in_str (fin_bl I q rfl)
theorem op_notN : OpR X (compareOp .IsNot) (fun x y H Q => y = .non ∧ Q (.bl (!decide (x = .non))) H) := by
  intro pins s σ H x y v u Q I rx ry h
  obtain ⟨rfl, q⟩ := h
  cases ry
  refine isnot_none_gen (fin_bl I q ?_)
  cases x <;> first
    | (cases rx; rfl)
    | (obtain ⟨t, rfl⟩ := rx; rfl)
theorem nomark (b : Expr) {op : CmpOp} (h : op ≠ .In := by decide) (h2 : op ≠ .NotIn := by decide) : behindInMarks op b = false := by
  have e1 : (op == CmpOp.In) = false := by cases op <;> first | rfl | exact absurd rfl h
  have e2 : (op == CmpOp.NotIn) = false := by cases op <;> first | rfl | exact absurd rfl h2
  cases b <;> simp [behindInMarks, e1, e2]
theorem pe_cmpR {op : CmpOp} {r : R2} (ho : OpR X (compareOp op) r) (ha : PE X a ta) (hb : PE X b tb) (hm : behindInMarks op b = false) : PE X (.Compare a [op] [b] pos) (tOp r ta tb) := by
  intro pins s σ H Q I h
  exact wpAny_Compare1 (binT ha hb I h fun v u s2 x y H2 I2 rx ry q => ho pins s2 σ H2 x y v u Q I2 rx ry q) hm
def tTest (t : TE) : TT := fun σ H Q => t σ H fun x H' => ∃ k, x = .bl k ∧ Q k H'
theorem pt_cmpR {op : CmpOp} {r : R2} (ho : OpR X (compareOp op) r) (ha : PE X a ta) (hb : PE X b tb) (hm : behindInMarks op b = false) : PT X (.Compare a [op] [b] pos) (tTest (tOp r ta tb)) := by
  intro pins s σ H Q I h
  refine wpAny_isTrue_Compare1 (thn (ha pins s σ H _ I h) fun v s1 ⟨x, H1, I1, r1, q1⟩ => thn (hb pins s1 σ H1 _ I1 q1) fun u s2 ⟨y, H2, I2, r2, q2⟩ =>
    thn (ho pins s2 σ H2 x y v u _ I2 r1 r2 q2) fun c s3 ⟨z, H3, I3, r3, k, e, q3⟩ => ?_) hm
  subst e
  cases r3
  exact wpAny_truthy_bool ⟨H3, I3, q3⟩
def tChain (r r' : R2) (ta tb tc : TE) : TE := fun σ H Q => ta σ H fun x H1 => tb σ H1 fun y H2 => r x y H2 fun z H3 => ∃ k, z = .bl k ∧
  (if k = true then tc σ H3 fun w' H4 => r' y w' H4 Q else Q (.bl false) H3)
theorem pe_chain {op op' : CmpOp} {r r' : R2} (ho : OpR X (compareOp op) r) (ho' : OpR X (compareOp op') r') (ha : PE X a ta) (hb : PE X b tb) (hc : PE X c tc)
    (hm : lastMarks [op, op'] [b, c] = false := by with_unfolding_all rfl) : PE X (.Compare a [op, op'] [b, c] pos) (tChain r r' ta tb tc) := by
  intro pins s σ H Q I h
  refine Compare_chain (thn (ha pins s σ H _ I h) fun v s1 ⟨x, H1, I1, r1, q1⟩ => chain_link (thn (hb pins s1 σ H1 _ I1 q1) fun u s2 ⟨y, H2, I2, r2, q2⟩ =>
    thn (ho pins s2 σ H2 x y v u _ I2 r1 r2 q2) fun d s3 ⟨z, H3, I3, r3, k, e, q3⟩ => ?_)) hm
  subst e
  cases r3
  refine wpAny_truthy_bool ?_
  cases k with
  | false => exact ite_ff ⟨.bl false, H3, I3, rfl, q3⟩
  | true => exact ite_tt (chain_last (thn (hc pins s3 σ H3 _ I3 q3) fun w' s4 ⟨z', H4, I4, r4, q4⟩ => ho' pins s4 σ H4 y z' u w' Q I4 r2 r4 q4))
def TruV (K : PySem.W.Frag) (x : V) (H : Hp) (k : Bool) : Prop :=
  match x with
  | .non => k = false
  | .bl b => k = b
  | .int i => k = (i != 0)
  | .str y => y.length ≤ sizeLine ∧ k = ((y.length : Int) != 0)
  | .byt y => y.size ≤ sizeLine ∧ k = ((y.size : Int) != 0)
  | .ref p => (∃ xs, SqL K H p xs ∧ k = !xs.isEmpty) ∨ (∃ xs, SqT K H p xs ∧ k = !xs.isEmpty) ∨ ∃ kvs, H p = some (.dK kvs) ∧ k = !kvs.isEmpty
  | _ => False
theorem isEmpty_kv {κ : Type} {kvs : List (κ × V)} {vs : List (κ × Value)} (r : KV kvs vs) : (!vs.isEmpty) = !kvs.isEmpty := by
  cases r <;> rfl
theorem isEmpty_of {xs : List V} {its : List Value} (r : Vals xs its) : (!its.toArray.isEmpty) = !xs.isEmpty := by
  cases r <;> simp
theorem line63 : (sizeLine : Nat) < 2 ^ 63 := by rw [sizeLine_eq]; decide
theorem tru_ok : TruR X (fun x H Q => ∃ k, TruV X.K x H k ∧ Q k H) := by
  intro pins s σ H x v Q I rx h
  obtain ⟨k, e, q⟩ := h
  have hl := line63
  have hs : sizeLine = 16777216 := sizeLine_eq
  cases x with
  | non =>
    cases rx
    have e' : k = false := e
    subst e'
    exact truthy_none ⟨H, I, q⟩
  | bl b =>
    cases rx
    have e' : k = b := e
    subst e'
    exact wpAny_truthy_bool ⟨H, I, q⟩
  | int i =>
    obtain ⟨t, rfl⟩ := rx
    have e' : k = (i != 0) := e
    subst e'
    exact PySem.P.truthy_int ⟨H, I, q⟩
  | str y =>
    obtain ⟨t, rfl⟩ := rx
    obtain ⟨hy, e'⟩ : y.length ≤ sizeLine ∧ k = ((y.length : Int) != 0) := e
    subst e'
    exact PySem.P.truthy_str (by omega) ⟨H, I.tok _, q⟩
  | byt y =>
    obtain ⟨t, rfl⟩ := rx
    obtain ⟨hy, e'⟩ : y.size ≤ sizeLine ∧ k = ((y.size : Int) != 0) := e
    subst e'
    exact PySem.W.truthy_bytes (by omega) ⟨H, I.tok _, q⟩
  | ref p =>
    cases rx
    have e' : (∃ xs, SqL X.K H p xs ∧ k = !xs.isEmpty) ∨ (∃ xs, SqT X.K H p xs ∧ k = !xs.isEmpty) ∨ ∃ kvs, H p = some (.dK kvs) ∧ k = !kvs.isEmpty := e
    rcases e' with ⟨xs, hx, e'⟩ | ⟨xs, hx, e'⟩ | ⟨kvs, hx, e'⟩
    · subst e'
      obtain ⟨its, r, pl, hz⟩ := I.list hx
      have hlen := r.length
      exact wpAny_truthy_list pl.isList (by simp only [List.size_toArray]; omega) ⟨H, I.tok _, by rw [isEmpty_of r]; exact q⟩
    · subst e'
      obtain ⟨its, r, pl, hz⟩ := I.tuple hx
      have hlen := r.length
      exact truthy_tuple pl (by simp only [List.size_toArray]; omega) ⟨H, I.tok _, by rw [isEmpty_of r]; exact q⟩
    · subst e'
      obtain ⟨hz, hS, vs, r, m⟩ : kvs.length ≤ sizeLine ∧ (p == sysModules) = false ∧ ∃ vs, KV kvs vs ∧ s.heap.DictOf (mixKind X.prog X.w) p vs := I.hok p _ hx
      have hlen : kvs.length = vs.length := Paired.length r
      exact wpAny_truthy_dict hS m (by omega) ⟨H, I.tok _, by rw [isEmpty_kv r]; exact q⟩
  | _ => exact (show False from e).elim
theorem pt_truth (ha : PE X a ta) (he : ∀ whole, isTrue a X.env whole = (do let v ← whole; standAt a.pos; holding [v] (truthy v))) :
    PT X a (fun σ H Q => ta σ H fun x H' => ∃ k, TruV X.K x H' k ∧ Q k H') := by
  intro pins s σ H Q I h
  exact isTrue_plain (thn (ha pins s σ H _ I h) fun v s1 ⟨x, H1, I1, r1, q1⟩ => tru_ok pins s1 σ H1 x v Q I1 r1 q1) (he _)
theorem op_add_str : OpR X (binaryOp .Add) (fun x y H Q => ∃ i j, x = .str i ∧ y = .str j ∧ i.length + j.length ≤ sizeLine ∧ Q (.str (i ++ j)) H) := by
  intro pins s σ H x y v u Q I rx ry h
  obtain ⟨i, j, rfl, rfl, hz, q⟩ := h
  obtain ⟨t, rfl⟩ := rx
  obtain ⟨t', rfl⟩ := ry
  exact add_str (fun t' tk => ⟨.str (i ++ j), H, I.tok _, ⟨_, rfl⟩, q⟩) hz
theorem vals1 {x : V} {us : List Value} (r : Vals [x] us) : ∃ u, us = [u] ∧ RelV x u := by
  cases r with
  | cons r1 r2 => cases r2; exact ⟨_, rfl, r1⟩
theorem vals2 {x y : V} {us : List Value} (r : Vals [x, y] us) : ∃ u w', us = [u, w'] ∧ RelV x u ∧ RelV y w' := by
  cases r with
  | cons r1 r2 =>
    cases r2 with
    | cons r3 r4 => cases r4; exact ⟨_, _, rfl, r1, r3⟩
end
end L2
namespace L2
open PySem PySem.Spec PyProof.Rows
structure ObjM (h : Heap) (x dx C : Addr) (mA : Str → Option Value) : Prop where
  obj : h.get? x = some (PySem.W.instObj C dx)
  ns : h.Ns1 dx mA
  ne : dx ≠ x
theorem lookIn_ns {h : Heap} {dx : Addr} {mA : Str → Option Value} (n : h.Ns1 dx mA) : ∃ od, h.get? dx = some od ∧ ∀ name, PySem.W.lookIn name od = some (mA name) := by
  obtain ⟨o, es, ep, ho, hd, hk, _, hm⟩ := n
  refine ⟨o, ho, fun name => ?_⟩
  have e := hm name
  unfold nsFind findBy at e
  rw [← Array.find?_toList] at e
  unfold PySem.W.lookIn
  rw [hd]
  dsimp only
  split
  · rename_i y q
    rw [q] at e
    exact congrArg some e
  · rename_i q
    rw [q] at e
    have a : es.toList.any (·.refKey) = false := by
      rw [List.any_eq_false]
      intro y hy
      obtain ⟨z, t, hkey⟩ := hk y (Array.mem_toList_iff.mp hy)
      simp [DictEntry.refKey, hkey]
    have a' : ¬ es.toList.any (·.refKey) = true := by rw [a]; exact Bool.false_ne_true
    rw [if_neg a']
    exact congrArg some e
theorem ObjM.look {h : Heap} {x dx C : Addr} {mA : Str → Option Value} (I : ObjM h x dx C mA) : ∃ od, PySem.W.InstAt h x (PySem.W.instObj C dx) C (some od) ∧ ∀ name, PySem.W.lookIn name od = some (mA name) :=
  let ⟨od, ho, hl⟩ := lookIn_ns I.ns
  ⟨od, ⟨I.obj, rfl, rfl, ho⟩, hl⟩
section
variable {prog : Program} {w : World} {A : Around} {E : Value → Shared → Prop} {s : Shared} {K : PySem.W.Frag} {x dx C f : Addr} {mA : Str → Option Value} {name : Str} {v : Value}
theorem get_map {expr : Bool} {Q : Value → Shared → Prop} (X : K.In s.heap) (I : ObjM s.heap x dx C mA) (hg : PySem.W.plainGet K C name = true) (hh : PySem.W.hasDictIn K C = true)
    (ha : PySem.W.findIn K (.ref C) name = some none) (hv : mA name = some v) (hv' : PySem.W.handedIn v = true) (h : Q v { s with toks := s.toks + 1 }) :
    wpAny (model prog w) A (getAttr (.ref x) name expr) Q E s := by
  obtain ⟨od, J, hl⟩ := I.look
  exact PySem.W.get_value X J (PySem.W.plainGet_of hg).1 (PySem.W.findObj_own hh ha rfl (by rw [hl, hv])) hv' h
theorem get_meth {pl : Sem Bool} {Q : Value × List Value → Shared → Prop} (X : K.In s.heap) (I : ObjM s.heap x dx C mA) (hg : PySem.W.plainGet K C name = true)
    (hf : PySem.W.findIn K (.ref C) name = some (some (.ref f))) (ht : PySem.W.isFn K (.ref f) = true) (hv : mA name = none) (h : Q (.ref f, [.ref x]) s) :
    wpAny (model prog w) A (getMethod (.ref x) name pl) Q E s := by
  obtain ⟨od, J, hl⟩ := I.look
  exact PySem.W.method_fn X J (PySem.W.plainGet_of hg).1 (PySem.W.plainGet_of hg).2 hf (beq_iff_eq.mp ht) (by show (PySem.W.lookIn name od).map (·.isSome) = some false; rw [hl, hv]; rfl) h
theorem set_map {ns : List Str} {Q : Unit → Shared → Prop} (X : K.In s.heap) (I : ObjM s.heap x dx C mA)
    (hs : PySem.W.findIn K (.ref C) "__setattr__" = some (some (.builtin "object.__setattr__"))) (hp : PySem.W.plainOver K C = true) (ht : PySem.W.takerIn K C name = some none) (hh : PySem.W.hasDictIn K C = true)
    (hw : PySem.Within mA ns) (hsz : ns.length ≤ sizeLine)
    (h : ∀ h', ObjM h' x dx C (fun y => if y = name then some v else mA y) → Heap.SameBut dx s.heap h' → Q () { s with heap := h', toks := s.toks + 2 }) :
    wpAny (model prog w) A (setAttr (.ref x) name v) Q E s := by
  obtain ⟨od, J, hl⟩ := I.look
  refine PySem.W.set_plain X J hs (PySem.W.osa_open (s := { s with toks := s.toks + 1 }) (r := none) X J hp ht fun b => ?_)
  obtain ⟨cd, hc, hd'⟩ := PySem.W.any_some hh
  have hx : s.heap.get? x = some ⟨.ref C, some dx, .plain, #[]⟩ := I.obj
  refine wpAny_bind (wpAny_pure (wpAny_bind (wpAny_bind (wpAny_loadPart hx (wpAny_bind (PySem.W.Looks.here (s := { s with toks := s.toks + 1 }) (PySem.W.looks_clsIn X hc) ?_))))))
  rw [hd']
  refine wpAny_pure (a := some dx) (wpAny_bind (wpAny_pure (wpAny_bind ?_)))
  refine wpAny_nsSet1 (s := { s with toks := s.toks + 1 }) I.ns fun h' hn2 hs2 => ?_
  obtain ⟨oD, esD, epD, hoD, hdD, hcD⟩ := hn2.count (PySem.Within.cons name v hw)
  refine wpAny_bind (wpAny_lookBehind hoD (by rw [hdD]; exact pastItsLine_dict (Nat.le_trans hcD (by rw [List.length_cons]; omega))) ?_)
  exact wpAny_pure (h _ ⟨(hs2.2 _ (Ne.symm I.ne)).trans I.obj, hn2, I.ne⟩ hs2)
theorem make_map {R : Result → Shared → Prop} {vs : List Value} {kw : List (Str × Value)} (X : K.In s.heap) (hm : PySem.W.makesIn K C = true)
    (hi : PySem.W.findIn K (.ref C) "__init__" = some (some (.ref f))) (hf : PySem.W.typeIn K (.ref f) = some (.type "function"))
    (h : codeAny (model prog w) (A.under (.builtin "type.__call__" ⟨.ref C :: vs, kw⟩)) (.call (.ref f) ⟨.ref (s.heap.objs.size + 1) :: vs, kw⟩) (PySem.W.InitBack (s.heap.objs.size + 1) R)
      { s with heap := (s.heap.push PySem.W.emptyDict).push (PySem.W.instObj C s.heap.objs.size) }) :
    codeAny (model prog w) A (.call (.ref C) ⟨vs, kw⟩) R s := by
  obtain ⟨hh, g, d, t, os⟩ := s
  exact PySem.W.make_core (PySem.W.makes_of X hm) (PySem.W.looks_findIn X hi) (fun self => PySem.W.bind_fn X self hf) (.inl rfl) h
end
def putF (f : Str) (v : V) : List (Str × V) → List (Str × V)
  | [] => [(f, v)]
  | (g, x) :: r => if g = f then (g, v) :: r else (g, x) :: putF f v r
theorem lookup_putF (f g : Str) (v : V) : ∀ fs : List (Str × V), (putF f v fs).lookup g = if g = f then some v else fs.lookup g
  | [] => by
    show List.lookup g [(f, v)] = _
    by_cases h : g = f
    · have hb : (g == f) = true := beq_iff_eq.mpr h
      simp only [List.lookup, hb, if_pos h]
    · have hb : (g == f) = false := beq_eq_false_iff_ne.mpr h
      simp only [List.lookup, hb, if_neg h]
  | (k, x) :: r => by
    have ih := lookup_putF f g v r
    rw [show putF f v ((k, x) :: r) = (if k = f then (k, v) :: r else (k, x) :: putF f v r) from rfl]
    by_cases hk : k = f
    · rw [if_pos hk]
      by_cases h : g = k
      · have hb : (g == k) = true := beq_iff_eq.mpr h
        simp only [List.lookup, hb, if_pos (h.trans hk)]
      · have hb : (g == k) = false := beq_eq_false_iff_ne.mpr h
        simp only [List.lookup, hb, if_neg (fun e : g = f => h (e.trans hk.symm))]
    · rw [if_neg hk]
      by_cases h : g = k
      · have hb : (g == k) = true := beq_iff_eq.mpr h
        simp only [List.lookup, hb, if_neg (fun e : g = f => hk (h.symm.trans e))]
      · have hb : (g == k) = false := beq_eq_false_iff_ne.mpr h
        simp only [List.lookup, hb]
        exact ih
theorem keys_putF (f : Str) (v : V) : ∀ fs : List (Str × V), f ∈ (putF f v fs).map (·.1) ∧ ∀ g, g ∈ fs.map (·.1) → g ∈ (putF f v fs).map (·.1)
  | [] => ⟨by simp [putF], fun g h => by simp at h⟩
  | (k, x) :: r => by
    obtain ⟨i1, i2⟩ := keys_putF f v r
    rw [show putF f v ((k, x) :: r) = (if k = f then (k, v) :: r else (k, x) :: putF f v r) from rfl]
    by_cases hk : k = f
    · rw [if_pos hk]
      subst hk
      exact ⟨by simp, fun g h => by simpa using h⟩
    · rw [if_neg hk]
      refine ⟨?_, fun g h => ?_⟩
      · rw [List.map_cons]
        exact List.mem_cons_of_mem _ i1
      · rw [List.map_cons] at h ⊢
        rcases List.mem_cons.mp h with e | e
        · exact List.mem_cons.mpr (.inl e)
        · exact List.mem_cons_of_mem _ (i2 g e)
theorem length_putF (f : Str) (v : V) : ∀ fs : List (Str × V), (putF f v fs).length ≤ fs.length + 1
  | [] => by simp [putF]
  | (k, x) :: r => by
    have ih := length_putF f v r
    rw [show putF f v ((k, x) :: r) = (if k = f then (k, v) :: r else (k, x) :: putF f v r) from rfl]
    by_cases hk : k = f
    · rw [if_pos hk, List.length_cons, List.length_cons]; omega
    · rw [if_neg hk, List.length_cons, List.length_cons]; omega
theorem RelO.some_of {v : V} {o : Option Value} (r : RelO (some v) o) : ∃ u, o = some u ∧ RelV v u := by
  cases o with
  | none => exact (show False from r).elim
  | some u => exact ⟨u, rfl, r⟩
theorem RelO.none_of {o : Option Value} (r : RelO none o) : o = none := by
  cases o with
  | none => rfl
  | some u => exact (show False from r).elim
theorem handed_of {v : V} {u : Value} (r : RelV v u) : PySem.W.handedIn u = true := by
  cases v with
  | non => cases (show u = Value.none from r); rfl
  | bl b => cases (show u = Value.bool b from r); rfl
  | int i => obtain ⟨t, e⟩ := (show ∃ t, u = Value.int i t from r); cases e; rfl
  | str x => obtain ⟨t, e⟩ := (show ∃ t, u = Value.str x t from r); cases e; rfl
  | byt b => obtain ⟨t, e⟩ := (show ∃ t, u = Value.bytes b t from r); cases e; rfl
  | flt b => obtain ⟨t, e⟩ := (show ∃ t, u = Value.float b t from r); cases e; rfl
  | ref a => cases (show u = Value.ref a from r); rfl
  | ty n => cases (show u = Value.type n from r); rfl
section
variable {P : Program} {w : World} {H H' : Hp} {h h' : Heap} {a C dx : Addr} {fs fs' : List (Str × V)}
theorem ins_get (hok : HOk P w H h) (e : H a = some (.ins C dx fs)) : ∃ mA, ObjM h a dx C mA ∧ (∀ f, RelO (fs.lookup f) (mA f)) ∧ PySem.Within mA (fs.map (·.1)) ∧ fs.length ≤ 1000 ∧ H dx = some (.own a) := by
  obtain ⟨d, z, ne, ob, mA, n, r, q⟩ := (show ObjOk P w H h a (.ins C dx fs) from hok a _ e)
  exact ⟨mA, ⟨ob, n, ne⟩, r, q, z, d⟩
end
structure Cls (K : PySem.W.Frag) (C : Addr) : Prop where
  pg : PySem.W.plainGet K C Str.empty = true
  hd : PySem.W.hasDictIn K C = true
  po : PySem.W.plainOver K C = true
  sa : PySem.W.findIn K (.ref C) "__setattr__" = some (some (.builtin "object.__setattr__"))
theorem Cls.get {K : PySem.W.Frag} {C : Addr} (c : Cls K C) (f : Str) : PySem.W.plainGet K C f = true := c.pg
def NoAttr (K : PySem.W.Frag) (C : Addr) (f : Str) : Prop := PySem.W.findIn K (.ref C) f = some none
theorem NoAttr.taker {K : PySem.W.Frag} {C : Addr} {f : Str} (n : NoAttr K C f) : PySem.W.takerIn K C f = some none := by
  unfold PySem.W.takerIn
  rw [show PySem.W.findIn K (.ref C) f = some none from n]
  rfl
structure Meth (K : PySem.W.Frag) (C : Addr) (m : Str) (f : Addr) : Prop where
  at_ : PySem.W.findIn K (.ref C) m = some (some (.ref f))
  fn : PySem.W.isFn K (.ref f) = true
  kp : PySem.W.keepIn K (.ref f) = true
section
variable {X : Cx} {pins : List (Addr × Obj)} {σ : St} {H : Hp} {s : Shared} {a C dx : Addr} {fs : List (Str × V)} {f : Str} {v : V} {A : Around} {E : Value → Shared → Prop}
theorem getattr_ok {b : Bool} {Q : Value → Shared → Prop} (I : Inv X pins σ H s) (e : H a = some (.ins C dx fs)) (c : Cls X.K C) (n : NoAttr X.K C f) (l : fs.lookup f = some v)
    (h : ∀ u s', Inv X pins σ H s' → RelV v u → Q u s') : wpAny (model X.prog X.w) A (getAttr (.ref a) f b) Q E s := by
  obtain ⟨mA, O, r, _, _, _⟩ := ins_get I.hok e
  obtain ⟨u, hu, ru⟩ := RelO.some_of (v := v) (o := mA f) (by rw [← l]; exact r f)
  exact get_map I.kIn O (c.get f) c.hd n hu (handed_of ru) (h u _ (I.tok _) ru)
theorem getmeth_ok {m : Str} {g : Addr} {pl : Sem Bool} {Q : Value × List Value → Shared → Prop} (I : Inv X pins σ H s) (e : H a = some (.ins C dx fs)) (c : Cls X.K C) (k : Meth X.K C m g) (l : fs.lookup m = none)
    (h : Q (.ref g, [.ref a]) s) : wpAny (model X.prog X.w) A (getMethod (.ref a) m pl) Q E s := by
  obtain ⟨mA, O, r, _, _, _⟩ := ins_get I.hok e
  have hn : mA m = none := RelO.none_of (by rw [← l]; exact r m)
  exact get_meth I.kIn O (c.get m) k.at_ k.fn hn h
theorem setattr_ok {y : V} {u : Value} {Q : Unit → Shared → Prop} (I : Inv X pins σ H s) (e : H a = some (.ins C dx fs)) (c : Cls X.K C) (n : NoAttr X.K C f) (hl : fs.length < 1000) (ry : RelV y u)
    (h : ∀ s', Inv X pins σ (upd H a (.ins C dx (putF f y fs))) s' → Q () s') : wpAny (model X.prog X.w) A (setAttr (.ref a) f u) Q E s := by
  obtain ⟨mA, O, r, wi, _, ho⟩ := ins_get I.hok e
  have hz : (fs.map (·.1)).length ≤ sizeLine := by rw [List.length_map, sizeLine_eq]; omega
  refine set_map I.kIn O c.sa c.po n.taker c.hd wi hz fun h' O' sb => h _ ?_
  have hd : ∃ o, h'.get? dx = some o := let ⟨o, _, _, e', _⟩ := O'.ns; ⟨o, e'⟩
  refine I.write (x := a) (e := dx) (by rw [e]; exact True.intro) (.inr ho) (fun b q hb z => (sb.2 b hb).trans z) hd ?_
  refine ⟨by rw [upd_ne O.ne]; exact ho, ?_, O.ne, O'.obj, _, O'.ns, fun g => ?_, fun g hg => ?_⟩
  · have := length_putF f y fs; omega
  · show RelO ((putF f y fs).lookup g) (if g = f then some u else mA g)
    rw [lookup_putF]
    by_cases q : g = f
    · rw [if_pos q, if_pos q]; exact ry
    · rw [if_neg q, if_neg q]; exact r g
  · by_cases q : g = f
    · rw [q]; exact (keys_putF f y fs).1
    · refine (keys_putF f y fs).2 g (wi g fun z => hg ?_)
      show (if g = f then some u else mA g) = none
      rw [if_neg q]; exact z
theorem Inv.made (I : Inv X pins σ H s) : Inv X pins σ (upd (upd H s.heap.objs.size (.own (s.heap.objs.size + 1))) (s.heap.objs.size + 1) (.ins C s.heap.objs.size []))
    { s with heap := (s.heap.push PySem.W.emptyDict).push (PySem.W.instObj C s.heap.objs.size) } := by
  have e1 : (s.heap.push PySem.W.emptyDict).get? s.heap.objs.size = some PySem.W.emptyDict := Heap.get?_push_size s.heap rfl
  have e2 : ((s.heap.push PySem.W.emptyDict).push (PySem.W.instObj C s.heap.objs.size)).get? (s.heap.objs.size + 1) = some (PySem.W.instObj C s.heap.objs.size) := by
    have := Heap.get?_push_size (s.heap.push PySem.W.emptyDict) (o := PySem.W.instObj C s.heap.objs.size) rfl
    rwa [Heap.size_push] at this
  have e3 : (s.heap.push PySem.W.emptyDict).Ns s.heap.objs.size (fun _ => none) := ⟨PySem.W.emptyDict, #[], _, e1, rfl, (fun e he => absurd he (by simp)), fun _ => rfl⟩
  have I1 := I.laid (a := s.heap.objs.size) (o := .own (s.heap.objs.size + 1)) (h' := s.heap.push PySem.W.emptyDict) (t' := s.toks) (fun b u q => Heap.get?_push_of_some _ q) (Nat.le_refl _) ⟨_, e1⟩
  refine I1.laid (a := s.heap.objs.size + 1) (o := .ins C s.heap.objs.size []) (t' := s.toks) (fun b u q => Heap.get?_push_of_some _ q) (Nat.le_of_eq (Heap.size_push _ _)) ?_
  have ne : s.heap.objs.size ≠ s.heap.objs.size + 1 := Nat.ne_of_lt (Nat.lt_succ_self _)
  refine ⟨by rw [upd_ne ne, upd_same], Nat.zero_le _, ne, e2, fun _ => none, (Heap.Ns1.of_empty e3).at fun o q => Heap.get?_push_of_some _ q, fun _ => True.intro, fun y hy => absurd rfl hy⟩
theorem attr_of {prog : Program} {w : World} {env : Env} {e : Expr} {f : Str} {pos : Pos} {s : Shared} {Q : Value → Shared → Prop} (hb : attributeBase e f env (eval e env) = eval e env)
    (h : wpAny (model prog w) A (eval e env) (fun o s₁ => wpAny (model prog w) A (getAttr o f true) Q E s₁) E s) : wpAny (model prog w) A (eval (.Attribute e f pos) env) Q E s :=
  Attribute_any_ h (by rw [arm_eval_Attribute, hb])
end
def tFld (K : PySem.W.Frag) (ta : TE) (f : Str) : TE := fun σ H Q => ta σ H fun x H1 => ∃ a C dx fs v, x = .ref a ∧ H1 a = some (.ins C dx fs) ∧ Cls K C ∧ NoAttr K C f ∧ fs.lookup f = some v ∧ Q v H1
def sFld (K : PySem.W.Frag) (ta tv : TE) (f : Str) : TS := fun D σ H => tv σ H fun y H1 => ta σ H1 fun x H2 => ∃ a C dx fs, x = .ref a ∧ H2 a = some (.ins C dx fs) ∧ Cls K C ∧ NoAttr K C f ∧ fs.length < 1000 ∧
  D.nx σ (upd H2 a (.ins C dx (putF f y fs)))
section
variable {X : Cx} {o e value : Expr} {f : Str} {pos pos' tpos : Pos} {ta tv : TE}
theorem pe_fld (he : PE X e ta) (hb : attributeBase e f X.env (eval e X.env) = eval e X.env) : PE X (.Attribute e f pos) (tFld X.K ta f) := by
  intro pins s σ H Q I h
  refine attr_of hb (thn (he pins s σ H _ I h) fun u s1 ⟨x, H1, I1, rx, a, C, dx, fs, v, ex, ea, c, n, l, q⟩ => ?_)
  subst ex
  obtain rfl : u = Value.ref a := rx
  exact getattr_ok I1 ea c n l fun u' s2 I2 ru => ⟨v, H1, I2, ru, q⟩
theorem ps_fld (ha : PE X o ta) (hv : PE X value tv) (hs : swapsWith value (some (.Attribute o f pos')) pos.line X.env = pure false) : PS X (.Assign [.Attribute o f pos'] value pos) (sFld X.K ta tv f) := by
  intro pins s σ H D I h
  refine plainObj_wpAny_Assign_Attribute (thn (hv pins s σ H _ I h) fun u s1 ⟨y, H1, I1, ry, q⟩ => thn (ha pins s1 σ H1 _ I1 q) fun ov s2 ⟨x, H2, I2, rx, a, C, dx, fs, ex, ea, c, n, l, q2⟩ => ?_) hs
  subst ex
  obtain rfl : ov = Value.ref a := rx
  exact setattr_ok I2 ea c n l ry fun s3 I3 => ⟨σ, _, I3, q2⟩
end
section
variable {X : Cx} {pins : List (Addr × Obj)} {σ : St} {H : Hp} {s : Shared} {A : Around} {E : Value → Shared → Prop} {Q : Value → Shared → Prop} {c : Value} {b : Bool}
inductive TyOf (K : PySem.W.Frag) (H : Hp) : V → Value → Prop where
  | non : TyOf K H .non (.type "NoneType")
  | bl (x : Bool) : TyOf K H (.bl x) (.type "bool")
  | int (i : Int) : TyOf K H (.int i) (.type "int")
  | str (x : Str) : TyOf K H (.str x) (.type "str")
  | flt (x : UInt64) : TyOf K H (.flt x) (.type "float")
  | lst {a : Addr} {xs : List V} (e : H a = some (.lst xs)) : TyOf K H (.ref a) (.type "list")
  | frz {a : Addr} {o : Obj} {xs : List V} (e : H a = some (.frz o (.lst xs))) : TyOf K H (.ref a) (.type "list")
  | tup {a : Addr} {xs : List V} (e : H a = some (.tup xs)) : TyOf K H (.ref a) (.type "tuple")
  | dK {a : Addr} {kvs : List (Key × V)} (e : H a = some (.dK kvs)) : TyOf K H (.ref a) (.type "dict")
  | dT {a : Addr} {kvs : List (List Key × V)} (e : H a = some (.dT kvs)) : TyOf K H (.ref a) (.type "dict")
  | ins {a C dx : Addr} {fs : List (Str × V)} (e : H a = some (.ins C dx fs)) (cl : Cls K C) (ha : PySem.W.findIn K (.ref C) "__class__" = some (some (.builtin "object.__class__")))
      (hn : PySem.W.specialIn K (.builtin "object.__class__") "__get__" = some (some (.builtin "getset_descriptor.__get__"))) (htk : PySem.W.takesIn K (.builtin "object.__class__") = some true)
      (hm : PySem.W.mroIn K C (.type "object") = some true) : TyOf K H (.ref a) (.ref C)
theorem isinst_ok {x : V} {u t : Value} (I : Inv X pins σ H s) (rx : RelV x u) (ty : TyOf X.K H x t) (e : PySem.W.kitOne X.K t c = some b) (h : ∀ tk, Q (.bool b) { s with toks := tk }) :
    wpAny (model X.prog X.w) A (call (.builtin "isinstance") [u, c]) Q E s := by
  cases ty with
  | non => cases (show u = Value.none from rx); exact PySem.W.kia_one PySem.W.kitx_none I.kIn True.intro e (fun z => nomatch z) h
  | bl y => cases (show u = Value.bool y from rx); exact PySem.W.kia_one PySem.W.kitx_bool I.kIn True.intro e (fun z => nomatch z) h
  | int i => obtain ⟨t, q⟩ := (show ∃ t, u = Value.int i t from rx); cases q; exact PySem.W.kia_one PySem.W.kitx_int I.kIn True.intro e (fun z => nomatch z) h
  | str y => obtain ⟨t, q⟩ := (show ∃ t, u = Value.str y t from rx); cases q; exact PySem.W.kia_one PySem.W.kitx_str I.kIn True.intro e (fun z => nomatch z) h
  | flt y => obtain ⟨t, q⟩ := (show ∃ t, u = Value.float y t from rx); cases q; exact PySem.W.kia_one PySem.W.kitx_float I.kIn True.intro e (fun z => nomatch z) h
  | @lst a xs ea =>
    cases (show u = Value.ref a from rx)
    obtain ⟨_, _, n, _, h1⟩ := (show ObjOk X.prog X.w H s.heap a (.lst xs) from I.hok a _ ea)
    exact PySem.W.kia_one PySem.W.kitx_list I.kIn ⟨_, h1, rfl⟩ e (fun z => nomatch z) h
  | @frz a ob xs ea =>
    cases (show u = Value.ref a from rx)
    obtain ⟨_, _, _, n, _, h1⟩ := (show ObjOk X.prog X.w H s.heap a (.frz ob (.lst xs)) from I.hok a _ ea)
    exact PySem.W.kia_one PySem.W.kitx_list I.kIn ⟨_, h1, rfl⟩ e (fun z => nomatch z) h
  | @tup a xs ea =>
    cases (show u = Value.ref a from rx)
    obtain ⟨_, _, _, p⟩ := (show ObjOk X.prog X.w H s.heap a (.tup xs) from I.hok a _ ea)
    obtain ⟨o, h1, h2, _⟩ := p
    exact PySem.W.kia_one PySem.W.kitx_tuple I.kIn ⟨o, h1, h2⟩ e (fun z => nomatch z) h
  | @dK a kvs ea =>
    cases (show u = Value.ref a from rx)
    obtain ⟨_, _, vs, _, p⟩ := (show ObjOk X.prog X.w H s.heap a (.dK kvs) from I.hok a _ ea)
    obtain ⟨o, es, ep, h1, h2, _⟩ := p
    exact PySem.W.kia_one PySem.W.kitx_dict I.kIn ⟨o, h1, h2.1⟩ e (fun z => nomatch z) h
  | @dT a kvs ea =>
    cases (show u = Value.ref a from rx)
    obtain ⟨_, _, xs, _, o, es, ep, h1, h2, _⟩ := (show ObjOk X.prog X.w H s.heap a (.dT kvs) from I.hok a _ ea)
    exact PySem.W.kia_one PySem.W.kitx_dict I.kIn ⟨o, h1, h2.1⟩ e (fun z => nomatch z) h
  | @ins a C dx fs ea cl ha hn htk hm =>
    cases (show u = Value.ref a from rx)
    obtain ⟨mA, O, _⟩ := ins_get I.hok ea
    obtain ⟨od, J, _⟩ := O.look
    exact PySem.W.kia_one (PySem.W.kitx_own (cl.get _) cl.hd ha hn htk hm) I.kIn J e (fun z => nomatch z) h
end
end L2
namespace L2
open PySem PySem.Spec PyProof.Rows
structure Room (k : Nat) (A : Around) : Prop where
  hd : A.handled = none
  dp : A.depth + 3 * k + 5 < recursionLimit
  un : A.units + 16 * k + 200 < cLine
theorem Room.mono {j k : Nat} {A : Around} (r : Room k A) (h : j ≤ k) : Room j A := ⟨r.hd, by have := r.dp; omega, by have := r.un; omega⟩
theorem Room.deeper {k : Nat} {A : Around} (r : Room (k + 1) A) (env : Env) : Room k (A.deeper env) :=
  ⟨r.hd, by have := r.dp; show A.depth + 1 + 3 * k + 5 < _; omega, by have := r.un; show A.units + 3 + 16 * k + 200 < _; omega⟩
theorem Room.in1 {k : Nat} {A : Around} (r : Room (k + 1) A) : Room k A.in1 :=
  ⟨r.hd, by have := r.dp; show A.depth + 3 * k + 5 < _; omega, by have := r.un; show A.units + 1 + 16 * k + 200 < _; omega⟩
theorem make_depth {A : Around} {C : Addr} {us : List Value} {kw : List (Str × Value)} : (A.under (.builtin "type.__call__" ⟨.ref C :: us, kw⟩)).depth = A.depth + 1 := by
  first | rfl | simp [Around.under, Code.weight, Code.isCreation, Code.isGuard, Code.isCaller, Code.frames, Code.isFrame, guardIds]
theorem make_units {A : Around} {C : Addr} {us : List Value} {kw : List (Str × Value)} : (A.under (.builtin "type.__call__" ⟨.ref C :: us, kw⟩)).units = A.units + 1 := by
  first | rfl | simp [Around.under, Code.cUnits, Code.frames, Code.isFrame]
theorem Room.make {k : Nat} {A : Around} (r : Room (k + 1) A) (C : Addr) (us : List Value) (kw : List (Str × Value)) : Room k (A.under (.builtin "type.__call__" ⟨.ref C :: us, kw⟩)) :=
  ⟨r.hd, by have := r.dp; rw [make_depth]; omega, by have := r.un; rw [make_units]; omega⟩
theorem Room.depth {k : Nat} {A : Around} (r : Room k A) : A.depth < recursionLimit := by have := r.dp; omega
theorem Room.units {k : Nat} {A : Around} (r : Room k A) : A.units + 64 < cLine := by have := r.un; omega
theorem Room.units0 {k : Nat} {A : Around} (r : Room k A) : A.units < cLine := by have := r.un; omega
def tNil : TA := fun _ H Q => Q [] H
def tCons (ta : TE) (tr : TA) : TA := fun σ H Q => ta σ H fun x H1 => tr σ H1 fun xs H2 => Q (x :: xs) H2
section
variable {X : Cx} {e : Expr} {es : List Expr} {te : TE} {t : TA} {pos : Pos}
theorem pa_nil : PA X [] tNil := fun _ _ _ _ H Q I h => Calls.spliced_nil ⟨[], H, I, .nil, h⟩
theorem pa_cons (ha : PE X e te) (hr : PA X es t) (hs : starEach (e :: es) X.env = (false, eval e X.env) :: starEach es X.env := by rfl) : PA X (e :: es) (tCons te t) := by
  intro pos pins s σ H Q I h
  rw [hs]
  show wpAny _ _ (spliced ((false, eval e X.env) :: backTo pos (starEach es X.env))) _ _ s
  refine Calls.spliced_cons (thn (ha pins s σ H _ I h) fun u s1 ⟨x, H1, I1, r1, q1⟩ => ?_)
  exact thn (hr pos pins s1 σ H1 _ I1 q1) fun us s2 ⟨xs, H2, I2, r2, q2⟩ => ⟨x :: xs, H2, I2, .cons r1 r2, q2⟩
def tTup (t : TA) : TE := fun σ H Q => t σ H fun xs H1 => xs.length ≤ sizeLine ∧ ∀ p, H1 p = none → Q (.ref p) (upd H1 p (.tup xs))
def tLst (t : TA) : TE := fun σ H Q => t σ H fun xs H1 => xs.length ≤ sizeLine ∧ ∀ p, H1 p = none → Q (.ref p) (upd H1 p (.lst xs))
theorem pe_tup {x1} (h : PA X es t) : PE X (.Tuple es x1 pos) (tTup t) := by
  intro pins s σ H Q I hq
  refine wpAny_Tuple_spliced (thn (h pos pins s σ H _ I hq) fun us s1 ⟨xs, H1, I1, r, z, q⟩ => ⟨by rw [← r.length]; exact z, ?_⟩)
  have hf : H1 s1.heap.objs.size = none := I1.hok.fresh (Nat.le_refl _)
  refine ⟨.ref s1.heap.objs.size, upd H1 s1.heap.objs.size (.tup xs), I1.laid (t' := s1.toks) (fun b u e => Heap.get?_push_of_some _ e) (Nat.le_refl _) ?_, rfl, q _ hf⟩
  exact ⟨z, us, r, ⟨_, Heap.get?_push_size _ rfl, rfl, _, rfl⟩⟩
theorem pe_lst (h : PA X es t) : PE X (.List es pos) (tLst t) := by
  intro pins s σ H Q I hq
  refine wpAny_List_spliced (thn (h pos pins s σ H _ I hq) fun us s1 ⟨xs, H1, I1, r, z, q⟩ => ⟨by rw [← r.length]; exact z, ?_⟩)
  have hf : H1 s1.heap.objs.size = none := I1.hok.fresh (Nat.le_refl _)
  refine ⟨.ref s1.heap.objs.size, upd H1 s1.heap.objs.size (.lst xs), I1.laid (t' := s1.toks) (fun b u e => Heap.get?_push_of_some _ e) (Nat.le_refl _) ?_, rfl, q _ hf⟩
  exact ⟨z, us, 0, r, Heap.get?_push_size _ rfl⟩
end
abbrev Sp := List V → Hp → VK → XK → Prop
abbrev CXT := List Env → Hp → Shared → XK → Value → Shared → Prop
structure Env0 (P : Program) (w : World) (K : PySem.W.Frag) (mg : Str → Option Value) (base : Heap) (A : Around) (outer : List Env) (s : Shared) (H : Hp) : Prop where
  frames : A.frames = some outer
  mod : Mod K mg base
  bs : ∀ b o, base.get? b = some o → s.heap.get? b = some o ∧ H b = none
  bsz : base.objs.size ≤ s.heap.objs.size
  funs : s.heap.FunFrames base outer
  frf : ∀ b ∈ frs outer, H b = none
  hok : HOk P w H s.heap
  bare : AllBare s.gens
def CE (outer : List Env) (P : Program) (w : World) (H : Hp) (s : Shared) (Q : VK) (u : Value) (s' : Shared) : Prop :=
  ∃ v H', s'.os = s.os ∧ AllBare s'.gens ∧ Un (frs outer) [] H H' s.heap s'.heap ∧ HOk P w H' s'.heap ∧ RelV v u ∧ Q v H'
def CR (CX : CXT) (outer : List Env) (P : Program) (w : World) (H : Hp) (s : Shared) (Q : VK) (E : XK) (r : Result) (s' : Shared) : Prop :=
  match r with
  | .ok (.ret u) => CE outer P w H s Q u s'
  | .ok _ => False
  | .error e => CX outer H s E e s'
structure FnOk (P : Program) (w : World) (K : PySem.W.Frag) (mg : Str → Option Value) (base : Heap) (CX : CXT) (k : Nat) (f : Addr) (fd : FuncData) (ps : List Str) (sp : Sp) : Prop where
  len : ∀ vs H Q E, sp vs H Q E → vs.length = ps.length
  run : ∀ (A : Around) (outer : List Env) (s : Shared) (H : Hp) (args : Args) (us : List Value) (vs : List V) (Q : VK) (E : XK), Room k A → Env0 P w K mg base A outer s H → BindsTo s fd args (ps.zip us) → Vals vs us → sp vs H Q E →
    codeAny (model P w) A (.call (.ref f) args) (CR CX outer P w H s Q E) s
theorem FnOk.mono {P : Program} {w : World} {K : PySem.W.Frag} {mg : Str → Option Value} {base : Heap} {CX : CXT} {j k : Nat} {f : Addr} {fd : FuncData} {ps : List Str} {sp : Sp} (F : FnOk P w K mg base CX j f fd ps sp) (h : j ≤ k) :
    FnOk P w K mg base CX k f fd ps sp := ⟨F.len, fun A outer s H args us vs Q E hr => F.run A outer s H args us vs Q E (hr.mono h)⟩
theorem FnOk.imp {P : Program} {w : World} {K : PySem.W.Frag} {mg : Str → Option Value} {base : Heap} {CX : CXT} {k : Nat} {f : Addr} {fd : FuncData} {ps : List Str} {sp sp' : Sp} (F : FnOk P w K mg base CX k f fd ps sp)
    (h : ∀ vs H Q E, sp' vs H Q E → sp vs H Q E) : FnOk P w K mg base CX k f fd ps sp' :=
  ⟨fun vs H Q E q => F.len vs H Q E (h _ _ _ _ q), fun A outer s H args us vs Q E hr he hb hv hs => F.run A outer s H args us vs Q E hr he hb hv (h _ _ _ _ hs)⟩
theorem Env0.make {P : Program} {w : World} {K : PySem.W.Frag} {mg : Str → Option Value} {base : Heap} {A : Around} {outer : List Env} {s : Shared} {H : Hp} (e : Env0 P w K mg base A outer s H) (C : Addr) (us : List Value) (kw : List (Str × Value)) :
    Env0 P w K mg base (A.under (.builtin "type.__call__" ⟨.ref C :: us, kw⟩)) outer s H := ⟨by first | exact e.frames | (simpa [Around.under, Code.envs, Code.isFrame, pushEnvs] using e.frames), e.mod, e.bs, e.bsz, e.funs, e.frf, e.hok, e.bare⟩
theorem Env0.in1 {P : Program} {w : World} {K : PySem.W.Frag} {mg : Str → Option Value} {base : Heap} {A : Around} {outer : List Env} {s : Shared} {H : Hp} (e : Env0 P w K mg base A outer s H) :
    Env0 P w K mg base A.in1 outer s H := ⟨e.frames, e.mod, e.bs, e.bsz, e.funs, e.frf, e.hok, e.bare⟩
section
variable {X : Cx} {pins : List (Addr × Obj)} {σ : St} {H : Hp} {s s' : Shared}
theorem Inv.env0 (I : Inv X pins σ H s) : Env0 X.prog X.w X.K X.mg X.base X.A X.stack s H :=
  ⟨I.ok.frames, I.ok.mod, I.bs, Nat.le_trans I.ok.bsz I.sz, I.stack, I.stkFree, I.hok, I.bare⟩
theorem Inv.after {Q : VK} {u : Value} (I : Inv X pins σ H s) (h : CE X.stack X.prog X.w H s Q u s') : EP X pins σ Q u s' := by
  obtain ⟨v, H', os, bare, un, hok, r, q⟩ := h
  obtain ⟨hh, g, d, t, os'⟩ := s'
  obtain rfl : os' = s.os := os
  exact ⟨v, H', I.call (h' := hh) (g' := g) (d' := d) (t' := t) (ch := []) un hok bare (fun b z => absurd z (by simp)), r, q⟩
end
def tCall (sp : Sp) (dvs : List V) (E : XK) (t : TA) : TE := fun σ H Q => t σ H fun vs H1 => sp (vs ++ dvs) H1 Q E
def tMeth (C : Addr) (m : Str) (sp : Sp) (dvs : List V) (E : XK) (ta : TE) (t : TA) : TE := fun σ H Q => ta σ H fun x H1 => ∃ a dx fs, x = .ref a ∧ H1 a = some (.ins C dx fs) ∧ fs.lookup m = none ∧
  t σ H1 fun vs H2 => sp (x :: (vs ++ dvs)) H2 Q E
def tMake (C : Addr) (sp : Sp) (dvs : List V) (E : XK) (t : TA) : TE := fun σ H Q => t σ H fun vs H1 => ∀ x dx, H1 x = none → H1 dx = none → dx ≠ x →
  sp (.ref x :: (vs ++ dvs)) (upd (upd H1 dx (.own x)) x (.ins C dx [])) (fun v H2 => v = .non ∧ Q (.ref x) H2) E
def Binds (K : PySem.W.Frag) (fd : FuncData) (ps : List Str) (ds : List Value) : Prop :=
  ∀ (s : Shared) (us : List Value), K.In s.heap → (us ++ ds).length = ps.length → BindsTo s fd ⟨us, []⟩ (ps.zip (us ++ ds))
theorem Binds.all {K : PySem.W.Frag} {fd : FuncData} {ps : List Str} (h : ∀ us : List Value, us.length = ps.length → bindArgs fd ⟨us, []⟩ = pure (ps.zip us)) : Binds K fd ps [] := fun s us _ hl => by
  rw [List.append_nil] at hl ⊢
  exact .of_eq (h us hl)
def Passes (CX : CXT) (X : Cx) (E : XK) : Prop := ∀ (pins : List (Addr × Obj)) (σ : St) (H : Hp) (s : Shared) (e : Value) (s' : Shared), Inv X pins σ H s → CX X.stack H s E e s' → X.xe e s'
section
variable {X : Cx} {CX : CXT} {k : Nat} {f C : Addr} {fd : FuncData} {ps : List Str} {sp : Sp} {dvs : List V} {ds : List Value} {E : XK} {x m : Str} {p pos apos : Pos} {e o : Expr} {es : List Expr} {ta : TE} {t : TA}
theorem run_fn {pins : List (Addr × Obj)} {σ : St} {H : Hp} {s : Shared} {Q : VK} {us : List Value} {vs : List V} (F : FnOk X.prog X.w X.K X.mg X.base CX k f fd ps sp) (hr : Room k X.A) (hb : Binds X.K fd ps ds) (hd : Vals dvs ds) (hx : Passes CX X E)
    (I : Inv X pins σ H s) (r : Vals vs us) (h : sp (vs ++ dvs) H Q E) : wpAny (model X.prog X.w) X.A (call (.ref f) us) (EP X pins σ Q) X.xe s := by
  have r2 : Vals (vs ++ dvs) (us ++ ds) := r.append hd
  have hl : (us ++ ds).length = ps.length := by rw [← r2.length]; exact F.len _ _ _ _ h
  refine wpAny_call (codeAny_mono (F.run X.A X.stack s H ⟨us, []⟩ (us ++ ds) (vs ++ dvs) Q E hr I.env0 (hb s us I.kIn hl) r2 h) fun r s' hq => ?_)
  cases r with
  | error e => exact hx pins σ H s e s' I hq
  | ok fl =>
    cases fl with
    | ret u => exact I.after hq
    | next => exact False.elim hq
    | brk => exact False.elim hq
    | cont => exact False.elim hq
theorem pe_call (F : FnOk X.prog X.w X.K X.mg X.base CX k f fd ps sp) (hr : Room k X.A) (hg : Gl X x) (hm : X.mg x = some (.ref f)) (hk : PySem.W.keepIn X.K (.ref f) = true) (hb : Binds X.K fd ps ds) (hd : Vals dvs ds) (hx : Passes CX X E)
    (ha : PA X (e :: es) t) (hdb : (x == ("__debug__" : Str)) = false := by decide) (he : starEach (e :: es) X.env = (false, eval e X.env) :: starEach es X.env := by rfl) (hpl : (backTo pos (starEach es X.env)).any (·.1) = false := by rfl) :
    PE X (.Call (.Name x p) (e :: es) [] pos) (tCall sp dvs E t) := by
  intro pins s σ H Q I h
  refine wpAny_Call_Name_kw (ld_glob I hg hm ?_ hdb)
  refine PySem.W.callWith_K (h₀ := X.base) I.ok.mod.kin hk (thn (ha pos pins s σ H _ I h) fun us s1 ⟨vs, H1, I1, r, q⟩ => ⟨I1.kIn, ?_⟩) he hpl
  exact run_fn F hr hb hd hx I1 r q
theorem pe_meth {pl : Sem Bool} (he : PE X o ta) (c : Cls X.K C) (hm : Meth X.K C m f) (F : FnOk X.prog X.w X.K X.mg X.base CX k f fd ps sp) (hr : Room k X.A) (hb : Binds X.K fd ps ds) (hd : Vals dvs ds) (hx : Passes CX X E) (ha : PA X (e :: es) t)
    (hst : starEach (e :: es) X.env = (false, eval e X.env) :: starEach es X.env := by rfl) (hpl : (backTo pos (starEach es X.env)).any (·.1) = false := by rfl)
    (ht : eval (.Call (.Attribute o m apos) (e :: es) [] pos) X.env = (do
      let ov ← eval o X.env
      standAt apos.atName
      let (f, first) ← holding [ov] (getMethod ov m pl)
      callWith pos f first (backTo pos (starEach (e :: es) X.env)) (backToKw pos (keywordEach [] X.env))) := by rfl) :
    PE X (.Call (.Attribute o m apos) (e :: es) [] pos) (tMeth C m sp dvs E ta t) := by
  intro pins s σ H Q I h
  refine PySem.W.methodCall_KW (pl := pl) (thn (he pins s σ H _ I h) fun u s1 ⟨x, H1, I1, rx, a, dx, fs, ex, ea, l, q⟩ => ?_) ht
  subst ex
  obtain rfl : u = Value.ref a := rx
  refine getmeth_ok I1 ea c hm l ?_
  refine PySem.W.callWith_K (first := [.ref a]) (h₀ := X.base) I.ok.mod.kin hm.kp (thn (ha pos pins s1 σ H1 _ I1 q) fun us s2 ⟨vs, H2, I2, r, q2⟩ => ⟨I2.kIn, ?_⟩) hst hpl
  exact run_fn (us := .ref a :: us) (vs := .ref a :: vs) F hr hb hd hx I2 (.cons rfl r) q2
theorem pe_meth0 {pl : Sem Bool} (he : PE X o ta) (c : Cls X.K C) (hm : Meth X.K C m f) (F : FnOk X.prog X.w X.K X.mg X.base CX k f fd ps sp) (hr : Room k X.A) (hb : Binds X.K fd ps ds) (hd : Vals dvs ds) (hx : Passes CX X E)
    (ht : eval (.Call (.Attribute o m apos) [] [] pos) X.env = (do
      let ov ← eval o X.env
      standAt apos.atName
      let (f, first) ← holding [ov] (getMethod ov m pl)
      callWith pos f first (backTo pos (starEach [] X.env)) (backToKw pos (keywordEach [] X.env))) := by rfl) :
    PE X (.Call (.Attribute o m apos) [] [] pos) (tMeth C m sp dvs E ta tNil) := by
  intro pins s σ H Q I h
  refine PySem.W.methodCall_KW (pl := pl) (thn (he pins s σ H _ I h) fun u s1 ⟨x, H1, I1, rx, a, dx, fs, ex, ea, l, q⟩ => ?_) ht
  subst ex
  obtain rfl : u = Value.ref a := rx
  refine getmeth_ok I1 ea c hm l ?_
  exact PySem.W.callWith_K0 (first := [.ref a]) I1.kIn hm.kp (run_fn (us := [.ref a]) (vs := [.ref a]) F hr hb hd hx I1 (.cons rfl .nil) q)
structure Mk (K : PySem.W.Frag) (C f : Addr) : Prop where
  makes : PySem.W.makesIn K C = true
  init : PySem.W.findIn K (.ref C) "__init__" = some (some (.ref f))
  fn : PySem.W.isFn K (.ref f) = true
  kp : PySem.W.keepIn K (.ref C) = true
theorem run_make {pins : List (Addr × Obj)} {σ : St} {H : Hp} {s : Shared} {Q : VK} {us : List Value} {vs : List V} (M : Mk X.K C f) (F : FnOk X.prog X.w X.K X.mg X.base CX k f fd ps sp) (hr : Room (k + 1) X.A) (hb : Binds X.K fd ps ds) (hd : Vals dvs ds)
    (hx : Passes CX X E) (I : Inv X pins σ H s) (r : Vals vs us)
    (h : ∀ x dx, H x = none → H dx = none → dx ≠ x → sp (.ref x :: (vs ++ dvs)) (upd (upd H dx (.own x)) x (.ins C dx [])) (fun v H2 => v = .non ∧ Q (.ref x) H2) E) :
    wpAny (model X.prog X.w) X.A (call (.ref C) us) (EP X pins σ Q) X.xe s := by
  have hq := h (s.heap.objs.size + 1) s.heap.objs.size (I.hok.fresh (Nat.le_succ _)) (I.hok.fresh (Nat.le_refl _)) (Nat.ne_of_lt (Nat.lt_succ_self _))
  have I2 := Inv.made (C := C) I
  have r2 : Vals (V.ref (s.heap.objs.size + 1) :: (vs ++ dvs)) (Value.ref (s.heap.objs.size + 1) :: (us ++ ds)) := .cons rfl (r.append hd)
  have hl : (Value.ref (s.heap.objs.size + 1) :: us ++ ds).length = ps.length := by
    have e := r2.length
    rw [F.len _ _ _ _ hq] at e
    exact e.symm
  refine wpAny_call (make_map (f := f) I.kIn M.makes M.init (beq_iff_eq.mp M.fn) (codeAny_mono (F.run _ X.stack _ _ ⟨Value.ref (s.heap.objs.size + 1) :: us, []⟩ (Value.ref (s.heap.objs.size + 1) :: (us ++ ds)) _ _ E (hr.make C us [])
    (I2.env0.make C us []) (hb _ (Value.ref (s.heap.objs.size + 1) :: us) I2.kIn hl) r2 hq) fun r s' hq' => ?_))
  cases r with
  | error e => exact hx pins σ _ _ e s' I2 hq'
  | ok fl =>
    cases fl with
    | ret u =>
      obtain ⟨v, H', I3, rv, ev, q3⟩ := I2.after hq'
      subst ev
      exact ⟨rv, ⟨V.ref (s.heap.objs.size + 1), H', I3, rfl, q3⟩⟩
    | next => exact False.elim hq'
    | brk => exact False.elim hq'
    | cont => exact False.elim hq'
theorem pe_make (M : Mk X.K C f) (F : FnOk X.prog X.w X.K X.mg X.base CX k f fd ps sp) (hr : Room (k + 1) X.A) (hg : Gl X x) (hm : X.mg x = some (.ref C)) (hb : Binds X.K fd ps ds) (hd : Vals dvs ds) (hx : Passes CX X E)
    (ha : PA X (e :: es) t) (hdb : (x == ("__debug__" : Str)) = false := by decide) (he : starEach (e :: es) X.env = (false, eval e X.env) :: starEach es X.env := by rfl) (hpl : (backTo pos (starEach es X.env)).any (·.1) = false := by rfl) :
    PE X (.Call (.Name x p) (e :: es) [] pos) (tMake C sp dvs E t) := by
  intro pins s σ H Q I h
  refine wpAny_Call_Name_kw (ld_glob I hg hm ?_ hdb)
  refine PySem.W.callWith_K (h₀ := X.base) I.ok.mod.kin M.kp (thn (ha pos pins s σ H _ I h) fun us s1 ⟨vs, H1, I1, r, q⟩ => ⟨I1.kIn, ?_⟩) he hpl
  exact run_make M F hr hb hd hx I1 r q
theorem pe_make0 (M : Mk X.K C f) (F : FnOk X.prog X.w X.K X.mg X.base CX k f fd ps sp) (hr : Room (k + 1) X.A) (hg : Gl X x) (hm : X.mg x = some (.ref C)) (hb : Binds X.K fd ps ds) (hd : Vals dvs ds) (hx : Passes CX X E)
    (hdb : (x == ("__debug__" : Str)) = false := by decide) : PE X (.Call (.Name x p) [] [] pos) (tMake C sp dvs E tNil) := by
  intro pins s σ H Q I h
  refine wpAny_Call_Name_kw (ld_glob I hg hm ?_ hdb)
  exact PySem.W.callWith_K0 I.kIn M.kp (run_make (us := []) M F hr hb hd hx I .nil h)
end
section
variable {X : Cx} {CX : CXT} {k : Nat} {f C : Addr} {fd : FuncData} {ps ks : List Str} {sp : Sp} {E : XK} {x m : Str} {p pos apos kpos : Pos} {e o : Expr} {es : List Expr} {kws : List Keyword} {te ta : TE} {t tk : TA} {nm : Option Str}
variable {g : List Value → List Value → List Value} {gV : List V → List V → List V}
end
structure FnScope (N P : List Str) (sc : Scope) : Prop where
  kind : sc.kind = .function
  co : sc.isCoroutine = false
  gen : sc.isGenerator = false
  nd : N.Nodup
  pre : N.take P.length = P
  par : ∀ x ∈ P, sc.names.lookup x = some .local ∨ sc.names.lookup x = some .cell
  nofree : ∀ y ∈ sc.names, y.2 ≠ .free
theorem bindL_out {kindOf : Str → Option NameKind} {x : Str} : ∀ {binds : List (Str × Value)} {m : Str → Option Value}, (∀ v, (x, v) ∉ binds) → bindL kindOf binds m x = m x
  | [], _, _ => rfl
  | (n, v) :: r, m, h => by
    unfold bindL
    rw [bindL_out fun w hw => h w (List.mem_cons_of_mem _ hw)]
    split
    · have : x ≠ n := by rintro rfl; exact h v List.mem_cons_self
      simp [this]
    · rfl
theorem bindC_out {kindOf : Str → Option NameKind} {x : Str} : ∀ {binds : List (Str × Value)} {m : Str → Option Value}, (∀ v, (x, v) ∉ binds) → bindC kindOf binds m x = m x
  | [], _, _ => rfl
  | (n, v) :: r, m, h => by
    unfold bindC
    rw [bindC_out fun w hw => h w (List.mem_cons_of_mem _ hw)]
    split
    · rfl
    · have : x ≠ n := by rintro rfl; exact h v List.mem_cons_self
      simp [this]
theorem bindL_get {kindOf : Str → Option NameKind} {x : Str} {v : Value} : ∀ {P : List Str} {vs : List Value} {i : Nat} {m : Str → Option Value}, P.Nodup → P[i]? = some x → vs[i]? = some v → kindOf x = some .local →
    bindL kindOf (P.zip vs) m x = some v
  | [], _, _, _, _, h, _, _ => by simp at h
  | _ :: _, [], _, _, _, _, h, _ => by simp at h
  | p :: P, w :: vs, 0, m, nd, h1, h2, hk => by
    simp at h1 h2; subst h1; subst h2
    show bindL kindOf ((p, w) :: P.zip vs) m p = _
    unfold bindL
    rw [bindL_out fun v hv => (List.nodup_cons.mp nd).1 (List.of_mem_zip hv).1, if_pos hk]
    simp
  | p :: P, w :: vs, i + 1, m, nd, h1, h2, hk => by
    show bindL kindOf ((p, w) :: P.zip vs) m x = _
    unfold bindL
    exact bindL_get (i := i) (List.nodup_cons.mp nd).2 (by simpa using h1) (by simpa using h2) hk
theorem bindC_get {kindOf : Str → Option NameKind} {x : Str} {v : Value} : ∀ {P : List Str} {vs : List Value} {i : Nat} {m : Str → Option Value}, P.Nodup → P[i]? = some x → vs[i]? = some v → kindOf x ≠ some .local →
    bindC kindOf (P.zip vs) m x = some v
  | [], _, _, _, _, h, _, _ => by simp at h
  | _ :: _, [], _, _, _, _, h, _ => by simp at h
  | p :: P, w :: vs, 0, m, nd, h1, h2, hk => by
    simp at h1 h2; subst h1; subst h2
    show bindC kindOf ((p, w) :: P.zip vs) m p = _
    unfold bindC
    rw [bindC_out fun v hv => (List.nodup_cons.mp nd).1 (List.of_mem_zip hv).1, if_neg hk]
    simp
  | p :: P, w :: vs, i + 1, m, nd, h1, h2, hk => by
    show bindC kindOf ((p, w) :: P.zip vs) m x = _
    unfold bindC
    exact bindC_get (i := i) (List.nodup_cons.mp nd).2 (by simpa using h1) (by simpa using h2) hk
def start (N : List Str) (vs : List V) : St := vs.map some ++ List.replicate (N.length - vs.length) none
def cxOf (CX : CXT) (P : Program) (w : World) (K : PySem.W.Frag) (mg : Str → Option Value) (base : Heap) (N : List Str) (qual : Str) (scope : Scope) (f : Addr) (cd : Value) (A : Around) (outer : List Env) (s : Shared) (H : Hp) (E : XK) : Cx where
  prog := P
  w := w
  K := K
  mg := mg
  base := base
  A := A.deeper (envOfC qual scope s.heap.objs.size f cd)
  N := N
  s₀ := s
  H₀ := H
  env := envOfC qual scope s.heap.objs.size f cd
  outer := outer
  stack := envOfC qual scope s.heap.objs.size f cd :: outer
  ex := []
  calm := true
  fn := fun _ => true
  pn := []
  xe := fun e s' => wpAny (model P w) (A.deeper (envOfC qual scope s.heap.objs.size f cd)) (leaving (envOfC qual scope s.heap.objs.size f cd) e) (fun _ s'' => CX outer H s E e s'') (fun e' s'' => CX outer H s E e' s'') s'
theorem cell_has {sc : Scope} {n : Nat} {x : Str} (h : sc.names.lookup x = some .cell) : ∃ c, (cellsFrom n sc.names []).lookup x = some c := by
  have q := PySem.W.cellsFrom_some sc.names n [] (.inl h)
  exact Option.isSome_iff_exists.mp q
theorem inv_start {CX : CXT} {P : Program} {w : World} {K : PySem.W.Frag} {mg : Str → Option Value} {base : Heap} {N ps : List Str} {qual : Str} {scope : Scope} {f : Addr} {cd : Value} {A : Around} {outer : List Env} {s s1 : Shared} {H : Hp} {E : XK} {us : List Value} {vs : List V}
    (S : FnScope N ps scope) (hd : A.handled = none) (e0 : Env0 P w K mg base A outer s H) (hl : vs.length = ps.length) (r : Vals vs us)
    (x : InCallC s s.heap.objs.size (bindL (envOfC qual scope s.heap.objs.size f cd).kindOf (ps.zip us) fun _ => none) (cellsFrom (s.heap.objs.size + 1) scope.names []) (bindC (envOfC qual scope s.heap.objs.size f cd).kindOf (ps.zip us) fun _ => none) s1) :
    Inv (cxOf CX P w K mg base N qual scope f cd A outer s H E) [] (start N vs) H s1 := by
  have hpl : ps.length ≤ N.length := by have := congrArg List.length S.pre; rw [List.length_take] at this; omega
  obtain ⟨h1, tk, rfl, hk⟩ := x.done
  have noA : ∀ b : Addr, b ∉ (cxOf CX P w K mg base N qual scope f cd A outer s H E).ex := fun b z => absurd (show b ∈ ([] : List Addr) from z) (by simp)
  refine ⟨⟨e0.mod, S.kind, rfl, rfl, Nat.le_refl _, fun y z c h1 h2 => ?_, fun y hy => ?_, fun y c _ h => ?_, fun _ => hd, Around.frames_deeper e0.frames, .inr ⟨rfl, rfl⟩, fun b z => absurd z (noA b), e0.bs, e0.bsz, fun b _ _ => noA b, fun b z => absurd z (noA b), e0.funs, e0.frf⟩,
    rfl, e0.bare, Un.kept hk, ⟨_, x.toInCall.ns, fun i y v h1 h2 h3 => ?_⟩, fun y c h => ⟨_, x.cell y c h⟩, e0.hok.fresh (Nat.le_refl _), fun y c h => ?_, fun p hp => absurd (show p ∈ ([] : List (Addr × Obj)) from hp) (by simp), e0.hok.kept hk, ?_⟩
  · exact name_of_addr x.apart (PySem.mem_of_lookup h1) (PySem.mem_of_lookup h2)
  · have hy : scope.names.lookup y = some .cell ∨ scope.names.lookup y = some .free := hy
    rcases hy with hy | hy
    · exact cell_has hy
    · exact absurd rfl (S.nofree _ (PySem.mem_of_lookup hy))
  · exact Nat.le_of_lt (x.above y c (PySem.mem_of_lookup h))
  · have hi : i < vs.length := by
      unfold start at h2
      by_cases hi : i < vs.length
      · exact hi
      · rw [List.getElem?_append_right (by simpa using hi)] at h2
        rw [List.getElem?_replicate] at h2
        split at h2 <;> cases h2
    have ha : vs[i]? = some v := by
      unfold start at h2
      rw [List.getElem?_append_left (by simpa using hi), List.getElem?_map] at h2
      cases e : vs[i]? with
      | none => rw [e] at h2; cases h2
      | some a => rw [e] at h2; cases h2; rfl
    obtain ⟨u, hu, rv⟩ := r.get ha
    have hp : ps[i]? = some y := by
      rw [← S.pre, List.getElem?_take_of_lt (by omega)]; exact h1
    have ndP : ps.Nodup := by rw [← S.pre]; exact S.nd.sublist (List.take_sublist _ _)
    refine ⟨u, rv, ?_⟩
    rcases S.par y (List.mem_of_getElem? hp) with k | k
    · exact .inl ⟨k, bindL_get ndP hp hu k⟩
    · obtain ⟨c, e⟩ := cell_has (n := s.heap.objs.size + 1) k
      refine .inr ⟨.inl k, c, e, ?_⟩
      have q := x.cell y c e
      rw [bindC_get ndP hp hu (by show scope.names.lookup y ≠ _; rw [k]; decide)] at q
      exact q
  · exact e0.hok.fresh (Nat.le_of_lt (x.above y c (PySem.mem_of_lookup h)))
  · unfold start
    show _ = N.length
    rw [List.length_append, List.length_map, List.length_replicate]
    omega
theorem fn_of {CX : CXT} {P : Program} {w : World} {K : PySem.W.Frag} {mg : Str → Option Value} {base : Heap} {k : Nat} {f : Addr} {name qual : Str} {params : Arguments} {body : List Stmt} {scope : Scope} {dV kV doc pm cdv ct oc : Value} {an od : Option Addr}
    {osl : Array (Option Value)} {N ps : List Str} {sp : Sp} (lk : K.lookup f = some ⟨oc, od, .func (PySem.W.fnOf name qual params body scope dV kV doc pm an cdv ct), osl⟩) (hcd : PySem.W.codeIn K cdv qual = true) (S : FnScope N ps scope)
    (len : ∀ vs H Q E, sp vs H Q E → vs.length = ps.length)
    (hbody : ∀ (A : Around) (outer : List Env) (s : Shared) (H : Hp) (vs : List V) (Q : VK) (E : XK), Room k (A.deeper (envOfC qual scope s.heap.objs.size f cdv)) → sp vs H Q E →
      ∃ t, PSs (cxOf CX P w K mg base N qual scope f cdv A outer s H E) body t ∧ t { nx := fun _ H' => Q .non H', rt := Q } (start N vs) H) :
    FnOk P w K mg base CX (k + 1) f (PySem.W.fnOf name qual params body scope dV kV doc pm an cdv ct) ps sp := by
  refine ⟨len, fun A outer s H args us vs Q E hr e0 hb r hsp => ?_⟩
  have hl := len _ _ _ _ hsp
  have KX : K.In s.heap := e0.mod.kin.keeps fun b o e => (e0.bs b o e).1
  have lim : s.heap.NoLimit := e0.mod.nolimit.keeps fun b o e => (e0.bs b o e).1
  have hkind : ∀ y ∈ ps.zip us, scope.names.lookup y.1 = some .local ∨ (scope.names.lookup y.1 = some .cell ∧ ((cellsFrom (s.heap.objs.size + 1) scope.names []).lookup y.1).isSome = true) := fun ⟨n, v⟩ hy => by
    rcases S.par n (List.of_mem_zip hy).1 with q | q
    · exact .inl q
    · exact .inr ⟨q, PySem.W.cellsFrom_some _ _ _ (.inl q)⟩
  refine codeAny_call_function hr.depth (KX _ _ lk) rfl S.co S.gen rfl (PySem.W.codeRec_of KX hcd) (hb _ _ _ _ ?_)
  refine wpAny_newFunctionEnv_cells S.kind hkind fun env he s1 x => ?_
  subst he
  refine ⟨lim.keeps x.toInCall.keep, codeAny_func ?_⟩
  obtain ⟨t, ht, hq⟩ := hbody A outer s H vs Q E (hr.deeper _) hsp
  have I : Inv (cxOf CX P w K mg base N qual scope f cdv A outer s H E) [] (start N vs) H s1 := inv_start S hr.hd e0 hl r x
  refine wpAny_mono (ht [] s1 (start N vs) H _ I hq) (fun fl s' hs => ?_) fun e s' hs => hs
  have fin : ∀ {σ' : St} {H' : Hp} {v : V} {u : Value}, Inv (cxOf CX P w K mg base N qual scope f cdv A outer s H E) [] σ' H' s' → RelV v u → Q v H' → CE outer P w H s Q u s' :=
    fun {σ' H' v u} J rv q => ⟨v, H', J.os, J.bare, J.base, J.hok, rv, q⟩
  cases fl with
  | ret u =>
    obtain ⟨v, σ', H', J, rv, q⟩ := hs
    exact fin J rv q
  | next =>
    obtain ⟨σ', H', J, q⟩ := hs
    exact fin (v := V.non) (u := Value.none) J rfl q
  | brk =>
    obtain ⟨_, _, _, q⟩ := hs
    exact False.elim q
  | cont =>
    obtain ⟨_, _, _, q⟩ := hs
    exact False.elim q
end L2
namespace L2
open PySem PySem.Spec PyProof.Rows
section
variable {X : Cx} {x : Str} {p pos : Pos} {e : Expr} {es : List Expr} {t : TA} {id T : String} {r : List V → Hp → VK → Prop}
def tCB (r : List V → Hp → VK → Prop) (t : TA) : TE := fun σ H Q => t σ H fun vs H1 => r vs H1 Q
theorem pe_callB (hc : CallR X (.builtin id) r) (hg : Gl X x) (hm : X.mg x = none) (hv : bootBuiltins x = some (.builtin id)) (ha : PA X (e :: es) t) (hn : x ≠ "__name__" := by decide) (hdb : (x == ("__debug__" : Str)) = false := by decide)
    (he : starEach (e :: es) X.env = (false, eval e X.env) :: starEach es X.env := by rfl) (hpl : (backTo pos (starEach es X.env)).any (·.1) = false := by rfl) : PE X (.Call (.Name x p) (e :: es) [] pos) (tCB r t) := by
  intro pins s σ H Q I h
  refine wpAny_Call_Name_kw (ld_blt I hg hm hv ?_ hn hdb)
  exact PyProof.Rows.callWith_builtin1 (thn (ha pos pins s σ H _ I h) fun us s1 ⟨vs, H1, I1, r1, q1⟩ => hc pins s1 σ H1 vs us Q I1 r1 q1) he hpl
theorem pe_callTy (hc : CallR X (.type T) r) (hg : Gl X x) (hm : X.mg x = none) (hv : bootBuiltins x = some (.type T)) (ha : PA X (e :: es) t) (hn : x ≠ "__name__" := by decide) (hdb : (x == ("__debug__" : Str)) = false := by decide)
    (he : starEach (e :: es) X.env = (false, eval e X.env) :: starEach es X.env := by rfl) (hpl : (backTo pos (starEach es X.env)).any (·.1) = false := by rfl) : PE X (.Call (.Name x p) (e :: es) [] pos) (tCB r t) := by
  intro pins s σ H Q I h
  refine wpAny_Call_Name_kw (ld_blt I hg hm hv ?_ hn hdb)
  exact PyProof.Rows.callWith_type1 (thn (ha pos pins s σ H _ I h) fun us s1 ⟨vs, H1, I1, r1, q1⟩ => hc pins s1 σ H1 vs us Q I1 r1 q1) he hpl
end
end L2
namespace HT
open PySem PyProof.Rows
def lexLt : List Int → List Int → Bool
  | [], [] => false
  | [], _ :: _ => true
  | _ :: _, [] => false
  | x :: xs, y :: ys => if x = y then lexLt xs ys else decide (x < y)
theorem lexLt_cons (x y : Int) (xs ys : List Int) : lexLt (x :: xs) (y :: ys) = if x = y then lexLt xs ys else decide (x < y) := rfl
theorem lexLt_nil_nil : lexLt [] [] = false := rfl
theorem lexLt_nil_cons (y : Int) (ys : List Int) : lexLt [] (y :: ys) = true := rfl
theorem lexLt_cons_nil (x : Int) (xs : List Int) : lexLt (x :: xs) [] = false := rfl
theorem eqAt_int (A : Around) (s : Shared) (a : Int) (t : Tok) (c : Int) (u : Tok) : ∃ e, SeqAt.EqAt A s (.int a t) (.int c u) e ∧ (e = true ↔ a = c) :=
  ⟨(a == c), SeqAt.EqAt.int_int a t c u, by simp⟩
theorem rcLt_int (A : Around) (s : Shared) (a : Int) (t : Tok) (c : Int) (u : Tok) (prog : Program) (w : World) (E : Value → Shared → Prop) (Q : Value → Shared → Prop) (h : Q (.bool (decide (a < c))) s) :
    wpAny (model prog w) A (richCompare .Lt (.int a t) (.int c u)) Q E s :=
  (PyProof.Rows.lt_int h : wpAny (model prog w) A (compareOp .Lt (.int a t) (.int c u)) Q E s)
section
open PySem.SeqAt
open PySem.AutoSeq1 (wpAny_loadPart')
open PySem.MeetsSeq PySem.MeetsSeq2 PySem.MeetsSeq3
theorem tuple_lt_ints (l b : Addr) (items items2 : Array Value) (n n2 : Nat) (dd dd2 : Option Addr) (sl sl2 : Array (Option Value)) (ns ms : List Int) (hi : IntsAre items.toList ns) (hj : IntsAre items2.toList ms) :
    Meets (Builtin.«tuple.__lt__» ⟨[.ref l, .ref b], []⟩)
      (fun _ R s => s.heap.get? l = some { cls := .type "tuple", dict := dd, data := .seq items n, slots := sl } ∧ s.heap.get? b = some { cls := .type "tuple", dict := dd2, data := .seq items2 n2, slots := sl2 } ∧
        R (.ok (.ret (.bool (lexLt ns ms)))) s) :=
  .of_wp fun prog w A R s h => by
    obtain ⟨hp, g, d, tk, os⟩ := s; obtain ⟨hl, hb, h⟩ := h
    have f2 := AutoSeq1.sub_tuple_tuple
    have z1 : items.size = ns.length := by rw [← hi.length]; simp
    have z2 : items2.size = ms.length := by rw [← hj.length]; simp
    wp_walk using wpAny_loadPart' hl, wpAny_loadPart' hb, wpAny_forIn_list _ (fun rest b s' => b.1 = none ∧ s' = ⟨hp, g, d, tk, os⟩ ∧ ∃ (vs ws : List Value) (ns' ms' : List Int), rest = vs.zip ws ∧
      IntsAre vs ns' ∧ IntsAre ws ms' ∧ ns'.length + items2.size = ms'.length + items.size ∧ R (.ok (.ret (.bool (lexLt ns' ms')))) ⟨hp, g, d, tk, os⟩) _
    case turn =>
      rintro ⟨y, x⟩ rest b s' ⟨hb', rfl, vs, ws, ns', ms', hz, hvi, hwi, hlen, hR⟩
      cases hvi with
      | nil => rw [List.zip_nil_left] at hz; cases hz
      | cons a t hvi' =>
        cases hwi with
        | nil => rw [List.zip_nil_right] at hz; cases hz
        | cons c u hwi' =>
          rw [List.zip_cons_cons] at hz
          injection hz with hyx hrest
          injection hyx with hy hx
          subst hy hx
          rw [lexLt_cons] at hR
          simp only [List.length_cons] at hlen
          obtain ⟨e, he, hiff⟩ := eqAt_int A.in1 ⟨hp, g, d, tk, os⟩ a t c u
          refine wpAny_bind (he prog w _ _ ?_)
          cases e with
          | true =>
            rw [if_pos (hiff.mp rfl)] at hR
            wp_walk
            exact ⟨rfl, rfl, _, _, _, _, hrest, hvi', hwi', by omega, hR⟩
          | false =>
            rw [if_neg (fun q => absurd (hiff.mpr q) Bool.false_ne_true)] at hR
            have hri := rcLt_int A.in1 ⟨hp, g, d, tk, os⟩ a t c u prog w
            wp_walk using hri
            exact ⟨_, rfl, by simpa using hR⟩
    case fin =>
      rintro ⟨b1, b2⟩ s' ⟨hb', rfl, vs, ws, ns', ms', hz, hvi, hwi, hlen, hR⟩
      simp only at hb'
      subst hb'
      have hv : lexLt ns' ms' = decide (items.size < items2.size) := by
        cases hvi with
        | nil =>
          cases hwi with
          | nil =>
            simp only [List.length_nil] at hlen
            rw [lexLt_nil_nil]
            exact (decide_eq_false (by omega)).symm
          | cons c u hw =>
            simp only [List.length_nil, List.length_cons] at hlen
            rw [lexLt_nil_cons]
            exact (decide_eq_true (by omega)).symm
        | cons a t hv =>
          cases hwi with
          | nil =>
            simp only [List.length_nil, List.length_cons] at hlen
            rw [lexLt_cons_nil]
            exact (decide_eq_false (by omega)).symm
          | cons c u hw =>
            rw [List.zip_cons_cons] at hz
            cases hz
      rw [hv] at hR
      wp_walk
      exact ⟨_, rfl, by simpa [Builtin.Tuple.tupleCompareSizes] using hR⟩
    case h =>
      exact ⟨rfl, rfl, items.toList, items2.toList, ns, ms, rfl, hi, hj, by omega, h⟩
end
section
variable {prog : Program} {w : World} {A : Around} {E : Value → Shared → Prop} {s : Shared}
theorem lt_tupInts {l b : Addr} {items items2 : Array Value} {ns ms : List Int} {Q : Value → Shared → Prop} (hl : IsTup s.heap l items) (hb : IsTup s.heap b items2) (hi : IntsAre items.toList ns) (hj : IntsAre items2.toList ms)
    (hu : A.units < cLine) (h : Q (.bool (lexLt ns ms)) s) : wpAny (model prog w) A (compareOp .Lt (.ref l) (.ref b)) Q E s := by
  obtain ⟨⟨cls, dd, data, sl⟩, ho, hc, n, hd⟩ := id hl
  obtain ⟨⟨cls2, dd2, data2, sl2⟩, ho2, hc2, n2, hd2⟩ := id hb
  simp only at hc hd hc2 hd2
  subst hc hd hc2 hd2
  exact richCompare_meets_room (op := .Lt) ⟨_, ho, rfl⟩ ⟨_, ho2, rfl⟩ PySem.F.slot_tuple_lt PySem.F.entry_tuple_lt (PySem.F.args_tuple_lt_2 _ _) (tuple_lt_ints l b items items2 n n2 dd dd2 sl sl2 ns ms hi hj)
    ⟨ho, ho2, show Value.bool (lexLt ns ms) ≠ Value.notImplemented ∧ Q (.bool (lexLt ns ms)) s from ⟨(fun x => nomatch x), h⟩⟩ hu
def sIx (n d : Nat) : Option Int → Nat
  | none => d
  | some v => if v < 0 then (v + (n : Int)).toNat else min v.toNat n
end
end HT
namespace L2
open PySem PySem.Spec PyProof.Rows
abbrev TO := St → Hp → (Option Int → Hp → Prop) → Prop
def PO (X : Cx) (e : Option Expr) (t : TO) : Prop :=
  ∀ (pins : List (Addr × Obj)) (s : Shared) (σ : St) (H : Hp) (Q : Option Int → Hp → Prop), Inv X pins σ H s → t σ H Q →
    wpAny (model X.prog X.w) X.A (evalPart e X.env) (fun u s' => ∃ o H', Inv X pins σ H' s' ∧ IsPart u o ∧ Q o H') X.xe s
def tNoPart : TO := fun _ H Q => Q none H
def tPart (t : TE) : TO := fun σ H Q => t σ H fun x H1 => ∃ i, x = .int i ∧ Q (some i) H1
theorem intsAre_of {ns : List Int} : ∀ {us : List Value}, Vals (ns.map V.int) us → IntsAre us ns := by
  induction ns with
  | nil => intro us r; rw [List.map_nil] at r; cases r; exact .nil
  | cons n ns ih =>
    intro us r
    rw [List.map_cons] at r
    cases r with
    | cons r1 r2 =>
      obtain ⟨t, e⟩ := r1
      subst e
      exact .cons n t (ih r2)
section
variable {X : Cx} {e : Expr} {te : TE} {lo hi : Option Expr} {tl th : TO} {pos p2 : Pos}
theorem po_none : PO X none tNoPart := by
  intro pins s σ H Q I h
  rw [evalPart_none]
  exact wpAny_pure ⟨none, H, I, .none, h⟩
theorem po_some (h : PE X e te) : PO X (some e) (tPart te) := by
  intro pins s σ H Q I hw
  rw [evalPart_some]
  refine thn (h pins s σ H _ I hw) fun u s1 ⟨x, H1, I1, r1, q1⟩ => ?_
  obtain ⟨i, rfl, q⟩ := q1
  obtain ⟨t, rfl⟩ := r1
  exact ⟨some i, H1, I1, .int i t, q⟩
def SlR (X : Cx) (r : V → Option Int → Option Int → Hp → VK → Prop) : Prop :=
  ∀ (pins : List (Addr × Obj)) (s : Shared) (σ : St) (H : Hp) (x : V) (v vl vu : Value) (lo hi : Option Int) (sl : Addr) (Q : VK), Inv X pins σ H s → RelV x v → s.heap.IsSliceOf sl vl vu .none → IsPart vl lo → IsPart vu hi → r x lo hi H Q →
    ∃ T id, typeLookup (.type T) "__getitem__" = pure (some (.builtin id)) ∧ s.TypeIs v T ∧ wpAny (model X.prog X.w) X.A (getItem v (.ref sl)) (EP X pins σ Q) X.xe s
def tSl (r : V → Option Int → Option Int → Hp → VK → Prop) (te : TE) (tl th : TO) : TE := fun σ H Q => te σ H fun x H1 => tl σ H1 fun l H2 => th σ H2 fun u H3 => r x l u H3 Q
theorem pe_slice {r : V → Option Int → Option Int → Hp → VK → Prop} (hr : SlR X r) (he : PE X e te) (hl : PO X lo tl) (hu : PO X hi th) : PE X (.Subscript e (.Slice lo hi none p2) pos) (tSl r te tl th) := by
  intro pins s σ H Q I h
  refine Subscript_ (thn (he pins s σ H _ I h) fun v s1 ⟨x, H1, I1, r1, q1⟩ => ?_)
  refine wpAny_Slice (thn (hl pins s1 σ H1 _ I1 q1) fun vl s2 ⟨l, H2, I2, pl, q2⟩ => thn (hu pins s2 σ H2 _ I2 q2) fun vu s3 ⟨u, H3, I3, pu, q3⟩ => ?_)
  rw [evalPart_none]
  refine wpAny_pure ?_
  have I4 : Inv X pins σ H3 { s3 with heap := s3.heap.push { cls := .type "slice", data := .fields #[vl, vu, .none] } } := I3.kept (t' := s3.toks) fun b ob q => Heap.get?_push_of_some _ q
  obtain ⟨T, id, hT, ht, hg⟩ := hr pins { s3 with heap := s3.heap.push { cls := .type "slice", data := .fields #[vl, vu, .none] } } σ H3 x v vl vu l u s3.heap.objs.size Q I4 r1 (Heap.IsSliceOf.new ..) pl pu q3
  show wpAny (model X.prog X.w) X.A (subscriptTail e (.Slice lo hi none p2) v (.ref s3.heap.objs.size)) (EP X pins σ Q) X.xe { s3 with heap := s3.heap.push { cls := .type "slice", data := .fields #[vl, vu, .none] } }
  exact tail_any (ops := [.ref s3.heap.objs.size, v]) ht hT hg (by with_unfolding_all rfl)
def cutV (xs : List V) (lo hi : Option Int) : List V := (xs.drop (HT.sIx xs.length 0 lo)).take (HT.sIx xs.length xs.length hi - HT.sIx xs.length 0 lo)
theorem cutV_length (xs : List V) (lo hi : Option Int) : (cutV xs lo hi).length ≤ xs.length := by
  unfold cutV
  rw [List.length_take, List.length_drop]
  omega
def rLtT (K : PySem.W.Frag) : R2 := fun x y H Q => ∃ a b ns ms, x = .ref a ∧ y = .ref b ∧ SqT K H a (ns.map V.int) ∧ SqT K H b (ms.map V.int) ∧ Q (.bl (HT.lexLt ns ms)) H
theorem op_ltT (hu : X.A.units < cLine) : OpR X (compareOp .Lt) (rLtT X.K) := by
  intro pins s σ H x y v u Q I rx ry h
  obtain ⟨a, b, ns, ms, rfl, rfl, ha, hb, q⟩ := h
  cases rx
  cases ry
  obtain ⟨its, r1, p1, _⟩ := I.tuple ha
  obtain ⟨its2, r2, p2, _⟩ := I.tuple hb
  have i1 : IntsAre its.toArray.toList ns := intsAre_of r1
  have i2 : IntsAre its2.toArray.toList ms := intsAre_of r2
  exact HT.lt_tupInts p1 p2 i1 i2 hu ⟨.bl (HT.lexLt ns ms), H, I, rfl, q⟩
def rCatT (K : PySem.W.Frag) : R2 := fun x y H Q => ∃ a b xs ys, x = .ref a ∧ y = .ref b ∧ SqT K H a xs ∧ SqT K H b ys ∧ xs ≠ [] ∧ xs.length + ys.length ≤ sizeLine ∧
  (ys = [] → Q (.ref a) H) ∧ (ys ≠ [] → ∀ p, H p = none → Q (.ref p) (upd H p (.tup (xs ++ ys))))
end
end L2
namespace L2
open PySem PySem.Spec PyProof.Rows
def ixN (n : Nat) (i : Int) : Option Nat := if 0 ≤ i then (if i < n then some i.toNat else none) else if -(n : Int) ≤ i then some (i + n).toNat else none
def atI {α : Type} (xs : List α) (i : Int) : Option α := (ixN xs.length i).bind fun j => xs[j]?
theorem ixN_seq {n : Nat} {i : Int} {j : Nat} (h : ixN n i = some j) : seqIndex? i n = some j ∧ j < n ∧ -(n : Int) ≤ i ∧ i < n := by
  unfold ixN at h
  by_cases h0 : 0 ≤ i
  · rw [if_pos h0] at h
    by_cases h1 : i < n
    · rw [if_pos h1] at h
      have e : i.toNat = j := Option.some.inj h
      exact ⟨by rw [seqIndex_of h0 h1, e], by omega, by omega, h1⟩
    · rw [if_neg h1] at h; cases h
  · rw [if_neg h0] at h
    by_cases h1 : -(n : Int) ≤ i
    · rw [if_pos h1] at h
      have e : (i + n).toNat = j := Option.some.inj h
      exact ⟨by rw [seqIndex_neg (by omega) h1, e], by omega, h1, by omega⟩
    · rw [if_neg h1] at h; cases h
theorem atI_get {α : Type} {xs : List α} {i : Int} {v : α} (h : atI xs i = some v) : ∃ j, seqIndex? i xs.length = some j ∧ xs[j]? = some v ∧ j < xs.length ∧ -(xs.length : Int) ≤ i ∧ i < xs.length := by
  unfold atI at h
  cases e : ixN xs.length i with
  | none => rw [e] at h; cases h
  | some j =>
    rw [e] at h
    obtain ⟨h1, h2, h3, h4⟩ := ixN_seq e
    exact ⟨j, h1, h, h2, h3, h4⟩
theorem atI_nat {α : Type} {xs : List α} {j : Nat} {v : α} (h : xs[j]? = some v) : atI xs (j : Int) = some v := by
  have hj : j < xs.length := (List.getElem?_eq_some_iff.mp h).1
  have e : ixN xs.length (j : Int) = some j := by
    unfold ixN
    rw [if_pos (by omega), if_pos (by omega)]; simp
  unfold atI; rw [e]; exact h
def PlainIx (b : Expr) : Prop := ∀ o i, subscripted b false o i = operate [o, i] (getItem o i)
def IxR (X : Cx) (r : R2) : Prop :=
  ∀ (value slice : Expr) (pins : List (Addr × Obj)) (s : Shared) (σ : St) (H : Hp) (x y : V) (v u : Value) (Q : VK), Inv X pins σ H s → RelV x v → RelV y u → r x y H Q →
    subscripted slice false v u = operate [v, u] (getItem v u) → wpAny (model X.prog X.w) X.A (subscriptTail value slice v u) (EP X pins σ Q) X.xe s
def MtR (X : Cx) (id : String) (r : V → List V → Hp → VK → Prop) : Prop :=
  ∀ (pins : List (Addr × Obj)) (s : Shared) (σ : St) (H : Hp) (x : V) (xs : List V) (v : Value) (us : List Value) (Q : VK), Inv X pins σ H s → RelV x v → Vals xs us → r x xs H Q →
    wpAny (model X.prog X.w) X.A (call (.builtin id) (v :: us)) (EP X pins σ Q) X.xe s
section
variable {X : Cx} {a b : Expr} {ta tb : TE} {pos : Pos}
theorem pe_ix {r : R2} (hr : IxR X r) (ha : PE X a ta) (hb : PE X b tb) (hs : PlainIx b) : PE X (.Subscript a b pos) (tOp r ta tb) := by
  intro pins s σ H Q I h
  exact Subscript_ (binT ha hb I h fun v u s2 x y H2 I2 rx ry q => hr a b pins s2 σ H2 x y v u Q I2 rx ry q (hs _ _))
def rIxL (K : PySem.W.Frag) : R2 := fun x y H Q => ∃ p xs i v, x = .ref p ∧ y = .int i ∧ SqL K H p xs ∧ atI xs i = some v ∧ Q v H
def rIxT (K : PySem.W.Frag) : R2 := fun x y H Q => ∃ p xs i v, x = .ref p ∧ y = .int i ∧ SqT K H p xs ∧ atI xs i = some v ∧ Q v H
def rIxS : R2 := fun x y H Q => ∃ z i c, x = .str z ∧ y = .int i ∧ z.length ≤ sizeLine ∧ atI z.cps.toList i = some c ∧ Q (.str ⟨#[c]⟩) H
theorem ix_list : IxR X (rIxL X.K) := by
  intro value slice pins s σ H x y v u Q I rx ry h hs
  obtain ⟨p, xs, i, z, rfl, rfl, hq, he, q⟩ := h
  cases rx
  obtain ⟨t, rfl⟩ := ry
  obtain ⟨its, r, pl, hz⟩ := I.list hq
  obtain ⟨j, h1, h2, h3, h4, h5⟩ := atI_get he
  obtain ⟨w, ew, rw'⟩ := r.get h2
  have hl := r.length
  have hn := line63
  have fin : EP X pins σ Q w s := ⟨z, H, I, rw', q⟩
  by_cases h0 : 0 ≤ i
  · have hj : i.toNat = j := by
      rw [seqIndex_of h0 h5] at h1
      exact Option.some.inj h1
    exact item_listR pl.isList h0 (by omega) (by rw [hj]; simpa using ew) fin hs
  · have hj : (i + (its.toArray.size : Int)).toNat = j := by
      rw [seqIndex_neg (by omega) h4] at h1
      rw [List.size_toArray, ← hl]
      exact Option.some.inj h1
    exact subscriptTail_builtinR (x := w) pl.isList.typeIs slot_list_getitem.lookup
      (wpAny_getItem_list_neg (Q := fun r s' => r = w ∧ EP X pins σ Q r s') pl.isList (by omega) (by rw [List.size_toArray] <;> omega) (by omega) (by rw [hj]; simpa using ew) ⟨rfl, fin⟩) hs
theorem ix_tup : IxR X (rIxT X.K) := by
  intro value slice pins s σ H x y v u Q I rx ry h hs
  obtain ⟨p, xs, i, z, rfl, rfl, hq, he, q⟩ := h
  cases rx
  obtain ⟨t, rfl⟩ := ry
  obtain ⟨its, r, pl, hz⟩ := I.tuple hq
  obtain ⟨j, h1, h2, h3, h4, h5⟩ := atI_get he
  obtain ⟨w, ew, rw'⟩ := r.get h2
  have hl := r.length
  have hn := line63
  have fin : EP X pins σ Q w s := ⟨z, H, I, rw', q⟩
  exact subscriptTail_builtinR (x := w) pl.typeIs slot_tuple_getitem.lookup
    (getItem_tuple (j := j) (Q := fun r s' => r = w ∧ EP X pins σ Q r s') pl (by omega) (by omega) (by rw [List.size_toArray, ← hl]; exact h1) (by simpa using ew) ⟨rfl, fin⟩) hs
theorem ix_str : IxR X rIxS := by
  intro value slice pins s σ H x y v u Q I rx ry h hs
  obtain ⟨z, i, c, rfl, rfl, hz, he, q⟩ := h
  obtain ⟨t, rfl⟩ := rx
  obtain ⟨t', rfl⟩ := ry
  obtain ⟨j, h1, h2, h3, h4, h5⟩ := atI_get he
  have hl : z.cps.toList.length = z.length := by simp [Str.length]
  rw [hl] at h1 h4 h5
  have hn := line63
  exact tail_any (typeIs_str s z t) slot_str_getitem.lookup (getItem_str (c := c) (by
    have e1 : decide (i < -(2 ^ 63 : Int)) = false := decide_eq_false (by omega)
    have e2 : decide (i ≥ 2 ^ 63) = false := decide_eq_false (by omega)
    rw [e1, e2, Bool.or_false]) (by rw [h1]; simpa using h2) ⟨.str ⟨#[c]⟩, H, I.tok _, ⟨_, rfl⟩, q⟩) hs
theorem mapSeq_set (its : List Value) (n j : Nat) (u : Value) : Obj.mapSeq (·.setIfInBounds j u) { cls := .type "list", data := .seq its.toArray n } = { cls := .type "list", data := .seq (its.set j u).toArray n } := by
  simp [Obj.mapSeq]
theorem Inv.lst {pins : List (Addr × Obj)} {σ : St} {H : Hp} {s : Shared} {p : Addr} {xs : List V} (I : Inv X pins σ H s) (h : H p = some (.lst xs)) :
    ∃ (its : List Value) (n : Nat), Vals xs its ∧ s.heap.get? p = some { cls := .type "list", data := .seq its.toArray n } ∧ xs.length ≤ sizeLine := by
  obtain ⟨z, its, n, r, e⟩ := I.hok p _ h
  exact ⟨its, n, r, e, z⟩
theorem Inv.lstUpd {pins : List (Addr × Obj)} {σ : St} {H : Hp} {s : Shared} {p : Addr} {xs ys : List V} {its its' : List Value} {n n' : Nat} {f : Obj → Obj} (I : Inv X pins σ H s) (h : H p = some (.lst xs))
    (ho : s.heap.get? p = some { cls := .type "list", data := .seq its.toArray n }) (hf : f { cls := .type "list", data := .seq its.toArray n } = { cls := .type "list", data := .seq its'.toArray n' }) (r : Vals ys its') (hz : ys.length ≤ sizeLine) (t : Nat) :
    Inv X pins σ (upd H p (.lst ys)) { s with heap := s.heap.update p f, toks := t } := by
  have e : (s.heap.update p f).get? p = some { cls := .type "list", data := .seq its'.toArray n' } := by
    rw [Heap.get?_update_self f ho (by rw [hf] <;> rfl), hf]
  refine I.write (x := p) (e := p) (by rw [h]; trivial) (.inl rfl) (fun b u hb q => (Heap.get?_update_other _ _ (Ne.symm hb)).trans q) ⟨_, e⟩ ?_
  exact ⟨hz, its', n', r, e⟩
def rSetL : V → V → V → Hp → (Hp → Prop) → Prop := fun o i v H Q => ∃ p xs k j, o = .ref p ∧ i = .int k ∧ H p = some (.lst xs) ∧ ixN xs.length k = some j ∧ Q (upd H p (.lst (xs.set j v)))
theorem set_list : PSet X rSetL := by
  intro pins s σ H o i v ov iv u Q I ro ri rv h
  obtain ⟨p, xs, k, j, rfl, rfl, hp, hj, q⟩ := h
  cases ro
  obtain ⟨t, rfl⟩ := ri
  obtain ⟨its, n, r, ho, hz⟩ := I.lst hp
  obtain ⟨h1, h2, h3, h4⟩ := ixN_seq hj
  have hl := r.length
  have hn := line63
  have I' : Inv X pins σ (upd H p (.lst (xs.set j v))) { s with heap := s.heap.update p (Obj.mapSeq (·.setIfInBounds j u)) } :=
    I.lstUpd hp ho (mapSeq_set its n j u) (r.set rv j) (by rw [List.length_set]; exact hz) s.toks
  by_cases h0 : 0 ≤ k
  · have hk : k.toNat = j := by
      rw [seqIndex_of h0 h4] at h1
      exact Option.some.inj h1
    exact PySem.W.ki_setAt ho h0 (by omega) (by rw [List.size_toArray, ← hl]; exact h4) (by rw [hk]; exact ⟨_, I', q⟩)
  · have hk : (k + (its.toArray.size : Int)).toNat = j := by
      rw [seqIndex_neg (by omega) h3] at h1
      rw [List.size_toArray, ← hl]
      exact Option.some.inj h1
    exact PySem.W.ki_setBack ho (by omega) (by rw [List.size_toArray, ← hl]; exact h3) (by omega) (by rw [hk]; exact ⟨_, I', q⟩)
theorem slice_bounds (lo hi : Option Int) (n : Nat) : (sliceBounds lo hi none n).1 = ((HT.sIx n 0 lo : Nat) : Int) ∧ (sliceBounds lo hi none n).2.1 = ((HT.sIx n n hi : Nat) : Int) ∧ (sliceBounds lo hi none n).2.2 = 1 := by
  refine ⟨?_, ?_, rfl⟩
  · cases lo with
    | none => simp [sliceBounds, HT.sIx]
    | some i =>
      simp only [sliceBounds, HT.sIx, Option.getD_none, show (1 : Int) > 0 by decide, if_true]
      by_cases h : i < 0
      · simp only [h, if_true] <;> omega
      · simp only [h, if_false] <;> omega
  · cases hi with
    | none => simp [sliceBounds, HT.sIx]
    | some i =>
      simp only [sliceBounds, HT.sIx, Option.getD_none, show (1 : Int) > 0 by decide, if_true]
      by_cases h : i < 0
      · simp only [h, if_true] <;> omega
      · simp only [h, if_false] <;> omega
theorem slicePick_cut (its : List Value) (lo hi : Option Int) : slicePick its.toArray lo hi none = ((its.drop (HT.sIx its.length 0 lo)).take (HT.sIx its.length its.length hi - HT.sIx its.length 0 lo)).toArray := by
  obtain ⟨h1, h2, h3⟩ := slice_bounds lo hi its.toArray.size
  unfold slicePick
  rw [h1, h2, h3]
  simp only [sliceRange_one, pick_run, List.size_toArray] <;> rfl
def rSlL (K : PySem.W.Frag) : V → Option Int → Option Int → Hp → VK → Prop := fun x lo hi H Q => ∃ a xs, x = .ref a ∧ SqL K H a xs ∧ ∀ p, H p = none → Q (.ref p) (upd H p (.lst (cutV xs lo hi)))
theorem sl_list : SlR X (rSlL X.K) := by
  intro pins s σ H x v vl vu lo hi sl Q I rx hs pl pu h
  obtain ⟨a, xs, rfl, hx, q⟩ := h
  cases rx
  obtain ⟨its, r, ht, hz⟩ := I.list hx
  have hlen := r.length
  refine ⟨"list", _, slot_list_getitem.lookup, ht.isList.typeIs, ?_⟩
  refine wpAny_getItem_list_slice ht.isList hs pl pu .none (by simp) ?_ (by rw [List.size_toArray] <;> omega)
  rw [slicePick_cut, ← hlen]
  refine ⟨.ref s.heap.objs.size, _, I.laid (t' := s.toks) (o := .lst (cutV xs lo hi)) (fun b ob q => Heap.get?_push_of_some _ q) (Nat.le_refl _) ?_, rfl, q _ (I.hok.fresh (Nat.le_refl _))⟩
  exact ⟨Nat.le_trans (cutV_length xs lo hi) hz, _, 0, (r.drop (HT.sIx xs.length 0 lo)).take (HT.sIx xs.length xs.length hi - HT.sIx xs.length 0 lo), Heap.get?_push_size _ rfl⟩
def flatV : V → Bool
  | .non => true
  | .bl _ => true
  | .int _ => true
  | .str _ => true
  | _ => false
def eqV : V → V → Bool
  | .non, .non => true
  | .bl a, .bl b => a == b
  | .bl a, .int b => (if a then 1 else 0) == b
  | .int a, .bl b => a == (if b then 1 else 0)
  | .int a, .int b => a == b
  | .str a, .str b => a == b
  | _, _ => false
theorem eqAt_V {A : Around} {s : Shared} {y x : V} {u v : Value} (ry : RelV y u) (rx : RelV x v) (fy : flatV y = true) (fx : flatV x = true) : SeqAt.EqAt A s u v (eqV y x) := by
  cases y with
  | non =>
    cases ry
    cases x with
    | non => cases rx; exact SeqAt.EqAt.same _
    | bl b => cases rx; exact SeqAt.EqAt.none_bool b
    | int b => obtain ⟨t, rfl⟩ := rx; exact SeqAt.EqAt.none_int b t
    | str b => obtain ⟨t, rfl⟩ := rx; exact SeqAt.EqAt.none_str b t
    | _ => exact absurd (show false = true from fx) Bool.false_ne_true
  | bl a =>
    cases ry
    cases x with
    | non => cases rx; exact SeqAt.EqAt.bool_none a
    | bl b => cases rx; exact SeqAt.EqAt.bool_bool a b
    | int b => obtain ⟨t, rfl⟩ := rx; exact SeqAt.EqAt.bool_int a b t
    | str b => obtain ⟨t, rfl⟩ := rx; exact SeqAt.EqAt.bool_str a b t
    | _ => exact absurd (show false = true from fx) Bool.false_ne_true
  | int a =>
    obtain ⟨t', rfl⟩ := ry
    cases x with
    | non => cases rx; exact SeqAt.EqAt.int_none a t'
    | bl b => cases rx; exact SeqAt.EqAt.int_bool a t' b
    | int b => obtain ⟨t, rfl⟩ := rx; exact SeqAt.EqAt.int_int a t' b t
    | str b => obtain ⟨t, rfl⟩ := rx; exact SeqAt.EqAt.int_str a t' b t
    | _ => exact absurd (show false = true from fx) Bool.false_ne_true
  | str a =>
    obtain ⟨t', rfl⟩ := ry
    cases x with
    | non => cases rx; exact SeqAt.EqAt.str_none a t'
    | bl b => cases rx; exact SeqAt.EqAt.str_bool a t' b
    | int b => obtain ⟨t, rfl⟩ := rx; exact SeqAt.EqAt.str_int a t' b t
    | str b => obtain ⟨t, rfl⟩ := rx; exact SeqAt.EqAt.str_str a t' b t
    | _ => exact absurd (show false = true from fx) Bool.false_ne_true
  | _ => exact absurd (show false = true from fy) Bool.false_ne_true
def eqU (x : V) (u : Value) : Bool := match u with
  | .none => eqV .non x
  | .bool b => eqV (.bl b) x
  | .int i _ => eqV (.int i) x
  | .str z _ => eqV (.str z) x
  | _ => false
theorem eqU_of {x y : V} {u : Value} (r : RelV y u) (f : flatV y = true) : eqU x u = eqV y x := by
  cases y with
  | non => cases r; rfl
  | bl b => cases r; rfl
  | int i => obtain ⟨t, rfl⟩ := r; rfl
  | str z => obtain ⟨t, rfl⟩ := r; rfl
  | _ => exact absurd (show false = true from f) Bool.false_ne_true
theorem any_eqU {x : V} : ∀ {xs : List V} {us : List Value}, Vals xs us → xs.all flatV = true → us.any (eqU x) = xs.any fun y => eqV y x
  | _, _, .nil, _ => rfl
  | y :: xs, u :: us, .cons r t, f => by
    rw [List.all_cons, Bool.and_eq_true] at f
    rw [List.any_cons, List.any_cons, eqU_of r f.1, any_eqU t f.2]
theorem mem_eqAt {A : Around} {s : Shared} {x : V} {v : Value} (rx : RelV x v) (fx : flatV x = true) : ∀ {xs : List V} {us : List Value}, Vals xs us → xs.all flatV = true → ∀ u ∈ us, SeqAt.EqAt A s u v (eqU x u)
  | _, _, .nil, _ => fun u hu => by cases hu
  | y :: xs, u :: us, .cons r t, f => fun u' hu => by
    rw [List.all_cons, Bool.and_eq_true] at f
    rcases List.mem_cons.mp hu with rfl | hu
    · rw [eqU_of r f.1]; exact eqAt_V r rx f.1 fx
    · exact mem_eqAt rx fx t f.2 u' hu
def inV (x : V) (xs : List V) : Bool := xs.any fun y => eqV y x
def rIn (K : PySem.W.Frag) (neg : Bool) : R2 := fun x y H Q => ∃ p xs, y = .ref p ∧ (SqL K H p xs ∨ SqT K H p xs) ∧ flatV x = true ∧ xs.all flatV = true ∧ Q (.bl (if neg then !inV x xs else inV x xs)) H
theorem op_in_seq : OpR X (compareOp .In) (rIn X.K false) := by
  intro pins s σ H x y v u Q I rx ry h
  obtain ⟨p, xs, rfl, hq, fx, fs, q⟩ := h
  cases ry
  rcases hq with hq | hq
  · obtain ⟨its, r, pl, hz⟩ := I.list hq
    refine SeqAt.in_listAt (eqU x) pl.isList (fun w hw => mem_eqAt rx fx r fs w (by simpa using hw)) ⟨.bl _, H, I, rfl, ?_⟩
    rw [show its.toArray.any (eqU x) = its.any (eqU x) by simp, any_eqU r fs]
    exact q
  · obtain ⟨its, r, pl, hz⟩ := I.tuple hq
    refine SeqAt.in_tupleAt (eqU x) pl (fun w hw => mem_eqAt rx fx r fs w (by simpa using hw)) ⟨.bl _, H, I, rfl, ?_⟩
    rw [show its.toArray.any (eqU x) = its.any (eqU x) by simp, any_eqU r fs]
    exact q
theorem op_notIn_seq : OpR X (compareOp .NotIn) (rIn X.K true) := by
  intro pins s σ H x y v u Q I rx ry h
  obtain ⟨p, xs, rfl, hq, fx, fs, q⟩ := h
  cases ry
  rcases hq with hq | hq
  · obtain ⟨its, r, pl, hz⟩ := I.list hq
    refine SeqAt.notIn_listAt (eqU x) pl.isList (fun w hw => mem_eqAt rx fx r fs w (by simpa using hw)) ⟨.bl _, H, I, rfl, ?_⟩
    rw [show its.toArray.any (eqU x) = its.any (eqU x) by simp, any_eqU r fs]
    exact q
  · obtain ⟨its, r, pl, hz⟩ := I.tuple hq
    refine SeqAt.notIn_tupleAt (eqU x) pl (fun w hw => mem_eqAt rx fx r fs w (by simpa using hw)) ⟨.bl _, H, I, rfl, ?_⟩
    rw [show its.toArray.any (eqU x) = its.any (eqU x) by simp, any_eqU r fs]
    exact q
theorem call_len_seq : CallR X (.builtin "len") (fun xs H Q => ∃ p ys, xs = [.ref p] ∧ (SqL X.K H p ys ∨ SqT X.K H p ys) ∧ Q (.int ys.length) H) := by
  intro pins s σ H xs us Q I r h
  obtain ⟨p, ys, rfl, hq, q⟩ := h
  obtain ⟨u, rfl, rx⟩ := vals1 r
  cases rx
  have hn := line63
  rcases hq with hq | hq
  · obtain ⟨its, r', pl, hz⟩ := I.list hq
    have hlen := r'.length
    exact Calls.call_len_list pl.isList (by simp only [List.size_toArray] <;> omega) ⟨.int ys.length, H, I.tok _, ⟨s.toks + 1, by rw [List.size_toArray, hlen]⟩, q⟩
  · obtain ⟨its, r', pl, hz⟩ := I.tuple hq
    have hlen := r'.length
    exact len_tuple pl (by simp only [List.size_toArray] <;> omega) ⟨.int ys.length, H, I.tok _, ⟨s.toks + 1, by rw [List.size_toArray, hlen]⟩, q⟩
theorem call_len_str : CallR X (.builtin "len") (fun xs H Q => ∃ z, xs = [.str z] ∧ z.length ≤ sizeLine ∧ Q (.int z.length) H) := by
  intro pins s σ H xs us Q I r h
  obtain ⟨z, rfl, hz, q⟩ := h
  obtain ⟨u, rfl, t, rfl⟩ := vals1 r
  have hn := line63
  exact len_str (by omega) ⟨.int z.length, H, I.tok _, ⟨_, rfl⟩, q⟩
theorem call_list_of : CallR X (.type "list") (fun xs H Q => ∃ p ys, xs = [.ref p] ∧ (SqL X.K H p ys ∨ SqT X.K H p ys) ∧ ∀ l, H l = none → Q (.ref l) (upd H l (.lst ys))) := by
  intro pins s σ H xs us Q I r h
  obtain ⟨p, ys, rfl, hq, q⟩ := h
  obtain ⟨u, rfl, rx⟩ := vals1 r
  cases rx
  have fin : ∀ (its : List Value), Vals ys its → ys.length ≤ sizeLine → ∀ (h' : Heap) (c' : Nat), (∀ b o', s.heap.get? b = some o' → h'.get? b = some o') →
      h'.get? s.heap.objs.size = some { cls := .type "list", dict := none, data := .seq its.toArray c', slots := #[] } → EP X pins σ Q (.ref s.heap.objs.size) { s with heap := h' } := fun its r' hz h' c' kp e =>
    ⟨.ref s.heap.objs.size, _, I.laid (t' := s.toks) kp (Nat.le_refl _) (show ObjOk X.prog X.w _ h' _ (.lst ys) from ⟨hz, its, c', r', e⟩), rfl, q _ (I.hok.fresh (Nat.le_refl _))⟩
  rcases hq with hq | hq
  · obtain ⟨its, r', pl, hz⟩ := I.list hq
    have hlen := r'.length
    obtain ⟨o, ho, hc, n, hd⟩ := pl.isList
    exact call_list_seq p (.inl rfl) ho hc hd (fun h' c' kp e => fin its r' hz h' c' kp e) (by simp only [List.size_toArray] <;> omega)
  · obtain ⟨its, r', pl, hz⟩ := I.tuple hq
    have hlen := r'.length
    obtain ⟨o, ho, hc, n, hd⟩ := pl
    exact call_list_seq p (.inr rfl) ho hc hd (fun h' c' kp e => fin its r' hz h' c' kp e) (by simp only [List.size_toArray] <;> omega)
def tyV (K : PySem.W.Frag) (T : String) (x : V) (H : Hp) : Prop := match x with
  | .str _ => T = "str"
  | .int _ => T = "int"
  | .ref p => (T = "list" ∧ ∃ xs, SqL K H p xs) ∨ (T = "tuple" ∧ ∃ o, K.lookup p = some o ∧ o.cls = .type "tuple" ∧ o.dict = none) ∨
      (T = "dict" ∧ ((∃ kvs, H p = some (.dK kvs)) ∨ ∃ kvs, H p = some (.dT kvs))) ∨ (T = "set" ∧ ∃ S n, H p = some (.set S n))
  | _ => False
theorem tyV_is {pins : List (Addr × Obj)} {σ : St} {H : Hp} {s : Shared} {T : String} {x : V} {v : Value} (I : Inv X pins σ H s) (r : RelV x v) (ty : tyV X.K T x H) :
    s.TypeIs v T ∧ ∀ a, v = .ref a → ∃ ob, s.heap.get? a = some ob ∧ ob.dict = none := by
  cases x with
  | str z =>
    obtain ⟨t, rfl⟩ := r
    cases (show T = "str" from ty)
    exact ⟨typeIs_str s z t, fun _ e => nomatch e⟩
  | int i =>
    obtain ⟨t, rfl⟩ := r
    cases (show T = "int" from ty)
    exact ⟨typeIs_int s i t, fun _ e => nomatch e⟩
  | ref p =>
    cases r
    rcases ty with ⟨rfl, xs, hq⟩ | ⟨rfl, o, hk, hc, hd⟩ | ⟨rfl, hk⟩ | ⟨rfl, S, n, hk⟩
    · obtain ⟨its, _, pl, _⟩ := I.list hq
      refine ⟨pl.isList.typeIs, fun a e => ?_⟩
      cases e
      obtain ⟨o, n, e, c, hd, _⟩ := pl
      exact ⟨o, e, hd⟩
    · refine ⟨⟨o, I.kIn p o hk, hc⟩, fun a e => ?_⟩
      cases e
      exact ⟨o, I.kIn _ o hk, hd⟩
    · have z : ∃ o, s.heap.get? p = some o ∧ o.ExactDict := by
        rcases hk with ⟨kvs, hk⟩ | ⟨kvs, hk⟩
        · obtain ⟨_, _, _, _, o, _, _, e, ex, _⟩ := I.hok p _ hk
          exact ⟨o, e, ex⟩
        · obtain ⟨_, _, _, _, o, _, _, e, ex, _⟩ := I.hok p _ hk
          exact ⟨o, e, ex⟩
      obtain ⟨o, e, ex⟩ := z
      refine ⟨⟨o, e, ex.1⟩, fun a e2 => ?_⟩
      cases e2
      exact ⟨o, e, ex.2.1⟩
    · obtain ⟨o, _, _, _, e, ex, _⟩ := I.hok p _ hk
      refine ⟨⟨o, e, ex.1⟩, fun a e2 => ?_⟩
      cases e2
      exact ⟨o, e, ex.2.1⟩
  | _ => exact False.elim ty
def tBM0 (K : PySem.W.Frag) (T : String) (r : V → List V → Hp → VK → Prop) (to : TE) : TE := fun σ H Q => to σ H fun x H1 => tyV K T x H1 ∧ r x [] H1 Q
def tBM (K : PySem.W.Frag) (T : String) (r : V → List V → Hp → VK → Prop) (to : TE) (t : TA) : TE := fun σ H Q => to σ H fun x H1 => tyV K T x H1 ∧ t σ H1 fun xs H2 => r x xs H2 Q
variable {o e : Expr} {es : List Expr} {to : TE} {t : TA} {name : Str} {apos cpos : Pos} {T id : String} {r : V → List V → Hp → VK → Prop}
theorem pe_bm0 (pa : PlainAttrs T) (slot : Slot T name id) (hty : typeOf (.builtin id) = pure (.type "method_descriptor")) (hm : MtR X id r) (ho : PE X o to)
    (hbase : attributeBase o name X.env (eval o X.env) = eval o X.env := by rfl) (hline : (apos.endLine == cpos.line) = true := by rfl) : PE X (.Call (.Attribute o name apos) [] [] cpos) (tBM0 X.K T r to) := by
  intro pins s σ H Q I h
  refine wpAny_Call_method0_late hbase hline (thn (ho pins s σ H _ I h) fun v s1 ⟨x, H1, I1, r1, ty, q1⟩ => ?_)
  obtain ⟨h1, h2⟩ := tyV_is I1 r1 ty
  exact ⟨T, id, pa, slot, hty, h1, h2, Calls.callWith_builtin rfl (PySem.evalArgs_none (hm pins s1 σ H1 x [] v [] Q I1 r1 .nil q1))⟩
theorem pe_bm (pa : PlainAttrs T) (slot : Slot T name id) (hty : typeOf (.builtin id) = pure (.type "method_descriptor")) (hm : MtR X id r) (ho : PE X o to) (ha : PA X (e :: es) t)
    (hbase : attributeBase o name X.env (eval o X.env) = eval o X.env := by rfl)
    (hfew : ((backTo cpos (starEach (e :: es) X.env)).all (fun x => !x.1) && (backToKw cpos (keywordEach [] X.env)).all (fun x => x.1.isSome)
      && decide ((e :: es).length + ([] : List Keyword).length + (if ([] : List Keyword).isEmpty then 0 else 1) < 30)) = true := by rfl)
    (hline : (apos.endLine == cpos.line) = true := by rfl) (hs : starEach (e :: es) X.env = (false, eval e X.env) :: starEach es X.env := by rfl) (hplain : (backTo cpos (starEach es X.env)).any (·.1) = false := by rfl) :
    PE X (.Call (.Attribute o name apos) (e :: es) [] cpos) (tBM X.K T r to t) := by
  intro pins s σ H Q I h
  refine wpAny_Call_method_late hbase hfew hline rfl (thn (ho pins s σ H _ I h) fun v s1 ⟨x, H1, I1, r1, ty, q1⟩ => ?_)
  obtain ⟨h1, h2⟩ := tyV_is I1 r1 ty
  refine ⟨T, id, pa, slot, hty, h1, h2, ?_⟩
  have hA := ha cpos pins s1 σ H1 _ I1 q1
  rw [hs] at hA ⊢
  refine Calls.callWith_builtin (by show (false || (backTo cpos (starEach es X.env)).any (·.1)) = false; rw [hplain] <;> rfl) (Calls.evalArgs_plain ?_)
  exact thn hA fun us s2 ⟨vs, H2, I2, r2, q2⟩ => hm pins s2 σ H2 x vs v us Q I2 r1 r2 q2
end
end L2
namespace L2
open PySem PySem.Spec PyProof.Rows
def MtM (X : Cx) (id : String) (r : V → List V → Hp → VK → Prop) : Prop :=
  ∀ (pins : List (Addr × Obj)) (s : Shared) (σ : St) (H : Hp) (x : V) (xs : List V) (v : Value) (us : List Value) (Q : VK), Inv X pins σ H s → RelV x v → Vals xs us → r x xs H Q →
    wpAny (model X.prog X.w) X.A (call (.builtin id) (v :: us)) (EP X pins σ Q) X.xe s
theorem Vals.one : ∀ {x : V} {us : List Value}, Vals [x] us → ∃ u, us = [u] ∧ RelV x u
  | _, _, .cons r .nil => ⟨_, rfl, r⟩
theorem Vals.two : ∀ {x y : V} {us : List Value}, Vals [x, y] us → ∃ u v, us = [u, v] ∧ RelV x u ∧ RelV y v
  | _, _, _, .cons r (.cons q .nil) => ⟨_, _, rfl, r, q⟩
theorem Vals.zero : ∀ {us : List Value}, Vals [] us → us = []
  | _, .nil => rfl
theorem Vals.dropLast {xs : List V} {us : List Value} (h : Vals xs us) : Vals xs.dropLast us.dropLast := by
  induction h with
  | nil => exact .nil
  | cons r t ih =>
    cases t with
    | nil => exact .nil
    | cons q t' => exact .cons r ih
theorem Vals.eraseIdx : ∀ {xs : List V} {us : List Value} (i : Nat), Vals xs us → Vals (xs.eraseIdx i) (us.eraseIdx i)
  | _, _, _, .nil => .nil
  | _, _, 0, .cons _ t => t
  | _, _, i + 1, .cons r t => .cons r (Vals.eraseIdx i t)
theorem Vals.reverse {xs : List V} {us : List Value} (h : Vals xs us) : Vals xs.reverse us.reverse := by
  induction h with
  | nil => exact .nil
  | cons r t ih => rw [List.reverse_cons, List.reverse_cons]; exact Vals.append ih (.cons r .nil)
theorem erase_last {α : Type} (l : List α) : l.eraseIdx (l.length - 1) = l.dropLast := by
  induction l with
  | nil => rfl
  | cons a r ih =>
    cases r with
    | nil => rfl
    | cons b r =>
      have e : (a :: b :: r).length - 1 = ((b :: r).length - 1) + 1 := by
        have h1 : (a :: b :: r).length = r.length + 2 := rfl
        have h2 : (b :: r).length = r.length + 1 := rfl
        omega
      rw [e, List.eraseIdx_cons_succ, ih]
      all_goals rfl
section
variable {X : Cx} {pins : List (Addr × Obj)} {σ : St} {H : Hp} {s : Shared} {l b : Addr} {xs ys zs : List V}
theorem Inv.lset {its its' : List Value} {n : Nat} {f : Array Value → Array Value} {t' : Nat} (I : Inv X pins σ H s) (hH : H l = some (.lst xs))
    (e : s.heap.get? l = some { cls := .type "list", data := .seq its.toArray n }) (hf : f its.toArray = its'.toArray) (hv : Vals ys its') (hz : ys.length ≤ sizeLine) :
    Inv X pins σ (upd H l (.lst ys)) { s with heap := s.heap.update l (Obj.mapSeq f), toks := t' } := by
  have q := PySem.IsL.update e f
  rw [hf] at q
  refine I.write (x := l) (e := l) (by rw [hH]; exact trivial) (.inl rfl) (fun b' u hb hu => (Heap.get?_update_other s.heap (Obj.mapSeq f) (Ne.symm hb)).trans hu) ⟨_, q⟩ ?_
  exact ⟨hz, its', _, hv, q⟩
theorem Inv.lnew {its : List Value} {t' : Nat} (I : Inv X pins σ H s) (hv : Vals ys its) (hz : ys.length ≤ sizeLine) :
    Inv X pins σ (upd H s.heap.objs.size (.lst ys)) { s with heap := s.heap.push { cls := .type "list", data := .seq its.toArray }, toks := t' } :=
  I.laid (fun _ _ q => Heap.get?_push_of_some _ q) (Nat.le_refl _) ⟨hz, its, 0, hv, Heap.get?_push_size _ rfl⟩
theorem Inv.fresh (I : Inv X pins σ H s) : H s.heap.objs.size = none := I.hok.fresh (Nat.le_refl _)
theorem Inv.lstM (I : Inv X pins σ H s) (hH : H l = some (.lst xs)) : xs.length ≤ sizeLine ∧ ∃ (its : List Value) (n : Nat), Vals xs its ∧ xs.length = its.length ∧ s.heap.get? l = some { cls := .type "list", data := .seq its.toArray n } := by
  obtain ⟨z, its, n, r, e⟩ := I.hok l _ hH
  exact ⟨z, its, n, r, r.length, e⟩
theorem notLongL {n : Nat} (h : n ≤ sizeLine) : Builtin.List.listTooLong n = false := by
  unfold Builtin.List.listTooLong
  exact decide_eq_false (by omega)
end
section
variable {X : Cx}
def rAppend : V → List V → Hp → VK → Prop := fun x vs H Q => ∃ l xs y, x = .ref l ∧ vs = [y] ∧ H l = some (.lst xs) ∧ xs.length < sizeLine ∧ Q .non (upd H l (.lst (xs ++ [y])))
theorem mt_append : MtM X "list.append" rAppend := by
  intro pins s σ H x vs v us Q I rx rv h
  obtain ⟨l, xs, y, rfl, rfl, hH, hz, q⟩ := h
  cases rx
  obtain ⟨u, rfl, ru⟩ := rv.one
  obtain ⟨z, its, n, r, hl, e⟩ := I.lstM hH
  refine call_meets F.slot_list_append ⟨_, e, rfl⟩ F.entry_list_append (F.args_list_append_2 _ _) (PySem.list_append l its.toArray n u (by rw [List.size_toArray]; omega)) ⟨e, ?_⟩
  refine ⟨.non, _, I.lset (its' := its ++ [u]) hH e (by simp) (r.append (.cons ru .nil)) ?_, rfl, q⟩
  rw [List.length_append, List.length_singleton]
  omega
def rExtend : V → List V → Hp → VK → Prop := fun x vs H Q => ∃ l b xs zs, x = .ref l ∧ vs = [.ref b] ∧ H l = some (.lst xs) ∧ H b = some (.lst zs) ∧ xs.length + zs.length ≤ sizeLine ∧ Q .non (upd H l (.lst (xs ++ zs)))
theorem mt_extend : MtM X "list.extend" rExtend := by
  intro pins s σ H x vs v us Q I rx rv h
  obtain ⟨l, b, xs, zs, rfl, rfl, hH, hB, hz, q⟩ := h
  cases rx
  obtain ⟨u, rfl, ru⟩ := rv.one
  cases ru
  obtain ⟨z, its, n, r, hl, e⟩ := I.lstM hH
  obtain ⟨z2, its2, n2, r2, hl2, e2⟩ := I.lstM hB
  have hsz : its.toArray.size + its2.toArray.size ≤ sizeLine := by rw [List.size_toArray, List.size_toArray]; omega
  have hlong : ¬ (!its.toArray.isEmpty && Builtin.List.listTooLong (its.toArray.size + its2.toArray.size)) = true := by
    rw [notLongL hsz, Bool.and_false]
    exact Bool.false_ne_true
  refine call_meets F.slot_list_extend ⟨_, e, rfl⟩ F.entry_list_extend (F.args_list_extend_2 _ _)
    (AutoSeq1.list_extend_list_list_0 l its.toArray n b its2.toArray n2 hlong (by rw [List.size_toArray]; omega) (by omega)) ⟨e, e2, ?_⟩
  refine ⟨.non, _, I.lset (its' := its ++ its2) hH e (by simp) (r.append r2) ?_, rfl, q⟩
  rw [List.length_append]
  omega
def rPop : V → List V → Hp → VK → Prop := fun x vs H Q => ∃ l xs y, x = .ref l ∧ vs = [] ∧ H l = some (.lst xs) ∧ xs[xs.length - 1]? = some y ∧ Q y (upd H l (.lst xs.dropLast))
theorem mt_pop : MtM X "list.pop" rPop := by
  intro pins s σ H x vs v us Q I rx rv h
  obtain ⟨l, xs, y, rfl, rfl, hH, hy, q⟩ := h
  cases rx
  have hus := rv.zero
  subst hus
  obtain ⟨z, its, n, r, hl, e⟩ := I.lstM hH
  obtain ⟨u, hu, ru⟩ := r.get hy
  have hy' : its.toArray[its.toArray.size - 1]? = some u := by
    show its.toArray[its.length - 1]? = some u
    rw [← Array.getElem?_toList, ← hl]
    exact hu
  refine call_meets F.slot_list_pop ⟨_, e, rfl⟩ F.entry_list_pop (F.args_list_pop_1 _) (MeetsSeq.list_pop_last l its.toArray n u hy' (by rw [List.size_toArray]; omega)) ⟨e, ?_⟩
  refine ⟨y, _, I.lset (its' := its.dropLast) hH e ?_ r.dropLast ?_, ru, q⟩
  · show its.toArray.eraseIdxIfInBounds (its.toArray.size - 1) = its.dropLast.toArray
    rw [List.size_toArray, List.eraseIdxIfInBounds_toArray, erase_last]
  · rw [List.length_dropLast]
    omega
def rPopAt : V → List V → Hp → VK → Prop := fun x vs H Q => ∃ l xs i k y, x = .ref l ∧ vs = [.int i] ∧ H l = some (.lst xs) ∧ -(2 ^ 63) ≤ i ∧ i < 2 ^ 63 ∧ seqIndex? i xs.length = some k ∧ xs[k]? = some y ∧ Q y (upd H l (.lst (xs.eraseIdx k)))
def rClear : V → List V → Hp → VK → Prop := fun x vs H Q => ∃ l xs, x = .ref l ∧ vs = [] ∧ H l = some (.lst xs) ∧ Q .non (upd H l (.lst []))
theorem mt_clear : MtM X "list.clear" rClear := by
  intro pins s σ H x vs v us Q I rx rv h
  obtain ⟨l, xs, rfl, rfl, hH, q⟩ := h
  cases rx
  have hus := rv.zero
  subst hus
  obtain ⟨z, its, n, r, hl, e⟩ := I.lstM hH
  refine call_meets F.slot_list_clear ⟨_, e, rfl⟩ F.entry_list_clear (F.args_list_clear_1 _) (AutoSeq1.list_clear_list_0 l its.toArray n (by rw [List.size_toArray]; omega)) ⟨e, ?_⟩
  exact ⟨.non, _, I.lset (its' := []) (ys := []) hH e rfl .nil (Nat.zero_le _), rfl, q⟩
def rCat : R2 := fun x y H Q => ∃ l b xs zs, x = .ref l ∧ y = .ref b ∧ H l = some (.lst xs) ∧ H b = some (.lst zs) ∧ xs.length + zs.length ≤ sizeLine ∧ ∀ p, H p = none → Q (.ref p) (upd H p (.lst (xs ++ zs)))
theorem op_cat : OpR X (binaryOp .Add) rCat := by
  intro pins s σ H x y v u Q I rx ry h
  obtain ⟨l, b, xs, zs, rfl, rfl, hH, hB, hz, q⟩ := h
  cases rx
  cases ry
  obtain ⟨z, its, n, r, hl, e⟩ := I.lstM hH
  obtain ⟨z2, its2, n2, r2, hl2, e2⟩ := I.lstM hB
  refine PySem.P.add_list e e2 ?_ (by rw [List.size_toArray, List.size_toArray]; omega)
  have ea : its.toArray ++ its2.toArray = (its ++ its2).toArray := by simp
  rw [ea]
  exact ⟨.ref _, _, I.lnew (t' := s.toks) (r.append r2) (by rw [List.length_append]; omega), rfl, q _ I.fresh⟩
def rRep : R2 := fun x y H Q => ∃ l k xs, x = .ref l ∧ y = .int k ∧ H l = some (.lst xs) ∧ -(2 ^ 63) ≤ k ∧ k < 2 ^ 63 ∧ xs.length * k.toNat ≤ sizeLine ∧
  ∀ p, H p = none → Q (.ref p) (upd H p (.lst (List.replicate k.toNat xs).flatten))
end
section
variable {prog : Program} {w : World} {A : Around} {E : Value → Shared → Prop} {s : Shared}
end
section
variable {X : Cx}
end
end L2
namespace Att
open PySem PySem.W PySem.Calls PyProof.Rows
theorem ints_of_wellAll {P : Params} {h : Heap} : ∀ (ns : List Int) (vs : List Value), WellAll P h vs (ns.map WData.int) → IntsAre vs ns := by
  intro ns
  induction ns with
  | nil =>
    intro vs w
    rw [List.map_nil] at w
    cases w
    exact .nil
  | cons n ns ih =>
    intro vs w
    rw [List.map_cons] at w
    cases w with
    | cons a b =>
      cases a
      exact .cons _ _ (ih _ b)
theorem script_of {l : OpenLaw} {n : Nat} (hn : l.most = some n) {P : Params} {h : Heap} {args : List WData} {vals : List Value}
    (hpre : l.row.toRowW.claim.pre args = true) (hwl : WellAll P h vals args) :
    ∃ a vs ns, vals = [Value.ref a] ∧ args = [WData.list (ns.map WData.int)] ∧ h.get? a = some { cls := .type "list", data := .seq vs.toArray } ∧ IntsAre vs ns ∧ ns.length ≤ n := by
  have hsh : WShape.hasAll [] args [.list .int] = true := (pre_splitW hpre).1
  have hc : l.pre.holds [] { args := args } = true := (pre_splitW hpre).2
  obtain ⟨d, r, rfl, h1, h2⟩ := hasAllW_cons hsh
  obtain rfl := hasAllW_nil h2
  obtain ⟨xs, rfl, h3⟩ := hasW_list h1
  obtain ⟨ns, rfl⟩ := items_int h3
  have hlen : ns.length ≤ n := by
    unfold OpenLaw.pre at hc
    have h4 : (WTm.not (.lt (.lit (.int (n : Int))) (.len (.arg 0)))).holds [] { args := [.list (ns.map .int)] } = true := by
      have h4 := (holds_andW hc).1
      rw [hn] at h4
      exact h4
    have h5 := condW_of h4 (w_not (w_lt w_lit (w_len_list (w_arg rfl))))
    rw [List.length_map] at h5
    refine Nat.le_of_not_lt fun q => ?_
    have q' : (n : Int) < ((ns.length : Nat) : Int) := by omega
    first
      | (rw [decide_eq_true q'] at h5; exact absurd h5 (by decide))
      | (simp at h5; omega)
  cases hwl with
  | cons w1 w2 =>
    cases w2
    cases w1 with
    | list ho hall => exact ⟨_, _, ns, rfl, rfl, ho, ints_of_wellAll ns _ hall, hlen⟩
theorem post_true (l : OpenLaw) (args : List WData) : l.row.toRowW.claim.post args (.bool true) args = true :=
  postW_of (r := l.row.toRowW) (X := (true == true))
    (show WShape.has [] (.bool true) .bool = true by first | rfl | decide | simp [WShape.has, WShape.arms, WShape.armsAll])
    (show (WTm.eq .res (.lit (.bool true))).value [] { args := args, res := some (.bool true), after := args } = some (.bool (true == true)) from w_eq_bool (w_res rfl) w_lit) rfl
theorem attach_call {l : OpenLaw} {n : Nat} {q : Program} {loose : List Str} {XP : (Str → Option Value) → Heap → Prop} {YP : World → Heap → Prop} {d : DefRec}
    (hn : l.most = some n) (hdf : d.params.defaults = [])
    (call : ∀ (w : World) (s₀ s₁ : Shared) (mg mb : Str → Option Value) (fa : Addr) (o : Obj) (pm cd doc : Value) (a : Addr) (vs : List Value) (ns : List Int),
      Ground q loose [] XP w s₀ mg mb s₁.heap → YP w s₁.heap →
      s₁.heap.get? fa = some o → o.data = .func (docDef d.name d.params d.body d.scope pm cd doc) → s₁.heap.CodeRec cd d.name → mg d.name = some (.ref fa) →
      s₁.heap.get? a = some { cls := .type "list", data := .seq vs.toArray } → IntsAre vs ns → ns.length ≤ n → s₁.gens = #[] →
      codeAny (model l.prog w) callerA (.call (.ref fa) ⟨[.ref a], []⟩) (fun r s' => r = .ok (.ret (.bool true)) ∧ OldK s₁.heap s'.heap ∧ s'.os = s₁.os ∧ AllBare s'.gens) s₁) :
    WalkO q loose XP YP l.row.toRowW d [] (fun f vs => PySem.call f vs) := by
  intro w s₀ s₁ mg mb G Y fa o pm cd doc dV kV ho hd hcd hD hmg hg args vals as hpre hlay hrd hwl hlo
  obtain rfl : dV = .none := Dflts.none hD hdf
  obtain rfl : kV = .none := Dflts.noKw hD
  obtain ⟨a, vs, ns, rfl, rfl, hobj, hints, hlen⟩ := script_of hn hpre hwl
  refine enter_call (codeAny_mono (call w s₀ s₁ mg mb fa o pm cd doc a vs ns G Y ho (fd_plain hd) hcd hmg hobj hints hlen hg) fun r s' hq => ?_)
  obtain ⟨rfl, h2, h3, h4⟩ := hq
  exact ⟨.inl ⟨.bool true, .bool true, [], rfl, fun _ => rfl, .bool true, post_true l _, fun _ => ⟨List.Pairwise.nil, fun _ hm => (nomatch hm)⟩⟩, h2, h3, h4⟩
section
variable {prog : Program} {w : World} {A : Around} {E : Value → Shared → Prop} {s : Shared} {K : Frag}
end
end Att
namespace L2
open PySem PySem.Spec PyProof.Rows
theorem vals_ints : ∀ {vs : List Value} {ns : List Int}, IntsAre vs ns → Vals (ns.map V.int) vs
  | _, _, .nil => .nil
  | _, _, .cons n t h => .cons ⟨t, rfl⟩ (vals_ints h)
def Only (H : Hp) : Prop := ∀ b, H b = none ∨ ∃ o xs, H b = some (.frz o (.lst xs))
theorem law_call {P : Program} {w : World} {K : PySem.W.Frag} {mg mb : Str → Option Value} {CX : CXT} {k : Nat} {fa a : Addr} {fd : FuncData} {x : Str} {sp : Sp} {s₁ : Shared} {vs : List Value} {ns : List Int}
    (KX : K.In s₁.heap) (hns : s₁.heap.Ns mainGlobals mg) (hb : s₁.heap.Ns builtinsNs mb) (hbb : ∀ x : Str, x ≠ "__name__" → mb x = bootBuiltins x) (hlim : s₁.heap.NoLimit) (hg : s₁.gens = #[])
    (ha : s₁.heap.get? a = some { cls := .type "list", data := .seq vs.toArray }) (hi : IntsAre vs ns) (hl : ns.length ≤ sizeLine) (hr : Room k callerA)
    (F : ∀ base : Heap, K.In base → base.Ns mainGlobals mg → FnOk P w K mg base CX k fa fd [x] sp) (hbind : ∀ (s : Shared) (u : Value), BindsTo s fd ⟨[u], []⟩ [(x, u)])
    (hsp : ∀ H : Hp, Only H → SqL K H a (ns.map V.int) → sp [.ref a] H (fun v _ => v = .bl true) fun _ _ _ => False)
    (hCX : ∀ H e s', CX [] H s₁ (fun _ _ _ => False) e s' → False) :
    codeAny (model P w) callerA (.call (.ref fa) ⟨[.ref a], []⟩) (fun r s' => r = .ok (.ret (.bool true)) ∧ OldK s₁.heap s'.heap ∧ s'.os = s₁.os ∧ AllBare s'.gens) s₁ := by
  have rv := vals_ints hi
  have lenV := hi.length
  have core : ∀ H : Hp, Only H → SqL K H a (ns.map V.int) → HOk P w H s₁.heap → (∀ b, H b ≠ none → b = a) → (H a ≠ none → K.lookup a = none) →
      codeAny (model P w) callerA (.call (.ref fa) ⟨[.ref a], []⟩) (fun r s' => r = .ok (.ret (.bool true)) ∧ OldK s₁.heap s'.heap ∧ s'.os = s₁.os ∧ AllBare s'.gens) s₁ := by
    intro H hO hS hok hA hK
    have base_of : ∀ {b : Addr} {o : Obj}, s₁.heap.get? b = some o → H b = none → (hidT s₁.heap H).get? b = some o := fun e n => hidT_get e n
    have noA : ∀ {b : Addr} {o : Obj} {es : Array DictEntry} {ep : Nat}, s₁.heap.get? b = some o → o.data = .dict es ep → H b = none := fun {b o es ep} e d => by
      cases q : H b with
      | none => rfl
      | some u =>
        have e' : b = a := hA b (by rw [q]; simp)
        subst e'
        rw [ha] at e; cases e
        have d' : Data.seq vs.toArray _ = Data.dict es ep := d
        cases d'
    have nsK : ∀ {b : Addr} {m : Str → Option Value}, s₁.heap.Ns b m → (hidT s₁.heap H).Ns b m := fun {b m} ⟨o, es, ep, e, d, r⟩ => ⟨o, es, ep, base_of e (noA e d), d, r⟩
    have hKb : K.In (hidT s₁.heap H) := fun b o e => base_of (KX b o e) (by
      cases q : H b with
      | none => rfl
      | some u =>
        have e' : b = a := hA b (by rw [q]; simp)
        subst e'
        rw [hK (by rw [q]; simp)] at e; cases e)
    have hM : Mod K mg (hidT s₁.heap H) := ⟨hKb, nsK hns, ⟨mb, nsK hb, hbb⟩, let ⟨mc, h1, h2⟩ := hlim; ⟨mc, nsK h1, h2⟩⟩
    have e0 : Env0 P w K mg (hidT s₁.heap H) callerA [] s₁ H := ⟨rfl, hM, fun b o e => of_hidT e, Nat.le_of_eq (hidT_size _ _), trivial, fun b hb => absurd (show b ∈ ([] : List Addr) from hb) (by simp), hok, .of_eq hg⟩
    refine codeAny_mono ((F _ hKb (nsK hns)).run callerA [] s₁ H ⟨[.ref a], []⟩ [.ref a] [.ref a] _ _ hr e0 (hbind s₁ (.ref a)) (.cons rfl .nil) (hsp H hO hS)) fun r s' h => ?_
    cases r with
    | error e => exact (hCX H e s' h).elim
    | ok fl =>
      cases fl with
      | next => exact False.elim h
      | brk => exact False.elim h
      | cont => exact False.elim h
      | ret u =>
        obtain ⟨v, H', os, bare, un, hok', r', q⟩ := h
        have q' : v = .bl true := q
        subst q'
        obtain rfl : u = Value.bool true := r'
        refine ⟨rfl, OldK.of_keep fun b o e => ?_, os, bare⟩
        cases q : H b with
        | none => exact un.keep b o e q (by intro z; exact absurd (show b ∈ ([] : List Addr) from z) (by simp)) (by simp)
        | some u =>
          rcases hO b with z | ⟨ob, xs, z⟩
          · rw [q] at z; cases z
          · have z2 := un.frzs b ob _ z
            obtain ⟨e1, _⟩ := hok b _ z
            obtain ⟨e2, _⟩ := hok' b _ z2
            rw [e] at e1; cases e1
            exact e2
  cases hk : K.lookup a with
  | some o =>
    have e := KX a o hk
    rw [ha] at e
    cases e
    refine core (fun _ => none) (fun _ => .inl rfl) (.inr ⟨_, vs.toArray, _, hk, rfl, rfl, rfl, by rw [List.size_toArray, lenV]; exact hl, by simpa using rv⟩) (fun b u z => by have z' : (none : Option HO) = some u := z; cases z') (fun b z => absurd rfl z) fun z => absurd rfl z
  | none =>
    refine core (fun b => if b = a then some (.frz { cls := .type "list", data := .seq vs.toArray } (.lst (ns.map V.int))) else none) (fun b => ?_) (.inl (.inr ⟨{ cls := .type "list", data := .seq vs.toArray }, if_pos rfl⟩)) (fun b u z => ?_) (fun b z => ?_) fun _ => hk
    · by_cases hb : b = a
      · exact .inr ⟨_, _, if_pos hb⟩
      · exact .inl (if_neg hb)
    · by_cases hb : b = a
      · have z' := (if_pos hb).symm.trans z
        cases z'
        subst hb
        exact ⟨ha, by rw [List.length_map]; exact hl, vs, _, rv, ha⟩
      · have z' := (if_neg hb).symm.trans z
        cases z'
    · by_cases hb : b = a
      · exact hb
      · exact absurd (if_neg hb) z
end L2
namespace L2
open PySem PySem.Spec PyProof.Rows
theorem walk_of {l : PySem.W.OpenLaw} {n k : Nat} {q : Program} {loose : List Str} {XP : (Str → Option Value) → Heap → Prop} {YP : World → Heap → Prop} {d : DefRec} {K : Params → PySem.W.Frag} {CX : World → CXT} {sp : World → Sp} {x : Str}
    (hn : l.most = some n) (hn2 : n ≤ sizeLine) (hdf : d.params.defaults = []) (hr : Room k callerA)
    (hY : ∀ (w : World) (h : Heap), YP w h → (K w.params).In h)
    (F : ∀ (w : World) (mg : Str → Option Value) (fa : Addr) (h : Heap), (K w.params).In h → h.Ns mainGlobals mg → mg d.name = some (.ref fa) →
      ∃ fd : FuncData, (∀ (s : Shared) (u : Value), BindsTo s fd ⟨[u], []⟩ [(x, u)]) ∧
        ∀ base : Heap, (K w.params).In base → base.Ns mainGlobals mg → FnOk l.prog w (K w.params) mg base (CX w) k fa fd [x] (sp w))
    (hsp : ∀ (w : World) (H : Hp) (a : Addr) (ns : List Int), ns.length ≤ n → Only H → SqL (K w.params) H a (ns.map V.int) → sp w [.ref a] H (fun v _ => v = .bl true) fun _ _ _ => False)
    (hCX : ∀ (w : World) (H : Hp) (s : Shared) (e : Value) (s' : Shared), CX w [] H s (fun _ _ _ => False) e s' → False) :
    PySem.W.WalkO q loose XP YP l.row.toRowW d [] (fun f vs => PySem.call f vs) := by
  refine Att.attach_call hn hdf fun w s₀ s₁ mg mb fa o pm cd doc a vs ns G Y ho hd hcd hmg hobj hints hlen hg => ?_
  have KX := hY w _ Y
  obtain ⟨fd, hb, hF⟩ := F w mg fa _ KX G.T.g hmg
  exact law_call KX G.T.g G.T.b G.T.builtins G.T.nolimit hg hobj hints (Nat.le_trans hlen hn2) hr hF hb (fun H hO hS => hsp w H a ns hlen hO hS) fun H e s' => hCX w H s₁ e s'
end L2
namespace L2
open PySem PySem.Spec PyProof.Rows
def inClass (s : Stmt) (j : Nat) : Stmt := match s with
  | .ClassDef _ _ _ body _ _ _ _ _ _ _ => body.getD j (.Pass ⟨0, 0, 0, 0⟩)
  | _ => .Pass ⟨0, 0, 0, 0⟩
def defArgs (s : Stmt) : Arguments := match s with
  | .FunctionDef _ a _ _ _ _ _ _ _ _ => a
  | _ => { posonlyargs := [], args := [], vararg := none, kwonlyargs := [], kw_defaults := [], kwarg := none, defaults := [] }
def defBody (s : Stmt) : List Stmt := match s with
  | .FunctionDef _ _ b _ _ _ _ _ _ _ => b
  | _ => []
def defScope (s : Stmt) : Scope := match s with
  | .FunctionDef _ _ _ _ _ _ sc _ _ _ => sc
  | _ => { kind := .function, names := [], isGenerator := false, isCoroutine := false }
abbrev CX0 : CXT := fun _ _ _ _ _ _ => False
abbrev E0 : XK := fun _ _ _ => False
theorem pass0 {X : Cx} : Passes CX0 X E0 := fun _ _ _ _ _ _ _ h => h.elim
structure Fun (K : PySem.W.Frag) (x qual : Str) (st : Stmt) (f : Addr) (fd : FuncData) : Prop where
  ex : ∃ (oc : Value) (od : Option Addr) (kV doc pm : Value) (an : Option Addr) (cdv ct : Value) (osl : Array (Option Value)),
    fd = PySem.W.fnOf x qual (defArgs st) (defBody st) (defScope st) .none kV doc pm an cdv ct ∧ K.lookup f = some ⟨oc, od, .func fd, osl⟩ ∧ PySem.W.codeIn K cdv qual = true
  kp : PySem.W.keepIn K (.ref f) = true
section
variable {P : Program} {w : World} {K : PySem.W.Frag} {mg : Str → Option Value} {base : Heap}
theorem Fun.ok {x qual : Str} {st : Stmt} {f : Addr} {fd : FuncData} {N ps : List Str} {k : Nat} {sp : Sp} (F : Fun K x qual st f fd) (S : FnScope N ps (defScope st)) (len : ∀ vs H Q E, sp vs H Q E → vs.length = ps.length)
    (hbody : ∀ (cdv : Value) (A : Around) (outer : List Env) (s : Shared) (H : Hp) (vs : List V) (Q : VK) (E : XK), Room k (A.deeper (envOfC qual (defScope st) s.heap.objs.size f cdv)) → sp vs H Q E →
      ∃ t, PSs (cxOf CX0 P w K mg base N qual (defScope st) f cdv A outer s H E).nox (defBody st) t ∧ t { nx := fun _ H' => Q .non H', rt := Q } (start N vs) H) : FnOk P w K mg base CX0 (k + 1) f fd ps sp := by
  obtain ⟨oc, od, kV, doc, pm, an, cdv, ct, osl, rfl, lk, hcd⟩ := F.ex
  refine fn_of lk hcd S len fun A outer s H vs Q E hr hsp => ?_
  obtain ⟨t, h, q⟩ := hbody cdv A outer s H vs Q E hr hsp
  exact ⟨t, h.nox, q⟩
theorem Fun.binds {x qual : Str} {st : Stmt} {f : Addr} {fd : FuncData} {ps : List Str} (F : Fun K x qual st f fd)
    (h : ∀ (kV doc pm : Value) (an : Option Addr) (cdv ct : Value) (us : List Value), us.length = ps.length → bindArgs (PySem.W.fnOf x qual (defArgs st) (defBody st) (defScope st) .none kV doc pm an cdv ct) ⟨us, []⟩ = pure (ps.zip us)) : Binds K fd ps [] := by
  obtain ⟨oc, od, kV, doc, pm, an, cdv, ct, osl, rfl, lk, hcd⟩ := F.ex
  exact .all (h kV doc pm an cdv ct)
theorem fun_mk {x qual : Str} {st : Stmt} {f : Addr} {oc : Value} {od an : Option Addr} {osl : Array (Option Value)} {kV doc pm cdv ct : Value} (l : K.lookup f = some ⟨oc, od, .func (PySem.W.fnOf x qual (defArgs st) (defBody st) (defScope st) .none kV doc pm an cdv ct), osl⟩)
    (c : PySem.W.codeIn K cdv qual = true) (k : PySem.W.keepIn K (.ref f) = true) : Fun K x qual st f (PySem.W.fnOf x qual (defArgs st) (defBody st) (defScope st) .none kV doc pm an cdv ct) := ⟨⟨oc, od, kV, doc, pm, an, cdv, ct, osl, rfl, l, c⟩, k⟩
end
section
variable {X : Cx}
theorem pv (i : Nat) {x : Str} {pos : Pos} (hN : X.N[i]? = some x := by rfl) (hv : Vis X.env.scope x := by first | exact Or.inl rfl | exact Or.inr (Or.inl rfl) | exact Or.inr (Or.inr rfl)) (hd : (x == ("__debug__" : Str)) = false := by decide)
    (hcd : (x == ("__classdict__" : Str)) = false := by decide) : PE X (.Name x pos) (tVar i) := pe_var hN hv hd hcd
end
def Same (H H' : Hp) : Prop := ∀ b o, H b = some o → H' b = some o
theorem Same.refl (H : Hp) : Same H H := fun _ _ h => h
theorem Same.trans {H H1 H2 : Hp} (a : Same H H1) (b : Same H1 H2) : Same H H2 := fun c o h => b c o (a c o h)
theorem Same.free {H H' : Hp} (e : Same H H') {l : Addr} (h : H' l = Option.none) : H l = Option.none := by
  cases q : H l with
  | none => rfl
  | some o =>
    rw [e l o q] at h
    cases h
theorem Same.seq {K : PySem.W.Frag} {H H' : Hp} {a : Addr} {xs : List V} (e : Same H H') (h : SqL K H a xs) : SqL K H' a xs := by
  rcases h with (h | ⟨o, h⟩) | h
  · exact .inl (.inl (e _ _ h))
  · exact .inl (.inr ⟨o, e _ _ h⟩)
  · exact .inr h
end L2
set_option Elab.async false
set_option linter.all false
set_option maxRecDepth 100000
namespace L2
open PySem PySem.Spec PyProof.Rows
section
variable {κ : Type} [DecidableEq κ]
def valV (kvs : List (κ × V)) (k : κ) : Option V := (kvs.find? fun kv => decide (kv.1 = k)).map (·.2)
def putK (kvs : List (κ × V)) (k : κ) (v : V) : List (κ × V) :=
  if (kvs.any fun kv => decide (kv.1 = k)) = true then kvs.map (fun kv => if kv.1 = k then (kv.1, v) else kv) else kvs ++ [(k, v)]
def dropK (kvs : List (κ × V)) (k : κ) : List (κ × V) := kvs.filter fun kv => decide (kv.1 ≠ k)
theorem valV_pos {p : κ × V} {r : List (κ × V)} {k : κ} (e : p.1 = k) : valV (p :: r) k = some p.2 := by simp [valV, List.find?_cons, e]
theorem valV_neg {p : κ × V} {r : List (κ × V)} {k : κ} (e : ¬ p.1 = k) : valV (p :: r) k = valV r k := by simp [valV, List.find?_cons, e]
theorem valV_any (k : κ) : ∀ kvs : List (κ × V), (kvs.any fun kv => decide (kv.1 = k)) = (valV kvs k).isSome
  | [] => rfl
  | p :: r => by
    rw [List.any_cons]
    by_cases e : p.1 = k
    · simp only [valV_pos e, decide_eq_true e, Bool.true_or, Option.isSome_some]
    · rw [valV_neg e, decide_eq_false e, Bool.false_or]; exact valV_any k r
theorem valV_map (k j : κ) (y : V) : ∀ kvs : List (κ × V), valV (kvs.map fun kv => if kv.1 = k then (kv.1, y) else kv) j = (valV kvs j).map fun x => if j = k then y else x
  | [] => rfl
  | p :: r => by
    have ih := valV_map k j y r
    rw [List.map_cons]
    by_cases h : p.1 = k
    · rw [if_pos h]
      by_cases e : p.1 = j
      · rw [valV_pos (p := (p.1, y)) e, valV_pos e, Option.map_some, if_pos (e.symm.trans h)]
      · rw [valV_neg (p := (p.1, y)) e, valV_neg e, ih]
    · rw [if_neg h]
      by_cases e : p.1 = j
      · rw [valV_pos (p := p) e, valV_pos e, Option.map_some, if_neg (fun z => h (e.trans z))]
      · rw [valV_neg (p := p) e, valV_neg e, ih]
theorem valV_snoc (k j : κ) (y : V) : ∀ kvs : List (κ × V), valV kvs k = none → valV (kvs ++ [(k, y)]) j = if j = k then some y else valV kvs j
  | [], _ => by
    by_cases e : k = j
    · rw [if_pos e.symm]; exact valV_pos (p := (k, y)) e
    · rw [if_neg (fun z => e z.symm)]; exact valV_neg (p := (k, y)) e
  | p :: r, hn => by
    rw [List.cons_append]
    have hk : ¬ p.1 = k := fun z => by rw [valV_pos z] at hn; cases hn
    rw [valV_neg hk] at hn
    have ih := valV_snoc k j y r hn
    by_cases e : p.1 = j
    · rw [valV_pos e, valV_pos e, if_neg (fun z => hk (e.trans z))]
    · rw [valV_neg e, valV_neg e, ih]
theorem valV_put (kvs : List (κ × V)) (k j : κ) (y : V) : valV (putK kvs k y) j = if j = k then some y else valV kvs j := by
  unfold putK
  by_cases a : (kvs.any fun kv => decide (kv.1 = k)) = true
  · rw [if_pos a, valV_map]
    rw [valV_any] at a
    by_cases e : j = k
    · obtain ⟨x, hx⟩ := Option.isSome_iff_exists.mp a
      rw [if_pos e, e, hx, Option.map_some, if_pos rfl]
    · rw [if_neg e]
      cases valV kvs j with
      | none => rfl
      | some x => rw [Option.map_some, if_neg e]
  · rw [if_neg a]
    refine valV_snoc k j y kvs ?_
    rw [valV_any] at a
    cases q : valV kvs k with
    | none => rfl
    | some x => rw [q] at a; exact (a rfl).elim
theorem length_putK (kvs : List (κ × V)) (k : κ) (v : V) : (putK kvs k v).length ≤ kvs.length + 1 := by
  unfold putK
  split
  · rw [List.length_map]; omega
  · rw [List.length_append, List.length_cons, List.length_nil]; omega
theorem putK_new {kvs : List (κ × V)} {k : κ} (v : V) (h : valV kvs k = none) : putK kvs k v = kvs ++ [(k, v)] := by
  unfold putK
  rw [valV_any, h]
  exact if_neg (by decide)
theorem RelO.isSome_eq {o : Option V} {u : Option Value} (r : RelO o u) : o.isSome = u.isSome := by
  cases o with
  | none => cases u with
    | none => rfl
    | some _ => exact (show False from r).elim
  | some _ => cases u with
    | none => exact (show False from r).elim
    | some _ => rfl
theorem RelO.getD {o : Option V} {u : Option Value} {d : V} {d' : Value} (r : RelO o u) (rd : RelV d d') : RelV (o.getD d) (u.getD d') := by
  cases o with
  | none => cases u with
    | none => exact rd
    | some _ => exact (show False from r).elim
  | some _ => cases u with
    | none => exact (show False from r).elim
    | some _ => exact r
theorem KV.val {kvs : List (κ × V)} {vs : List (κ × Value)} (r : KV kvs vs) (k : κ) : RelO (valV kvs k) (valueAt vs k) := by
  unfold KV at r
  induction r with
  | nil => exact True.intro
  | @cons p q ps qs h t ih =>
    obtain ⟨h1, h2⟩ := h
    by_cases e : p.1 = k
    · have e' : q.1 = k := h1.symm.trans e
      have b : valueAt (q :: qs) k = some q.2 := by simp [valueAt, List.find?_cons, e']
      rw [valV_pos e, b]; exact h2
    · have e' : ¬ q.1 = k := fun z => e (h1.trans z)
      have b : valueAt (q :: qs) k = valueAt qs k := by simp [valueAt, List.find?_cons, e']
      rw [valV_neg e, b]; exact ih
theorem KV.any {kvs : List (κ × V)} {vs : List (κ × Value)} (r : KV kvs vs) (k : κ) : (kvs.any fun kv => decide (kv.1 = k)) = vs.any fun kv => decide (kv.1 = k) := by
  unfold KV at r
  induction r with
  | nil => rfl
  | cons h t ih => rw [List.any_cons, List.any_cons, ih, h.1]
theorem KV.repl {kvs : List (κ × V)} {vs : List (κ × Value)} (r : KV kvs vs) (k : κ) {y : V} {u : Value} (ry : RelV y u) :
    KV (kvs.map fun kv => if kv.1 = k then (kv.1, y) else kv) (vs.map fun kv => if kv.1 = k then (kv.1, u) else kv) := by
  unfold KV at r ⊢
  induction r with
  | nil => exact .nil
  | @cons p q ps qs h t ih =>
    rw [List.map_cons, List.map_cons]
    refine .cons ?_ ih
    obtain ⟨h1, h2⟩ := h
    by_cases e : p.1 = k
    · rw [if_pos e, if_pos (h1.symm.trans e)]; exact ⟨h1, ry⟩
    · rw [if_neg e, if_neg (fun z => e (h1.trans z))]; exact ⟨h1, h2⟩
theorem KV.put {kvs : List (κ × V)} {vs : List (κ × Value)} (r : KV kvs vs) (k : κ) {y : V} {u : Value} (ry : RelV y u) : KV (putK kvs k y) (stored vs k u) := by
  unfold putK stored
  rw [r.any k]
  by_cases e : (vs.any fun kv => decide (kv.1 = k)) = true
  · rw [if_pos e, if_pos e]; exact r.repl k ry
  · rw [if_neg e, if_neg e]; exact Paired.snoc r ⟨rfl, ry⟩
theorem KV.drop {kvs : List (κ × V)} {vs : List (κ × Value)} (r : KV kvs vs) (k : κ) : KV (dropK kvs k) (without vs k) := by
  unfold KV at r ⊢
  unfold dropK without
  induction r with
  | nil => exact .nil
  | @cons p q ps qs h t ih =>
    obtain ⟨h1, h2⟩ := h
    rw [List.filter_cons, List.filter_cons]
    by_cases e : p.1 = k
    · have a : ¬ decide (p.1 ≠ k) = true := by simp [e]
      have b : ¬ decide (q.1 ≠ k) = true := by simp [h1.symm.trans e]
      rw [if_neg a, if_neg b]; exact ih
    · have e' : ¬ q.1 = k := fun z => e (h1.trans z)
      have a : decide (p.1 ≠ k) = true := by simp [e]
      have b : decide (q.1 ≠ k) = true := by simp [e']
      rw [if_pos a, if_pos b]; exact .cons ⟨h1, h2⟩ ih
theorem KV.keys {kvs : List (κ × V)} {vs : List (κ × Value)} (r : KV kvs vs) : kvs.map (·.1) = vs.map (·.1) := by
  unfold KV at r
  induction r with
  | nil => rfl
  | cons h t ih => rw [List.map_cons, List.map_cons, ih, h.1]
theorem KV.length {kvs : List (κ × V)} {vs : List (κ × Value)} (r : KV kvs vs) : kvs.length = vs.length := Paired.length r
end
theorem kV_is {P : Program} {w : World} {k : Key} {u : Value} (r : RelV (kV k) u) : (mixKind P w).is k u = true := by
  cases k with
  | inl i => obtain ⟨t, e⟩ := (show ∃ t, u = Value.int i t from r); subst e; exact mixKind_int P w i t
  | inr x => obtain ⟨t, e⟩ := (show ∃ t, u = Value.str x t from r); subst e; exact mixKind_str P w x t
theorem items_are {P : Program} {w : World} : ∀ {ks : List Key} {us : List Value}, Vals (ks.map kV) us → ItemsAre (mixKind P w) ks us
  | [], _, r => by rw [List.map_nil] at r; cases r; exact .nil
  | k :: ks, _, r => by
    rw [List.map_cons] at r
    cases r with
    | cons h t => exact .cons (kV_is h) (items_are t)
abbrev KT (H : Hp) : List (List Key × V) → List (List Key × Addr × Value) → Prop := Paired fun p q => p.1 = q.1 ∧ H q.2.1 = some (.tup (p.1.map kV)) ∧ RelV p.2 q.2.2
theorem KT.val {H : Hp} {kvs : List (List Key × V)} {xs : List (List Key × Addr × Value)} (r : KT H kvs xs) (k : List Key) : RelO (valV kvs k) ((atKey xs k).map (·.2)) := by
  induction r with
  | nil => exact True.intro
  | @cons p q ps qs h t ih =>
    obtain ⟨h1, _, h2⟩ := h
    by_cases e : p.1 = k
    · have e' : q.1 = k := h1.symm.trans e
      have b : atKey (q :: qs) k = some q.2 := by simp [atKey, List.find?_cons, e']
      rw [valV_pos e, b]; exact h2
    · have e' : ¬ q.1 = k := fun z => e (h1.trans z)
      have b : atKey (q :: qs) k = atKey qs k := by simp [atKey, List.find?_cons, e']
      rw [valV_neg e, b]; exact ih
theorem KT.repl {H : Hp} {kvs : List (List Key × V)} {xs : List (List Key × Addr × Value)} (r : KT H kvs xs) (k : List Key) {y : V} {u : Value} (ry : RelV y u) :
    KT H (kvs.map fun kv => if kv.1 = k then (kv.1, y) else kv) (xs.map (putAt k u)) := by
  induction r with
  | nil => exact .nil
  | @cons p q ps qs h t ih =>
    rw [List.map_cons, List.map_cons]
    refine .cons ?_ ih
    obtain ⟨h1, h2, h3⟩ := h
    unfold putAt
    by_cases e : p.1 = k
    · rw [if_pos e, if_pos (h1.symm.trans e)]; exact ⟨h1, h2, ry⟩
    · rw [if_neg e, if_neg (fun z => e (h1.trans z))]; exact ⟨h1, h2, h3⟩
theorem KT.put {H : Hp} {kvs : List (List Key × V)} {xs : List (List Key × Addr × Value)} (r : KT H kvs xs) (k : List Key) {b : Addr} {y : V} {u : Value} (hb : H b = some (.tup (k.map kV))) (ry : RelV y u) :
    KT H (putK kvs k y) (storedH xs k b u) := by
  have e : (kvs.any fun kv => decide (kv.1 = k)) = (atKey xs k).isSome := by
    rw [valV_any, (r.val k).isSome_eq, Option.isSome_map]
  unfold putK storedH
  rw [e]
  by_cases q : (atKey xs k).isSome = true
  · rw [if_pos q, if_pos q]; exact r.repl k ry
  · rw [if_neg q, if_neg q]; exact Paired.snoc r ⟨rfl, hb, ry⟩
theorem KT.keeps {H H' : Hp} {kvs : List (List Key × V)} {xs : List (List Key × Addr × Value)} (r : KT H kvs xs) (ht : ∀ b ys, H b = some (.tup ys) → H' b = some (.tup ys)) : KT H' kvs xs :=
  Paired.mapP r fun _ _ z => ⟨z.1, ht _ _ z.2.1, z.2.2⟩
section
variable {P : Program} {w : World} {H : Hp} {h : Heap} {a : Addr}
theorem rd_of {u : HO} (ok : HOk P w H h) (e : Rd H a u) : ObjOk P w H h a u := e.ok ok
theorem dk_rd {kvs : List (Key × V)} (ok : HOk P w H h) (e : Rd H a (.dK kvs)) : kvs.length ≤ sizeLine ∧ (a == sysModules) = false ∧ ∃ vs, KV kvs vs ∧ h.DictOf (mixKind P w) a vs :=
  show ObjOk P w H h a (.dK kvs) from rd_of ok e
theorem dk_of {kvs : List (Key × V)} (ok : HOk P w H h) (e : H a = some (.dK kvs)) : kvs.length ≤ sizeLine ∧ (a == sysModules) = false ∧ ∃ vs, KV kvs vs ∧ h.DictOf (mixKind P w) a vs := dk_rd ok (.inl e)
theorem key_of {ks : List Key} (ok : HOk P w H h) (e : H a = some (.tup (ks.map kV))) : (tupleKind (mixKind P w)).is h ks a := by
  obtain ⟨_, its, r, o, h1, h2, n, h3⟩ := (show ObjOk P w H h a (.tup (ks.map kV)) from ok a _ e)
  exact ⟨o, its.toArray, n, h1, h2, h3, by simpa using items_are r⟩
theorem dt_rd {kvs : List (List Key × V)} (ok : HOk P w H h) (e : Rd H a (.dT kvs)) : kvs.length ≤ sizeLine ∧ (a == sysModules) = false ∧
    ∃ xs, KT H kvs xs ∧ h.DictOfH (tupleKind (mixKind P w)) a xs := by
  obtain ⟨z, y, xs, r, o, es, ep, h1, h2, h3, h4, h5⟩ := (show ObjOk P w H h a (.dT kvs) from rd_of ok e)
  refine ⟨z, y, xs, r, o, es, ep, h1, h2, h3, h4, fun x hx => ?_, h5⟩
  have all : ∀ {l : List (List Key × V)} {m : List (List Key × Addr × Value)}, KT H l m → ∀ x ∈ m, (tupleKind (mixKind P w)).is h x.1 x.2.1 := by
    intro l m q
    induction q with
    | nil => intro x hx; exact nomatch hx
    | @cons p q ps qs hq t ih =>
      intro x hx
      rcases List.mem_cons.mp hx with e | hx
      · subst e
        exact key_of ok (by rw [← hq.1]; exact hq.2.1)
      · exact ih x hx
  exact all r x hx
theorem dt_of {kvs : List (List Key × V)} (ok : HOk P w H h) (e : H a = some (.dT kvs)) : kvs.length ≤ sizeLine ∧ (a == sysModules) = false ∧
    ∃ xs, KT H kvs xs ∧ h.DictOfH (tupleKind (mixKind P w)) a xs := dt_rd ok (.inl e)
end
def DGet (H : Hp) (a : Addr) (y : V) (r : Option V) : Prop :=
  (∃ kvs k, Rd H a (.dK kvs) ∧ y = kV k ∧ r = valV kvs k) ∨ ∃ kvs k b, Rd H a (.dT kvs) ∧ y = .ref b ∧ H b = some (.tup (k.map kV)) ∧ r = valV kvs k
def DPut (H : Hp) (a : Addr) (y v : V) (H' : Hp) : Prop :=
  (∃ kvs k, H a = some (.dK kvs) ∧ y = kV k ∧ kvs.length < sizeLine ∧ H' = upd H a (.dK (putK kvs k v))) ∨
  ∃ kvs k b, H a = some (.dT kvs) ∧ y = .ref b ∧ H b = some (.tup (k.map kV)) ∧ kvs.length < sizeLine ∧ H' = upd H a (.dT (putK kvs k v))
theorem DGet.k {H : Hp} {a : Addr} {kvs : List (Key × V)} {k : Key} (e : H a = some (.dK kvs)) : DGet H a (kV k) (valV kvs k) := .inl ⟨kvs, k, .inl e, rfl, rfl⟩
theorem DGet.t {H : Hp} {a b : Addr} {kvs : List (List Key × V)} {k : List Key} (e : H a = some (.dT kvs)) (eb : H b = some (.tup (k.map kV))) : DGet H a (.ref b) (valV kvs k) := .inr ⟨kvs, k, b, .inl e, rfl, eb, rfl⟩
theorem DPut.k {H : Hp} {a : Addr} {kvs : List (Key × V)} {k : Key} {v : V} (e : H a = some (.dK kvs)) (hl : kvs.length < sizeLine) : DPut H a (kV k) v (upd H a (.dK (putK kvs k v))) := .inl ⟨kvs, k, e, rfl, hl, rfl⟩
theorem DPut.t {H : Hp} {a b : Addr} {kvs : List (List Key × V)} {k : List Key} {v : V} (e : H a = some (.dT kvs)) (eb : H b = some (.tup (k.map kV))) (hl : kvs.length < sizeLine) :
    DPut H a (.ref b) v (upd H a (.dT (putK kvs k v))) := .inr ⟨kvs, k, b, e, rfl, eb, hl, rfl⟩
section
variable {X : Cx} {pins : List (Addr × Obj)} {σ : St} {H : Hp} {s : Shared} {a : Addr} {y v : V} {u r : Value} {o : Option V} {A : Around} {E : Value → Shared → Prop}
theorem Inv.big (I : Inv X pins σ H s) : sysModules < s.heap.objs.size := by
  have h : mainGlobals < s.heap.objs.size := (I.mod.glob.keeps I.bk).lt
  exact Nat.lt_trans (by decide) h
theorem d_getItem {Q : Value → Shared → Prop} (hu : A.units + 1 < cLine) (I : Inv X pins σ H s) (g : DGet H a y (some v)) (ry : RelV y u) (h : ∀ w' s', Inv X pins σ H s' → RelV v w' → Q w' s') :
    wpAny (model X.prog X.w) A (getItem (.ref a) u) Q E s := by
  rcases g with ⟨kvs, k, e, ey, l⟩ | ⟨kvs, k, b, e, ey, eb, l⟩
  · subst ey
    obtain ⟨z, hd, vs, rel, dd⟩ := dk_rd I.hok e
    obtain ⟨w', hw, rw'⟩ := RelO.some_of (v := v) (o := valueAt vs k) (by rw [l]; exact rel.val k)
    exact wpAny_getItem_of (kV_is ry) dd.mapOf hw (h w' _ (I.tok _) rw')
  · subst ey
    cases (show u = Value.ref b from ry)
    obtain ⟨z, hd, xs, rel, dd⟩ := dt_rd I.hok e
    obtain ⟨w', hw, rw'⟩ := RelO.some_of (v := v) (o := (atKey xs k).map (·.2)) (by rw [l]; exact rel.val k)
    obtain ⟨p, hp, hp2⟩ := Option.map_eq_some_iff.mp hw
    refine wpAny_getItem_heap (tupleKind_room_in1 hu) (key_of I.hok eb) dd hp ?_
    rw [hp2]
    exact h w' _ (I.tok _) rw'
theorem d_in {Q : Value → Shared → Prop} (hu : A.units + 1 < cLine) (I : Inv X pins σ H s) (g : DGet H a y o) (ry : RelV y u) (h : ∀ s', Inv X pins σ H s' → Q (.bool o.isSome) s') :
    wpAny (model X.prog X.w) A (compareOp .In u (.ref a)) Q E s := by
  rcases g with ⟨kvs, k, e, ey, l⟩ | ⟨kvs, k, b, e, ey, eb, l⟩
  · subst ey
    obtain ⟨z, hd, vs, rel, dd⟩ := dk_rd I.hok e
    refine wpAny_in_of (kV_is ry) hd dd.mapOf ?_
    rw [← (rel.val k).isSome_eq, ← l]
    exact h _ (I.tok _)
  · subst ey
    cases (show u = Value.ref b from ry)
    obtain ⟨z, hd, xs, rel, dd⟩ := dt_rd I.hok e
    refine wpAny_in_heap (tupleKind_room_in1 hu) (key_of I.hok eb) hd dd ?_
    have q := (rel.val k).isSome_eq
    rw [Option.isSome_map] at q
    rw [← q, ← l]
    exact h _ (I.tok _)
theorem d_notIn {Q : Value → Shared → Prop} (hu : A.units + 1 < cLine) (I : Inv X pins σ H s) (g : DGet H a y o) (ry : RelV y u) (h : ∀ s', Inv X pins σ H s' → Q (.bool (!o.isSome)) s') :
    wpAny (model X.prog X.w) A (compareOp .NotIn u (.ref a)) Q E s := by
  rcases g with ⟨kvs, k, e, ey, l⟩ | ⟨kvs, k, b, e, ey, eb, l⟩
  · subst ey
    obtain ⟨z, hd, vs, rel, dd⟩ := dk_rd I.hok e
    refine wpAny_notIn_of (kV_is ry) hd dd.mapOf ?_
    rw [← (rel.val k).isSome_eq, ← l]
    exact h _ (I.tok _)
  · subst ey
    cases (show u = Value.ref b from ry)
    obtain ⟨z, hd, xs, rel, dd⟩ := dt_rd I.hok e
    refine wpAny_notIn_heap (tupleKind_room_in1 hu) (key_of I.hok eb) hd dd ?_
    have q := (rel.val k).isSome_eq
    rw [Option.isSome_map] at q
    rw [← q, ← l]
    exact h _ (I.tok _)
theorem d_write {h' : Heap} {t' : Nat} {ob : HO} (I : Inv X pins σ H s) (mu : Mut (H a)) (hs : Heap.SameBut a s.heap h') (he : ∃ q, h'.get? a = some q) (new : ObjOk X.prog X.w (upd H a ob) h' a ob) :
    Inv X pins σ (upd H a ob) { s with heap := h', toks := t' } :=
  I.write (x := a) (e := a) mu (.inl rfl) (fun b q hb z => (hs.2 b hb).trans z) he new
theorem dk_new {P : Program} {w : World} {H' : Hp} {h' : Heap} {kvs : List (Key × V)} {vs : List (Key × Value)} (z : kvs.length ≤ sizeLine) (hd : (a == sysModules) = false) (rel : KV kvs vs) (dd : h'.DictOf (mixKind P w) a vs) :
    ObjOk P w H' h' a (.dK kvs) := ⟨z, hd, vs, rel, dd⟩
theorem d_setItem {H' : Hp} {Q : Unit → Shared → Prop} (hu : A.units + 1 < cLine) (I : Inv X pins σ H s) (g : DPut H a y v H') (ry : RelV y u) (rv : RelV v r) (h : ∀ s', Inv X pins σ H' s' → Q () s') :
    wpAny (model X.prog X.w) A (setItem (.ref a) u r) Q E s := by
  rcases g with ⟨kvs, k, e, ey, l, eH⟩ | ⟨kvs, k, b, e, ey, eb, l, eH⟩
  · subst ey eH
    obtain ⟨z, hd, vs, rel, dd⟩ := dk_of I.hok e
    have hz : vs.length ≤ sizeLine := by rw [← rel.length]; exact z
    have hl : (putK kvs k v).length ≤ sizeLine := by have := length_putK kvs k v; omega
    refine wpAny_setItem_pairs (hsz := hz) (kV_is ry) dd fun h' dd' hs => h _ ?_
    have he : ∃ q, h'.get? a = some q := let ⟨q, _, _, hq, _⟩ := dd'; ⟨q, hq⟩
    exact d_write I (by rw [e]; exact True.intro) hs he (dk_new hl hd (rel.put k rv) dd')
  · subst ey eH
    cases (show u = Value.ref b from ry)
    obtain ⟨z, hd, xs, rel, dd⟩ := dt_of I.hok e
    have hz : xs.length ≤ sizeLine := by rw [← Paired.length rel]; exact z
    have hl : (putK kvs k v).length ≤ sizeLine := by have := length_putK kvs k v; omega
    refine wpAny_setItem_heap (hsz := hz) (tupleKind_room_in1 hu) (key_of I.hok eb) dd fun h' dd' hs => h _ ?_
    obtain ⟨q, es, ep, hq, h2, h3, h4, _, h5⟩ := dd'
    refine d_write I (by rw [e]; exact True.intro) hs ⟨q, hq⟩ ⟨hl, hd, _, (rel.put k eb rv).keeps fun c ys ec => ?_, q, es, ep, hq, h2, h3, h4, h5⟩
    rw [upd_ne (ne_of ec e (fun z => nomatch z))]
    exact ec
end
section
variable {X : Cx} {pins : List (Addr × Obj)} {σ : St} {H : Hp} {s : Shared} {a : Addr} {kvs : List (Key × V)} {k : Key} {u : Value} {A : Around} {E : Value → Shared → Prop}
theorem d_clear {Q : Value → Shared → Prop} (I : Inv X pins σ H s) (e : H a = some (.dK kvs)) (h : ∀ s', Inv X pins σ (upd H a (.dK [])) s' → Q .none s') : wpAny (model X.prog X.w) A (call (.builtin "dict.clear") [.ref a]) Q E s := by
  obtain ⟨z, hd, vs, rel, dd⟩ := dk_of I.hok e
  refine call_meetsIn PySem.F.slot_dict_clear dd.typeIs PySem.F.entry_dict_clear (PySem.F.args_dict_clear_1 _) (meets_dict_clear (mixKind X.prog X.w) a) ⟨vs, dd, by rw [← rel.length]; exact z, fun h' dd' hs => h _ ?_⟩
  have he : ∃ q, h'.get? a = some q := let ⟨q, _, _, hq, _⟩ := dd'; ⟨q, hq⟩
  exact d_write (t' := s.toks) I (by rw [e]; exact True.intro) hs he (dk_new (Nat.zero_le _) hd .nil dd')
theorem d_len {Q : Value → Shared → Prop} (I : Inv X pins σ H s) (e : Rd H a (.dK kvs)) (h : ∀ t s', Inv X pins σ H s' → Q (.int kvs.length t) s') : wpAny (model X.prog X.w) A (call (.builtin "len") [.ref a]) Q E s := by
  obtain ⟨z, hd, vs, rel, dd⟩ := dk_rd I.hok e
  refine call_len_dict hd dd (by rw [← rel.length]; rw [sizeLine_eq] at z; omega) ?_
  rw [← rel.length]
  exact h _ _ (I.tok _)
end
def NoSl (i : Expr) : Prop := ∀ ov iv, subscripted i false ov iv = operate [ov, iv] (getItem ov iv)
theorem subD_of {prog : Program} {w : World} {A : Around} {E : Value → Shared → Prop} {s : Shared} {env : Env} {value slice : Expr} {pos : Pos} {T id : String} {Q : Value → Shared → Prop}
    (hl : typeLookup (.type T) "__getitem__" = pure (some (.builtin id))) (hs : NoSl slice)
    (h : wpAny (model prog w) A (eval value env) (fun o s₁ => wpAny (model prog w) A (eval slice env) (fun i s₂ => s₂.TypeIs o T ∧ wpAny (model prog w) A (getItem o i) Q E s₂) E s₁) E s) :
    wpAny (model prog w) A (eval (.Subscript value slice pos) env) Q E s := by
  refine Subscript_ (wpAny_mono h (fun o s₁ h₁ => wpAny_mono h₁ (fun i s₂ h₂ => ?_) fun _ _ x => x) fun _ _ x => x)
  obtain ⟨hT, h₂⟩ := h₂
  unfold subscriptTail
  refine wpAny_bind ?_
  rw [getitemInPython_of_ne hT.not_modules]
  refine wpAny_bind (wpAny_specialOf hT hl ?_)
  have fin : wpAny (model prog w) A (subscripted slice false o i) (fun r s₃ => wpAny (model prog w) A (letTemporaryGo value o r >>= fun _ => pure r) Q E s₃) E s₂ := by
    rw [hs o i]
    exact wpAny_operating (wpAny_mono h₂ (fun r s₃ h₃ => wpAny_bind (wpAny_letTemporaryGo (wpAny_pure h₃))) fun _ _ x => x)
  first
    | exact wpAny_pure (wpAny_bind fin)
    | exact wpAny_bind (wpAny_pure (wpAny_bind fin))
    | exact wpAny_bind fin
theorem dict_typeIs {X : Cx} {pins : List (Addr × Obj)} {σ : St} {H : Hp} {s : Shared} {a : Addr} {y : V} {o : Option V} (I : Inv X pins σ H s) (g : DGet H a y o) : s.TypeIs (.ref a) "dict" := by
  rcases g with ⟨kvs, k, e, _, _⟩ | ⟨kvs, k, b, e, _, _, _⟩
  · obtain ⟨_, _, vs, _, dd⟩ := dk_rd I.hok e
    exact dd.typeIs
  · obtain ⟨_, _, xs, _, dd⟩ := dt_rd I.hok e
    exact dd.typeIs
def tDGet (td ty : TE) : TE := fun σ H Q => td σ H fun x H1 => ty σ H1 fun y H2 => ∃ a v, x = .ref a ∧ DGet H2 a y (some v) ∧ Q v H2
def tDIn (ty td : TE) : TE := fun σ H Q => ty σ H fun y H1 => td σ H1 fun x H2 => ∃ a o, x = .ref a ∧ DGet H2 a y o ∧ Q (.bl o.isSome) H2
def tDNotIn (ty td : TE) : TE := fun σ H Q => ty σ H fun y H1 => td σ H1 fun x H2 => ∃ a o, x = .ref a ∧ DGet H2 a y o ∧ Q (.bl (!o.isSome)) H2
def sDPut (td ty tv : TE) : TS := fun D σ H => tv σ H fun v H1 => td σ H1 fun x H2 => ty σ H2 fun y H3 => ∃ a H4, x = .ref a ∧ DPut H3 a y v H4 ∧ D.nx σ H4
section
variable {X : Cx} {o i e value : Expr} {pos pos' tpos : Pos} {td ty tv : TE}
theorem pe_dget (hu : X.A.units + 1 < cLine) (ho : PE X o td) (hi : PE X i ty) (hs : NoSl i) : PE X (.Subscript o i pos) (tDGet td ty) := by
  intro pins s σ H Q I h
  refine subD_of PySem.F.slot_dict_getitem.lookup hs (thn (ho pins s σ H _ I h) fun u s1 ⟨x, H1, I1, rx, q1⟩ => thn (hi pins s1 σ H1 _ I1 q1) fun iv s2 ⟨y, H2, I2, ry, a, v, ex, g, q2⟩ => ?_)
  subst ex
  obtain rfl : u = Value.ref a := rx
  exact ⟨dict_typeIs I2 g, d_getItem hu I2 g ry fun w' s3 I3 rw' => ⟨v, H2, I3, rw', q2⟩⟩
theorem pc_din (hu : X.A.units + 1 < cLine) (hi : PE X i ty) (ho : PE X o td) : PC X .In i o (tDIn ty td) := by
  intro pins s σ H Q I h
  refine thn (hi pins s σ H _ I h) fun iv s1 ⟨y, H1, I1, ry, q1⟩ => thn (ho pins s1 σ H1 _ I1 q1) fun u s2 ⟨x, H2, I2, rx, a, ov, ex, g, q2⟩ => ?_
  subst ex
  obtain rfl : u = Value.ref a := rx
  exact d_in hu I2 g ry fun s3 I3 => ⟨.bl ov.isSome, H2, I3, rfl, q2⟩
theorem pc_dnotin (hu : X.A.units + 1 < cLine) (hi : PE X i ty) (ho : PE X o td) : PC X .NotIn i o (tDNotIn ty td) := by
  intro pins s σ H Q I h
  refine thn (hi pins s σ H _ I h) fun iv s1 ⟨y, H1, I1, ry, q1⟩ => thn (ho pins s1 σ H1 _ I1 q1) fun u s2 ⟨x, H2, I2, rx, a, ov, ex, g, q2⟩ => ?_
  subst ex
  obtain rfl : u = Value.ref a := rx
  exact d_notIn hu I2 g ry fun s3 I3 => ⟨.bl (!ov.isSome), H2, I3, rfl, q2⟩
theorem ps_dput (hu : X.A.units + 1 < cLine) (ho : PE X o td) (hi : PE X i ty) (hv : PE X value tv) (hs : swapsWith value (some (.Subscript o i pos')) pos.line X.env = pure false) :
    PS X (.Assign [.Subscript o i pos'] value pos) (sDPut td ty tv) := by
  intro pins s σ H D I h
  refine wpAny_Assign_Subscript (thn (hv pins s σ H _ I h) fun r s1 ⟨v, H1, I1, rv, q1⟩ => thn (ho pins s1 σ H1 _ I1 q1) fun u s2 ⟨x, H2, I2, rx, q2⟩ => thn (hi pins s2 σ H2 _ I2 q2) fun iv s3 ⟨y, H3, I3, ry, a, H4, ex, g, q3⟩ => ?_) hs
  subst ex
  obtain rfl : u = Value.ref a := rx
  exact d_setItem hu I3 g ry rv fun s4 I4 => ⟨σ, H4, I4, q3⟩
end
theorem dk_empty {P : Program} {w : World} {H : Hp} (h : Heap) (hb : sysModules < h.objs.size) : ObjOk P w H (h.push { cls := .type "dict", data := .dict #[] }) h.objs.size (.dK []) :=
  ⟨Nat.zero_le _, beq_eq_false_iff_ne.mpr (Ne.symm (Nat.ne_of_lt hb)), [], .nil, Heap.DictOf.new h⟩
def tDNewK : TE := fun _ H Q => ∀ p, H p = none → Q (.ref p) (upd H p (.dK []))
section
variable {X : Cx} {pos : Pos}
theorem pe_dnewK : PE X (.Dict [] [] pos) tDNewK := fun pins s σ H Q I h =>
  wpAny_Dict_empty ⟨.ref s.heap.objs.size, _, I.laid (a := s.heap.objs.size) (o := .dK []) (t' := s.toks) (fun _ _ q => Heap.get?_push_of_some _ q) (Nat.le_refl _) (dk_empty s.heap I.big), rfl, h _ (I.hok.fresh (Nat.le_refl _))⟩
end
def tPairs : List (TE × TE) → St → Hp → (List (V × V) → Hp → Prop) → Prop
  | [], _, H, Q => Q [] H
  | (tk, tv) :: r, σ, H, Q => tk σ H fun x H1 => tv σ H1 fun y H2 => tPairs r σ H2 fun ps H3 => Q ((x, y) :: ps) H3
def mergeK (kvs more : List (Key × V)) : List (Key × V) := more.foldl (fun acc kv => putK acc kv.1 kv.2) kvs
theorem KV.merge : ∀ {more : List (Key × V)} {rs : List (Key × Value)} {kvs : List (Key × V)} {vs : List (Key × Value)}, KV more rs → KV kvs vs → KV (mergeK kvs more) (merged vs rs) := by
  intro more rs kvs vs r
  unfold KV at r
  induction r generalizing kvs vs with
  | nil => intro q; exact q
  | @cons p q ps qs h t ih =>
    intro r0
    have e : KV (putK kvs p.1 p.2) (stored vs q.1 q.2) := by
      have := r0.put p.1 h.2
      rw [← h.1]; exact this
    exact ih e
theorem length_mergeK : ∀ (more kvs : List (Key × V)), (mergeK kvs more).length ≤ kvs.length + more.length
  | [], kvs => by show kvs.length ≤ kvs.length + 0; omega
  | p :: r, kvs => by
    have h1 := length_mergeK r (putK kvs p.1 p.2)
    have h2 := length_putK kvs p.1 p.2
    show (mergeK (putK kvs p.1 p.2) r).length ≤ _
    rw [List.length_cons]; omega
def tDisp (trs : List (TE × TE)) : TE := fun σ H Q => ∀ p, H p = none → tPairs trs σ (upd H p (.dK [])) fun ps H2 => H2 p = some (.dK []) ∧ ∃ kvs : List (Key × V), ps = kvs.map (fun kv => (kV kv.1, kv.2)) ∧ kvs.length ≤ 15 ∧ Q (.ref p) (upd H2 p (.dK (mergeK [] kvs)))
def IsD (H : Hp) (a : Addr) : Prop := (∃ kvs, Rd H a (.dK kvs)) ∨ ∃ kvs, Rd H a (.dT kvs)
section
variable {X : Cx} {pins : List (Addr × Obj)} {σ : St} {H : Hp} {s : Shared} {a : Addr} {y d : V} {u r : Value} {o : Option V} {A : Around} {E : Value → Shared → Prop}
end
def tDGet1 (td ty : TE) : TE := fun σ H Q => td σ H fun x H1 => ∃ a, x = .ref a ∧ IsD H1 a ∧ ty σ H1 fun y H2 => ∃ o, DGet H2 a y o ∧ Q (o.getD .non) H2
section
variable {X : Cx} {o e f : Expr} {apos cpos : Pos} {td ty tx : TE}
end
section
variable {X : Cx} {pins : List (Addr × Obj)} {σ : St} {H : Hp} {s : Shared} {a : Addr} {kvs : List (Key × V)} {A : Around} {E : Value → Shared → Prop}
end
section
variable {X : Cx} {pins : List (Addr × Obj)} {σ : St} {H : Hp} {s : Shared} {a : Addr} {y : V} {u : Value} {A : Around} {E : Value → Shared → Prop}
end
end L2
namespace L2
open PySem PySem.Spec PyProof.Rows
section
variable {X : Cx}
end
section
variable {κ : Type} [DecidableEq κ]
theorem valV_in {kvs : List (κ × V)} {k : κ} {v : V} (h : valV kvs k = some v) : k ∈ kvs.map (·.1) := by
  have q : (kvs.any fun kv => decide (kv.1 = k)) = true := by
    rw [valV_any, h]
    all_goals rfl
  obtain ⟨p, hp, e⟩ := List.any_eq_true.mp q
  exact List.mem_map.mpr ⟨p, hp, of_decide_eq_true e⟩
theorem nd_snoc : ∀ {l : List κ} {k : κ}, l.Nodup → ¬ k ∈ l → (l ++ [k]).Nodup
  | [], k, _, _ => by simp
  | a :: r, k, h, hk => by
    obtain ⟨h1, h2⟩ := List.nodup_cons.mp h
    show (a :: (r ++ [k])).Nodup
    refine List.nodup_cons.mpr ⟨fun m => ?_, nd_snoc h2 fun m => hk (List.mem_cons.mpr (Or.inr m))⟩
    rcases List.mem_append.mp m with q | q
    · exact h1 q
    · exact hk (List.mem_cons.mpr (Or.inl (List.mem_singleton.mp q).symm))
end
end L2
set_option Elab.async false
set_option linter.all false
set_option maxRecDepth 100000
namespace L2
open PySem PySem.Spec PyProof.Rows
def cxComp (X : Cx) (scope : Scope) (cl : List (Str × Addr)) (N : List Str) (C : Addr) (ex : List Addr) (s₀ : Shared) (H₀ : Hp) : Cx where
  prog := X.prog
  w := X.w
  K := X.K
  mg := X.mg
  base := X.base
  A := X.A
  N := N
  s₀ := s₀
  H₀ := H₀
  env := compEnvC scope cl C X.env
  outer := X.stack
  stack := X.stack
  ex := ex
  fn := fun _ => false
  calm := X.calm
  pn := X.pn
  xe := fun _ _ => False
theorem z364 {X : Cx} {scope : Scope} {cl : List (Str × Addr)} {N : List Str} {C : Addr} {ex : List Addr} {s₀ : Shared} {H₀ : Hp} (c : Calm X) : Calm (cxComp X scope cl N C ex s₀ H₀) := c
structure z8 (X : Cx) (scope : Scope) (tn cn : List Str) (caps : List Nat) : Prop where
  kind : scope.kind = .function
  nocell : ∀ y ∈ scope.names, y.2 ≠ .cell
  names : ∀ y ∈ scope.names, y.2 = .local → scope.names.lookup y.1 = some .local
  caught : ∀ y ∈ scope.names, y.2 = .free → X.env.kindOf y.1 = some .cell ∨ X.env.kindOf y.1 = some .free
  free : ∀ y ∈ cn, scope.names.lookup y = some .free
  slots : caps.map (fun j => X.N[j]?) = cn.map some
theorem z8.of {X : Cx} {scope osc : Scope} {tn cn : List Str} {caps : List Nat} (ho : X.env.scope = osc) (kind : scope.kind = .function) (nocell : ∀ y ∈ scope.names, y.2 ≠ .cell)
    (names : ∀ y ∈ scope.names, y.2 = .local → scope.names.lookup y.1 = some .local) (caught : ∀ y ∈ scope.names, y.2 = .free → osc.names.lookup y.1 = some .cell ∨ osc.names.lookup y.1 = some .free) (free : ∀ y ∈ cn, scope.names.lookup y = some .free)
    (slots : caps.map (fun j => X.N[j]?) = cn.map some) : z8 X scope tn cn caps :=
  ⟨kind, nocell, names, fun y hy hf => by show X.env.scope.names.lookup y.1 = _ ∨ X.env.scope.names.lookup y.1 = _; rw [ho]; exact caught y hy hf, free, slots⟩
def capσ (σ : St) (caps : List Nat) : St := caps.map fun j => (σ[j]?).getD none
theorem z105 (env : Env) : ∀ (names : List (Str × NameKind)) (cs : List (Str × Addr)), (∀ x ∈ names, x.2 = .free → ∃ c, env.cells.lookup x.1 = some c) → (∀ y c, cs.lookup y = some c → env.cells.lookup y = some c) →
    ∃ cl : List (Str × Addr), (forIn names cs fun (x : Str × NameKind) (r : List (Str × Addr)) => (if (x.2 == NameKind.free) = true then do let a ← cellOf env x.1; pure (ForInStep.yield ((x.1, a) :: r)) else pure (ForInStep.yield r) : Sem (ForInStep (List (Str × Addr))))) = pure cl ∧
      (∀ y c, cl.lookup y = some c → env.cells.lookup y = some c) ∧ (∀ x ∈ names, x.2 = .free → ∃ c, cl.lookup x.1 = some c) ∧ ∀ y c, cs.lookup y = some c → ∃ c', cl.lookup y = some c'
  | [], cs, _, h2 => ⟨cs, by simp, h2, fun x h => absurd h (by simp), fun y c h => ⟨c, h⟩⟩
  | (n, k) :: r, cs, h1, h2 => by
    by_cases hk : (k == NameKind.free) = true
    · obtain ⟨c, hc⟩ := h1 (n, k) List.mem_cons_self (by simpa using hk)
      have h2' : ∀ y d, ((n, c) :: cs).lookup y = some d → env.cells.lookup y = some d := fun y d h => by
        rw [List.lookup_cons] at h
        split at h
        · rename_i e
          have e' : y = n := by simpa using e
          cases h
          rw [e']; exact hc
        · exact h2 y d h
      obtain ⟨cl, e, p1, p2, p3⟩ := z105 env r ((n, c) :: cs) (fun x hx => h1 x (List.mem_cons_of_mem _ hx)) h2'
      refine ⟨cl, ?_, p1, fun x hx hf => ?_, fun y d h => ?_⟩
      · rw [List.forIn_cons]
        simp only [hk, if_true, cellOf, hc, pure_bind]
        exact e
      · rcases List.mem_cons.mp hx with e1 | e1
        · subst e1
          exact p3 n c (by rw [List.lookup_cons]; simp)
        · exact p2 x e1 hf
      · by_cases hy : (y == n) = true
        · exact p3 y c (by rw [List.lookup_cons, hy])
        · exact p3 y d (by rw [List.lookup_cons]; simp only [Bool.not_eq_true] at hy; rw [hy]; exact h)
    · obtain ⟨cl, e, p1, p2, p3⟩ := z105 env r cs (fun x hx => h1 x (List.mem_cons_of_mem _ hx)) h2
      refine ⟨cl, ?_, p1, fun x hx hf => ?_, p3⟩
      · rw [List.forIn_cons]
        simp only [hk, if_false, pure_bind, Bool.false_eq_true]
        exact e
      · rcases List.mem_cons.mp hx with e1 | e1
        · subst e1
          exact absurd (by simpa using hf) hk
        · exact p2 x e1 hf
theorem z171 {scope : Scope} {env : Env} (h : ∀ x ∈ scope.names, x.2 = .free → ∃ c, env.cells.lookup x.1 = some c) :
    ∃ cl : List (Str × Addr), closureFor scope env = pure cl ∧ (∀ y c, cl.lookup y = some c → env.cells.lookup y = some c) ∧ ∀ x ∈ scope.names, x.2 = .free → ∃ c, cl.lookup x.1 = some c := by
  obtain ⟨cl, e, p1, p2, _⟩ := z105 env scope.names [] h (fun y c h => by simp at h)
  refine ⟨cl, ?_, p1, p2⟩
  unfold closureFor
  simp only [bind_pure]
  first
    | exact e
    | (rw [← e]; rfl)
    | (rw [← e]; congr 1; funext x r; obtain ⟨n, k⟩ := x; by_cases hk : (k == NameKind.free) = true <;> simp [hk])
theorem z80 {env : Env} : ∀ {names : List (Str × NameKind)} {x : Str}, names.lookup x = some .free →
    (names.map fun (n, k) => if (k == NameKind.free && env.scope.kind == .function && env.kindOf n == some .cell) then (n, NameKind.cell) else (n, k)).lookup x = some .cell ∨
    (names.map fun (n, k) => if (k == NameKind.free && env.scope.kind == .function && env.kindOf n == some .cell) then (n, NameKind.cell) else (n, k)).lookup x = some .free
  | [], _, h => by simp at h
  | (n, k) :: r, x, h => by
    have ih := @z80 env r x
    show List.lookup x ((if (k == NameKind.free && env.scope.kind == .function && env.kindOf n == some .cell) = true then (n, NameKind.cell) else (n, k)) :: _) = _ ∨ List.lookup x ((if (k == NameKind.free && env.scope.kind == .function && env.kindOf n == some .cell) = true then (n, NameKind.cell) else (n, k)) :: _) = _
    cases hx : x == n with
    | true =>
      simp only [List.lookup_cons, hx] at h
      cases h
      by_cases hc : (NameKind.free == NameKind.free && env.scope.kind == .function && env.kindOf n == some .cell) = true
      · rw [if_pos hc]; simp [List.lookup_cons, hx]
      · rw [if_neg hc]; simp [List.lookup_cons, hx]
    | false =>
      simp only [List.lookup_cons, hx] at h
      by_cases hc : (k == NameKind.free && env.scope.kind == .function && env.kindOf n == some .cell) = true
      · rw [if_pos hc]; simp only [List.lookup_cons, hx]; exact ih h
      · rw [if_neg hc]; simp only [List.lookup_cons, hx]; exact ih h
theorem z332 {env : Env} : ∀ {names : List (Str × NameKind)} {x : Str}, (∀ y ∈ names, y.2 ≠ .cell) →
    ((names.map fun (n, k) => if (k == NameKind.free && env.scope.kind == .function && env.kindOf n == some .cell) then (n, NameKind.cell) else (n, k)).lookup x = some .cell ∨
    (names.map fun (n, k) => if (k == NameKind.free && env.scope.kind == .function && env.kindOf n == some .cell) then (n, NameKind.cell) else (n, k)).lookup x = some .free) → names.lookup x = some .free
  | [], _, _, h => by simp at h
  | (n, k) :: r, x, hn, h => by
    have ih := @z332 env r x (fun y hy => hn y (List.mem_cons_of_mem _ hy))
    have h : List.lookup x ((if (k == NameKind.free && env.scope.kind == .function && env.kindOf n == some .cell) = true then (n, NameKind.cell) else (n, k)) :: _) = _ ∨ List.lookup x ((if (k == NameKind.free && env.scope.kind == .function && env.kindOf n == some .cell) = true then (n, NameKind.cell) else (n, k)) :: _) = _ := h
    cases hx : x == n with
    | true =>
      simp only [List.lookup_cons, hx]
      by_cases hc : (k == NameKind.free && env.scope.kind == .function && env.kindOf n == some .cell) = true
      · have : (k == NameKind.free) = true := by
          simp only [Bool.and_eq_true] at hc; exact hc.1.1
        have : k = .free := by simpa using this
        rw [this]
      · rw [if_neg hc] at h
        simp only [List.lookup_cons, hx] at h
        rcases h with h | h
        · exact absurd (Option.some.inj h) (hn (n, k) List.mem_cons_self)
        · rw [Option.some.inj h]
    | false =>
      simp only [List.lookup_cons, hx]
      by_cases hc : (k == NameKind.free && env.scope.kind == .function && env.kindOf n == some .cell) = true
      · rw [if_pos hc] at h; simp only [List.lookup_cons, hx] at h; exact ih h
      · rw [if_neg hc] at h; simp only [List.lookup_cons, hx] at h; exact ih h
section
variable {X : Cx} {scope : Scope} {tn cn : List Str} {caps : List Nat} {pins : List (Addr × Obj)} {σ : St} {H : Hp} {s : Shared} {fp : List Addr} {cl : List (Str × Addr)} {ob : Obj}
theorem z725 (S : z8 X scope tn cn caps) (I : Inv X pins σ H s) (hcl : ∀ y c, cl.lookup y = some c → X.env.cells.lookup y = some c) (hcl2 : ∀ x ∈ scope.names, x.2 = .free → ∃ c, cl.lookup x.1 = some c)
    (hf : ∀ b ∈ fp, FpOk X pins H b) (hfp : ∀ b ∈ fp, b < s.heap.objs.size) (N : List Str) :
    (cxComp X scope cl N (s.heap.push ob).objs.size (s.heap.objs.size :: fp) { s with heap := s.heap.push ob } H).Ok := by
  have hC : (s.heap.push ob).objs.size = s.heap.objs.size + 1 := by rw [Heap.size_push]
  refine ⟨I.ok.mod, S.kind, I.ok.glob, I.ok.blt, Nat.le_refl _, fun x y c h1 h2 => I.ok.inj x y c (hcl x c h1) (hcl y c h2), fun x hx => ?_, fun x c h => absurd h (by simp [cxComp]), I.ok.hd, I.ok.frames, .inl rfl, fun b hb => ?_,
    fun b o e => ⟨Heap.get?_push_of_some _ (I.bs b o e).1, (I.bs b o e).2⟩, ?_, fun b o e hb => ?_, fun b hb z => ?_, ?_, I.stkFree⟩
  · exact hcl2 (x, .free) (PySem.mem_of_lookup (z332 S.nocell hx)) rfl
  · rcases List.mem_cons.mp (show b ∈ s.heap.objs.size :: fp from hb) with e | hb
    · subst e
      refine ⟨fun z => ?_, fun x c e z => ?_⟩
      · have z' : s.heap.objs.size = (s.heap.push ob).objs.size := z
        omega
      · obtain ⟨v, q⟩ := I.cell x c (hcl x c e)
        exact absurd q.lt (by rw [z]; exact Nat.lt_irrefl _)
    · refine ⟨fun z => ?_, fun x c e => (hf b hb).2.2.2.2.1 x c (hcl x c e)⟩
      have z' : b = (s.heap.push ob).objs.size := z
      have h1 := hfp b hb
      rw [z', hC] at h1
      exact Nat.lt_irrefl _ (Nat.lt_of_succ_lt h1)
  · show X.base.objs.size ≤ (s.heap.push ob).objs.size
    have h1 := I.ok.bsz
    have h2 := I.sz
    omega
  · rcases List.mem_cons.mp (show b ∈ s.heap.objs.size :: fp from hb) with e1 | hb
    · subst e1
      exact absurd (Heap.lt_size (I.bk _ o e)) (Nat.lt_irrefl _)
    · rcases (hf b hb).2.2.2.1 with z | z
      · exact I.ok.noex b o e z
      · have h1 := I.ok.bsz
        have h2 := Heap.lt_size e
        exact Nat.lt_irrefl _ (Nat.lt_of_lt_of_le h2 (Nat.le_trans h1 z))
  · have z' := I.stkSub b z
    rcases List.mem_cons.mp (show b ∈ s.heap.objs.size :: fp from hb) with e1 | hb
    · subst e1
      rcases List.mem_cons.mp z' with z1 | z1
      · exact absurd I.lt (by rw [← z1]; exact Nat.lt_irrefl _)
      · exact I.nofs (Nat.le_refl _) z1
    · rcases List.mem_cons.mp z' with z1 | z1
      · exact (hf b hb).2.1 z1
      · exact (hf b hb).2.2.1 z1
  · exact I.stack.of_keeps fun b o e _ => ⟨o, Heap.get?_push_of_some _ e, rfl⟩
theorem z683 (S : z8 X scope tn cn caps) (I : Inv X pins σ H s) (hcl : ∀ y c, cl.lookup y = some c → X.env.cells.lookup y = some c) (hcl2 : ∀ x ∈ scope.names, x.2 = .free → ∃ c, cl.lookup x.1 = some c)
    (hf : ∀ b ∈ fp, FpOk X pins H b) (hfp : ∀ b ∈ fp, b < s.heap.objs.size) (hob : ∀ v, ob.data ≠ .cell v) (hfr : ob.isFreed = false) {h1 : Heap} {m0 : Str → Option Value} {tk : Nat} (hn : h1.Ns (s.heap.push ob).objs.size m0)
    (hk : ∀ b o, (s.heap.push ob).get? b = some o → h1.get? b = some o) :
    Inv (cxComp X scope cl (tn ++ cn) (s.heap.push ob).objs.size (s.heap.objs.size :: fp) { s with heap := s.heap.push ob } H) (X.pn ++ pins ++ [(s.heap.objs.size, ob)]) (List.replicate tn.length none ++ capσ σ caps) H { s with heap := h1, toks := tk } := by
  have hC : (s.heap.push ob).objs.size = s.heap.objs.size + 1 := by rw [Heap.size_push]
  have hk' : ∀ b o, s.heap.get? b = some o → h1.get? b = some o := fun b o e => hk b o (Heap.get?_push_of_some _ e)
  have hlen : caps.length = cn.length := by have := congrArg List.length S.slots; simpa using this
  refine ⟨z725 S I hcl hcl2 hf hfp _, rfl, I.bare, Un.kept hk, ⟨m0, hn, fun i x v e1 e2 e3 => ?_⟩, fun x c e => ?_, I.hok.fresh (by rw [hC]; exact Nat.le_succ _), fun x c e => I.freeC x c (hcl x c e), fun p hp => ?_, I.hok.kept hk', ?_⟩
  · have e1 : (tn ++ cn)[i]? = some x := e1
    by_cases hi : i < tn.length
    · rw [List.getElem?_append_left (by simpa using hi), List.getElem?_replicate, if_pos hi] at e2
      cases e2
    · have hi' : tn.length ≤ i := Nat.le_of_not_lt hi
      rw [List.getElem?_append_right (by simpa using hi'), List.length_replicate] at e2
      rw [List.getElem?_append_right hi'] at e1
      have hx : x ∈ cn := List.mem_of_getElem? e1
      have hsl : (caps.map fun j => X.N[j]?)[i - tn.length]? = (cn.map some)[i - tn.length]? := by rw [S.slots]
      rw [List.getElem?_map, List.getElem?_map, e1] at hsl
      unfold capσ at e2
      rw [List.getElem?_map] at e2
      cases hj : caps[i - tn.length]? with
      | none => rw [hj] at e2; cases e2
      | some j =>
        rw [hj] at hsl e2
        have hN : X.N[j]? = some x := Option.some.inj hsl
        have e2 : (σ[j]?).getD none = some v := Option.some.inj e2
        have hσ : σ[j]? = some (some v) := by
          cases q : σ[j]? with
          | none => rw [q] at e2; cases e2
          | some y => rw [q] at e2; rw [← e2]; rfl
        have hkx := S.caught (x, .free) (PySem.mem_of_lookup (S.free x hx)) rfl
        obtain ⟨m, _, hl⟩ := I.loc
        obtain ⟨u, r, l⟩ := hl j x v hN hσ (by rcases hkx with z | z; exact .inr (.inl z); exact .inr (.inr z))
        refine ⟨u, r, ?_⟩
        rcases l with ⟨k, _⟩ | ⟨k, c, e, z⟩
        · rcases hkx with z | z
          · rw [show X.env.kindOf x = _ from k] at z; cases z
          · rw [show X.env.kindOf x = _ from k] at z; cases z
        · obtain ⟨c', ec⟩ := hcl2 (x, .free) (PySem.mem_of_lookup (S.free x hx)) rfl
          have e' := hcl x c' ec
          rw [e] at e'
          cases e'
          obtain ⟨oc, ho, hd⟩ := z
          exact .inr ⟨z80 (S.free x hx), c, ec, oc, hk' c oc ho, hd⟩
  · obtain ⟨v, oc, ho, hd⟩ := I.cell x c (hcl x c e)
    exact ⟨v, oc, hk' c oc ho, hd⟩
  · have hp : p ∈ X.pn ++ pins ++ [(s.heap.objs.size, ob)] := (List.mem_append.mp hp).elim (fun z => List.mem_append_left _ (List.mem_append_left _ z)) id
    rcases List.mem_append.mp hp with hp | hp
    · obtain ⟨e, n, ne, nf, d⟩ := I.pin p hp
      refine ⟨hk' _ _ e, n, fun z => ?_, fun z => ?_, d⟩
      · have z' : p.1 = (s.heap.push ob).objs.size := z
        have h1 := Heap.lt_size e
        rw [z', hC] at h1
        exact Nat.lt_irrefl _ (Nat.lt_of_succ_lt h1)
      · rcases List.mem_cons.mp (I.stkSub p.1 z) with z1 | z1
        · exact ne z1
        · exact nf z1
    · have e : p = (s.heap.objs.size, ob) := by simpa using hp
      subst e
      refine ⟨hk _ _ (Heap.get?_push_size _ hfr), I.hok.fresh (Nat.le_refl _), fun z => ?_, fun z => ?_, hob⟩
      · have z' : s.heap.objs.size = (s.heap.push ob).objs.size := z
        omega
      · rcases List.mem_cons.mp (I.stkSub s.heap.objs.size z) with z1 | z1
        · exact absurd I.lt (by rw [← z1]; exact Nat.lt_irrefl _)
        · exact I.nofs (Nat.le_refl _) z1
  · show (List.replicate tn.length none ++ capσ σ caps).length = (tn ++ cn).length
    unfold capσ
    simp [hlen]
theorem z694 {N : List Str} {σ0 : St} {H' : Hp} {s' : Shared} {C : Addr} {s3 : Shared} {its : List Value} {n : Nat} {ys : List V} (I : Inv X pins σ H s) (hf : ∀ b ∈ fp, FpOk X pins H b) (hfp : ∀ b ∈ fp, b < s.heap.objs.size) (hC : s.heap.objs.size < C)
    (hs3 : ∀ b o, s.heap.get? b = some o → s3.heap.get? b = some o) (hos : s3.os = s.os)
    (I' : Inv (cxComp X scope cl N C (s.heap.objs.size :: fp) s3 H) (X.pn ++ pins ++ [(s.heap.objs.size, { cls := .type "list", data := .seq its.toArray n })]) σ0 H' s') (rv : Vals ys its) (hz : ys.length ≤ sizeLine) :
    Inv X pins σ (upd H' s.heap.objs.size (.lst ys)) s' ∧ H' s.heap.objs.size = none ∧ FpOk X pins (upd H' s.heap.objs.size (.lst ys)) C ∧ ∃ m, s'.heap.Ns C m := by
  have pD := I'.pin (s.heap.objs.size, { cls := .type "list", data := .seq its.toArray n }) (by show _ ∈ X.pn ++ (X.pn ++ pins ++ [_]); simp)
  have hD : H' s.heap.objs.size = none := pD.2.1
  have base : Un (frs X.stack) (s.heap.objs.size :: fp) H H' s3.heap s'.heap := I'.base
  have old : ∀ b o, s.heap.get? b = some o → b ≠ s.heap.objs.size := fun b o e => Nat.ne_of_lt (Heap.lt_size e)
  have nex : ∀ b o, s.heap.get? b = some o → b ∉ fp → b ∉ s.heap.objs.size :: fp := fun b o e h z => by
    rcases List.mem_cons.mp z with z | z
    · exact old b o e z
    · exact h z
  have oldT : ∀ b u, H b = some u → b ≠ s.heap.objs.size := fun b u e => Nat.ne_of_lt (I.hok.lt e)
  refine ⟨I.call' (ch := fp) (I'.os.trans hos) ⟨fun b o e n hb hx => base.keep b o (hs3 b o e) n hb (nex b o e hx), fun b o e n hb hx => base.slot b o (hs3 b o e) n hb (nex b o e hx), fun b o e n hx => ?_, fun b o e hx => base.there b o (hs3 b o e) (nex b o e hx),
    fun b xs e => ?_, fun b o u e => ?_, fun b ps e => ?_⟩ (fun a o e => ?_) I'.bare fun b hb => ?_, hD, I.fpOk (Nat.le_of_lt hC) ?_, ?_⟩
  · rw [upd_ne (old b o e)]; exact base.free b o (hs3 b o e) n (nex b o e hx)
  · rw [upd_ne (oldT b _ e)]; exact base.tups b xs e
  · rw [upd_ne (oldT b _ e)]; exact base.frzs b o u e
  · rw [upd_ne (oldT b _ e)]; exact base.tbls b ps e
  · by_cases ha : a = s.heap.objs.size
    · subst ha
      rw [upd_same] at e
      cases e
      exact ⟨hz, its, n, rv, pD.1⟩
    · rw [upd_ne ha] at e
      exact (I'.hok a o e).stay (fun _ _ _ q => q) (fun c q => by rw [upd_ne (ne_of_none q hD)]; exact q) fun c xs q => by rw [upd_ne (ne_of_none q hD)]; exact q
  · have q := hf b hb
    exact ⟨q.2.2.2.1, q.2.1, q.2.2.2.2.1, q.2.2.2.2.2⟩
  · rw [upd_ne (Nat.ne_of_gt hC)]; exact I'.free
  · obtain ⟨m, hn, _⟩ := I'.loc
    exact ⟨m, hn⟩
end
def PTs (X : Cx) (ifs : List Expr) (t : TT) : Prop :=
  ∀ (pins : List (Addr × Obj)) (s : Shared) (σ : St) (H : Hp) (Q : Bool → Hp → Prop), Inv X pins σ H s → t σ H Q →
    wpAny (model X.prog X.w) X.A (forIn ifs true fun c r => if r = true then do let ok ← isTrue c X.env (eval c X.env); pure (ForInStep.yield ok) else pure (ForInStep.yield r)) (TP X pins σ Q) X.xe s
def tYes : TT := fun _ H Q => Q true H
theorem z281 {X : Cx} : PTs X [] tYes := fun _ _ _ H _ I h => wpAny_tests_nil ⟨H, I, h⟩
theorem z95 {X : Cx} {c : Expr} {t : TT} (h : PT X c t) : PTs X [c] t := fun pins s σ H Q I hw => wpAny_tests_one (h pins s σ H Q I hw)
theorem z435 {prog : Program} {w : World} {A : Around} {R : Result → Shared → Prop} {s : Shared} {elt target iter : Expr} {ifs : List Expr} {scope : Scope} {pos : Pos} {it acc : Value} {env : Env} (I : Nat → Shared → Prop)
    (turn : ∀ n s, I n s → wpAny (model prog w) A (pyNext it) (fun r s₁ => match r with
      | none => R (.ok .next) s₁
      | some v => wpAny (model prog w) A (letOwnedTupleGo target it v) (fun _ s₁' => wpAny (model prog w) A (assign target env v) (fun _ s₂ =>
          wpAny (model prog w) A (forIn ifs true fun c r => if r = true then do let ok ← isTrue c env (eval c env); pure (ForInStep.yield ok) else pure (ForInStep.yield r)) (fun ok s₃ =>
            if ok = true then wpAny (model prog w) A (eval elt env) (fun x s₄ =>
              wpAny (model prog w) A (call (.builtin "list.append") [acc, x]) (fun _ s₅ => ∃ m, m < n ∧ I m s₅) (fun _ _ => False) s₄) (fun _ _ => False) s₃
            else ∃ m, m < n ∧ I m s₃) (fun _ _ => False) s₂) (fun _ _ => False) s₁') (fun _ _ => False) s₁) (fun _ _ => False) s)
    (n : Nat) (h : I n s) :
    codeAny (model prog w) A (.compLoop (.ListComp elt [⟨target, iter, ifs, 0⟩] scope pos) 0 it acc env) R s := by
  refine codeAny_loop rfl I (fun n s hI => ?_) n h
  show wpAny _ A ((compTurn (.ListComp elt [⟨target, iter, ifs, 0⟩] scope pos) 0 it acc env).onRaise (fun x => do noteFrame x env; theTreesLotGoes x)) _ _ s
  refine wpAny_noted ?_
  rw [compTurn_list]
  refine wpAny_bind (wpAny_standAt (wpAny_bind (wpAny_mono (turn n s hI) (fun r s₁ h₁ => ?_) fun _ _ h' => h'.elim)))
  cases r with
  | none => exact wpAny_pure h₁
  | some v =>
    refine wpAny_bind (wpAny_mono h₁ (fun _ s₁' h₁' => ?_) fun _ _ h' => h'.elim)
    refine wpAny_bind (wpAny_mono h₁' (fun _ s₂ h₂ => wpAny_bind (wpAny_mono h₂ (fun ok s₃ h₃ => ?_) fun _ _ h' => h'.elim)) fun _ _ h' => h'.elim)
    cases ok with
    | false => exact wpAny_pure ⟨rfl, h₃⟩
    | true =>
      exact wpAny_bind (wpAny_bind (wpAny_mono h₃ (fun x s₄ h₄ => wpAny_bind (wpAny_mono h₄ (fun _ s₅ h₅ => wpAny_pure (wpAny_pure ⟨rfl, h₅⟩)) fun _ _ h' => h'.elim)) fun _ _ h' => h'.elim))
def CompW (J : It) (g : TG) (tt : TT) (te : TE) (σ0 : St) (W : Nat → Nat → List V → Hp → Prop) (F : List V → Hp → Prop) : Prop :=
  ∀ i m ys H, W i m ys H → (J.stop i H ∧ ys.length ≤ sizeLine ∧ F ys H) ∨ (J.go i H ∧ ∃ N : List V → Hp → Prop, (∀ ys' H', N ys' H' → ∃ m', m' < m ∧ W (i + 1) m' ys' H') ∧
    ∀ x H', J.yld i H x H' → g x σ0 H' fun σ2 H2 => (σ2.length = σ0.length ∧ ∀ (j : Nat) (v : V), σ0[j]? = some (some v) → σ2[j]? = some (some v)) ∧
      tt σ2 H2 fun b H3 => if b = true then te σ2 H3 fun y H4 => ys.length ≤ sizeLine ∧ N (ys ++ [y]) H4 else N ys H3)
section
variable {X : Cx} {scope : Scope} {tn cn : List Str} {caps : List Nat}
theorem z378 {tg iter elt : Expr} {ifs : List Expr} {pos : Pos} {g : TG} {tt : TT} {te : TE} {pins : List (Addr × Obj)} {σ : St} {H : Hp} {s : Shared} {it : Addr} {fp : List Addr} {tnn : Nat → Heap → Prop} {J : It} {cl : List (Str × Addr)}
    {W : Nat → Nat → List V → Hp → Prop} {F : List V → Hp → Prop} {m0 : Nat} {E : Value → Shared → Prop} {RR : Value → Addr → Result → Shared → Prop}
    (S : z8 X scope tn cn caps) (hc : Calm X) (hcl : ∀ y c, cl.lookup y = some c → X.env.cells.lookup y = some c) (hcl2 : ∀ x ∈ scope.names, x.2 = .free → ∃ c, cl.lookup x.1 = some c)
    (hg : ∀ C ex s₀ H₀, PG (cxComp X scope cl (tn ++ cn) C ex s₀ H₀) tg g) (ht : ∀ C ex s₀ H₀, PTs (cxComp X scope cl (tn ++ cn) C ex s₀ H₀) ifs tt) (he : ∀ C ex s₀ H₀, PE (cxComp X scope cl (tn ++ cn) C ex s₀ H₀) elt te)
    (I : Inv X pins σ H s) (T : Turn X.prog X.w X.K tg J fp it tnn) (st : tnn 0 s.heap) (hf : ∀ b ∈ fp, FpOk X pins H b) (hW : CompW J g tt te (List.replicate tn.length none ++ capσ σ caps) W F) (w0 : W 0 m0 [] H)
    (hRR : ∀ D C s' H' ys m, H' D = none → F ys H' → Inv X pins σ (upd H' D (.lst ys)) s' → FpOk X pins (upd H' D (.lst ys)) C → s'.heap.Ns C m → RR (.ref D) C (.ok .next) s') :
    wpAny (model X.prog X.w) X.A (newList []) (fun acc s₃ => wpAny (model X.prog X.w) X.A (newFunctionEnv scope X.env.globals cl [] X.env.qual none .none (some X.env)) (fun cenv s₄ =>
      codeAny (model X.prog X.w) X.A (.compStart (.ListComp elt [⟨tg, iter, ifs, 0⟩] scope pos) 0 (.ref it) acc { cenv with scope := relabel scope X.env }) (RR acc cenv.locals) s₄) E s₃) E s := by
  have hfp : ∀ b ∈ fp, b < s.heap.objs.size := fun b hb => let ⟨o, e, _⟩ := T.obj 0 s.heap st b hb; Heap.lt_size e
  refine wpAny_newObj_type (wpAny_newFunctionEnv S.nocell (by intro y hy; simp at hy) (fun h₁ hns₁ hsb₁ => ?_) S.kind)
  dsimp only at hns₁ hsb₁ ⊢
  have hk : ∀ b o, (s.heap.push { cls := .type "list", dict := none, data := .seq ([] : List Value).toArray }).get? b = some o → h₁.get? b = some o := fun b o e =>
    hsb₁.extBut b o (Nat.ne_of_lt (Heap.lt_size e)) (Heap.get?_push_of_some _ e)
  have I1 := z683 (tk := s.toks + ([] : List (Str × Value)).length) S I hcl hcl2 hf hfp (ob := { cls := .type "list", dict := none, data := .seq ([] : List Value).toArray }) (fun v z => by cases z) rfl hns₁ hk
  have hC : (s.heap.push { cls := .type "list", dict := none, data := .seq ([] : List Value).toArray }).objs.size = s.heap.objs.size + 1 := by rw [Heap.size_push]
  generalize hCe : (s.heap.push { cls := .type "list", dict := none, data := .seq ([] : List Value).toArray }).objs.size = C at *
  have st1 : tnn 0 h₁ := T.keep 0 _ _ st fun b hb o e => hk b o (Heap.get?_push_of_some _ e)
  have hE : ∀ b o, s.heap.get? b = some o → ({ s with heap := s.heap.push { cls := .type "list", dict := none, data := .seq ([] : List Value).toArray } } : Shared).heap.get? b = some o := fun b o e => Heap.get?_push_of_some _ e
  generalize hs3 : ({ s with heap := s.heap.push { cls := .type "list", dict := none, data := .seq ([] : List Value).toArray } } : Shared) = s3 at *
  have hos : s3.os = s.os := by rw [← hs3]
  have hfp0 : ∀ b ∈ fp, H b = none := fun b hb => (hf b hb).1
  have stat : ∀ {its : List Value} {n : Nat} {H' : Hp}, (∀ b ∈ fp, H' b = none) → ∀ b ∈ fp, FpOk (cxComp X scope cl (tn ++ cn) C (s.heap.objs.size :: fp) s3 H) (X.pn ++ pins ++ [(s.heap.objs.size, { cls := .type "list", data := .seq its.toArray n })]) H' b := fun {its n H'} hn b hb => by
    have q := hf b hb
    have hlt := hfp b hb
    refine ⟨hn b hb, fun z => ?_, fun z => ?_, .inl (List.mem_cons_of_mem _ hb), fun x c e => q.2.2.2.2.1 x c (hcl x c e), fun p hp z => ?_⟩
    · have z' : b = C := z
      rw [z', hC] at hlt
      exact Nat.lt_irrefl _ (Nat.lt_of_succ_lt hlt)
    · rcases List.mem_cons.mp (I.stkSub b z) with z1 | z1
      · exact q.2.1 z1
      · exact q.2.2.1 z1
    · have hp : p ∈ X.pn ++ pins ++ [(s.heap.objs.size, _)] := (List.mem_append.mp hp).elim (fun z => List.mem_append_left _ (List.mem_append_left _ z)) id
      rcases List.mem_append.mp hp with hp | hp
      · exact q.2.2.2.2.2 p hp z
      · have e := List.mem_singleton.mp hp
        rw [e] at z
        have z' : s.heap.objs.size = b := z
        rw [← z'] at hlt
        exact Nat.lt_irrefl _ hlt
  have loop : ∀ s₄ : Shared, s₄ = { s with heap := h₁, toks := s.toks + ([] : List (Str × Value)).length } →
      codeAny (model X.prog X.w) X.A (.compLoop (.ListComp elt [⟨tg, iter, ifs, 0⟩] scope pos) 0 (.ref it) (.ref s.heap.objs.size) (compEnvC scope cl C X.env)) (RR (.ref s.heap.objs.size) C) s₄ := by
    rintro s₄ rfl
    refine z435 (fun n s' => ∃ i ys its k H', Inv (cxComp X scope cl (tn ++ cn) C (s.heap.objs.size :: fp) s3 H) (X.pn ++ pins ++ [(s.heap.objs.size, { cls := .type "list", data := .seq (List.toArray its) k })]) (List.replicate tn.length none ++ capσ σ caps) H' s' ∧
      tnn i s'.heap ∧ (∀ b ∈ fp, H' b = none) ∧ Vals ys its ∧ W i n ys H') ?_ m0 ⟨0, [], [], 0, H, I1, st1, hfp0, .nil, w0⟩
    rintro n s5 ⟨i, ys, its, k, H5, I5, st5, fr5, rv5, w5⟩
    rcases hW i n ys H5 w5 with ⟨stop, hz, f5⟩ | ⟨go, Nw, hNw, step⟩
    · refine wpAny_mono (T.done (cxComp X scope cl (tn ++ cn) C (s.heap.objs.size :: fp) s3 H) rfl rfl rfl (z364 hc) i _ s5 _ H5 (fun _ _ => False) I5 (stat fr5) st5 stop) (fun r s6 h6 => ?_) fun _ _ z => z
      obtain ⟨hr, I6⟩ := h6
      subst hr
      obtain ⟨J1, J2, J3, m, J4⟩ := z694 I hf hfp (by omega) hE hos I6 rv5 hz
      exact hRR _ _ _ _ _ m J2 f5 J1 J3 J4
    · refine wpAny_mono (T.item (cxComp X scope cl (tn ++ cn) C (s.heap.objs.size :: fp) s3 H) rfl rfl rfl (z364 hc) i _ s5 _ H5 (fun _ _ => False) I5 (stat fr5) st5 go) (fun r s6 h6 => ?_) fun _ _ z => z
      obtain ⟨u, hr, h6⟩ := h6
      subst hr
      refine wpAny_mono h6 (fun _ s7 h7 => ?_) fun _ _ z => z
      obtain ⟨x, H7, I7, r7, y7, st7, fr7⟩ := h7
      have I7' := I7.pinned (stat fr7) (T.obj _ _ st7)
      refine wpAny_mono (hg C (s.heap.objs.size :: fp) s3 H _ s7 _ H7 x u _ I7' r7 (step x H7 y7)) (fun _ s8 h8 => ?_) fun _ _ z => z
      obtain ⟨σ8, H8, I8, ⟨hl8, hk8⟩, q8⟩ := h8
      have back : ∀ {H9 : Hp} {s9 : Shared}, Inv (cxComp X scope cl (tn ++ cn) C (s.heap.objs.size :: fp) s3 H) (X.pn ++ pins ++ [(s.heap.objs.size, { cls := .type "list", data := .seq (List.toArray its) k })] ++ pinsAt fp s7.heap) σ8 H9 s9 →
          tnn (i + 1) s9.heap ∧ (∀ b ∈ fp, H9 b = none) := fun {H9 s9} I9 => by
        refine ⟨T.keep _ _ _ st7 fun b hb o e => (I9.pin (b, o) (List.mem_append_right _ (List.mem_append_right _ (mem_pinsAt hb e)))).1, fun b hb => ?_⟩
        obtain ⟨o, e, d⟩ := T.obj _ _ st7 b hb
        exact (I9.pin (b, o) (List.mem_append_right _ (List.mem_append_right _ (mem_pinsAt hb e)))).2.1
      refine wpAny_mono (ht C (s.heap.objs.size :: fp) s3 H _ s8 σ8 H8 _ I8 q8) (fun ok s9 h9 => ?_) fun _ _ z => z
      obtain ⟨H9, I9, q9⟩ := h9
      cases ok with
      | false =>
        rw [if_neg (by decide)] at q9 ⊢
        obtain ⟨m', hm, w9⟩ := hNw _ _ q9
        obtain ⟨b1, b2⟩ := back I9
        exact ⟨m', hm, i + 1, ys, its, k, H9, I9.unpinned.weak hl8.symm hk8, b1, b2, rv5, w9⟩
      | true =>
        rw [if_pos rfl] at q9 ⊢
        refine wpAny_mono (he C (s.heap.objs.size :: fp) s3 H _ s9 σ8 H9 _ I9 q9) (fun yv s10 h10 => ?_) fun _ _ z => z
        obtain ⟨y, H10, I10, r10, hz10, n10⟩ := h10
        obtain ⟨m', hm, w10⟩ := hNw _ _ n10
        obtain ⟨b1, b2⟩ := back I10
        have pD := I10.pin (s.heap.objs.size, { cls := .type "list", data := .seq (List.toArray its) k }) (List.mem_append_right _ (List.mem_append_left _ (List.mem_append_right _ (List.mem_singleton.mpr rfl))))
        refine wpAny_list_append_plain (hsz := by rw [List.size_toArray, ← rv5.length]; exact hz10) ⟨k, pD.1⟩ fun h11 hl11 hs11 => ?_
        obtain ⟨k', e11⟩ := hl11
        have I10' : Inv (cxComp X scope cl (tn ++ cn) C (s.heap.objs.size :: fp) s3 H) (X.pn ++ pins) σ8 H10 s10 := I10.pins_of fun p hp => I10.pin p (List.mem_append_right _ (List.mem_append_left _ (List.mem_append_left _ hp)))
        have I11 := I10'.turned (t' := s10.toks) (h' := h11) (it := s.heap.objs.size) (fun b o hb e => hs11.extBut b o hb e) pD.2.1 pD.2.2.1 (.inl List.mem_cons_self) (fun x c e z => ?_) (fun p hp z => ?_)
        · refine ⟨m', hm, i + 1, ys ++ [y], its ++ [yv], k', H10, ?_, ?_, b2, rv5.append (.cons r10 .nil), w10⟩
          · refine (I11.pins_of fun p hp => ?_).weak hl8.symm hk8
            rcases List.mem_append.mp hp with hp | hp
            · exact I11.pin p (List.mem_append_right _ hp)
            · have e := List.mem_singleton.mp hp
              subst e
              refine ⟨?_, pD.2.1, pD.2.2.1, pD.2.2.2.1, fun v z => by cases z⟩
              show h11.get? s.heap.objs.size = _
              rw [e11]
              simp
          · refine T.keep _ _ _ b1 fun b hb o e => hs11.extBut b o (fun z => ?_) e
            have h1 := hfp b hb
            rw [z] at h1
            exact Nat.lt_irrefl _ h1
        · obtain ⟨v, q⟩ := I.cell x c (hcl x c e)
          exact absurd q.lt (by rw [z]; exact Nat.lt_irrefl _)
        · have hp : p ∈ X.pn ++ pins := (List.mem_append.mp hp).elim (fun z => List.mem_append_left _ z) id
          exact absurd (Heap.lt_size (I.pin p hp).1) (by rw [z]; exact Nat.lt_irrefl _)
  exact codeAny_compStart_list (loop _ rfl) (T.self X.A 0 _ _ _ st1 (loop _ rfl))
def tComp (wi : TI) (k : Nat) (caps : List Nat) (g : TG) (tt : TT) (te : TE) : TE := fun σ H Q => wi σ H fun J H1 => ∃ W : Nat → Nat → List V → Hp → Prop, (∃ m, W 0 m [] H1) ∧
  CompW J g tt te (List.replicate k none ++ capσ σ caps) W fun ys H' => ∀ D, H' D = none → Q (.ref D) (upd H' D (.lst ys))
theorem z94 {tg iter elt : Expr} {ifs : List Expr} {pos : Pos} {wi : TI} {g : TG} {tt : TT} {te : TE} (S : z8 X scope tn cn caps) (hc : Calm X) (hi : PI X tg iter wi)
    (hg : ∀ cl C ex s₀ H₀, PG (cxComp X scope cl (tn ++ cn) C ex s₀ H₀) tg g) (ht : ∀ cl C ex s₀ H₀, PTs (cxComp X scope cl (tn ++ cn) C ex s₀ H₀) ifs tt) (he : ∀ cl C ex s₀ H₀, PE (cxComp X scope cl (tn ++ cn) C ex s₀ H₀) elt te)
    (hs : ∀ x, foldedSetIterable iter X.env x = pure x := by intro _; rfl) : PE X (.ListComp elt [⟨tg, iter, ifs, 0⟩] scope pos) (tComp wi tn.length caps g tt te) := by
  intro pins s σ H Q I h
  obtain ⟨cl, hcl0, hcl, hcl2⟩ := z171 (scope := scope) (env := X.env) fun x hx hf => I.ok.has x.1 (S.caught x hx hf)
  rw [eval_ListComp]
  refine wpAny_comprehension_free (use := none) rfl hs hcl0 S.kind S.names (thn (hi pins s σ H _ I h) fun v s1 h1 => thn h1 fun itv s2 h2 => ?_)
  obtain ⟨it, fp, tnn, J, H2, e, I2, T, st2, f2, W, ⟨m0, w0⟩, turn⟩ := h2
  subst e
  refine z378 (RR := fun acc C => compPost (model X.prog X.w) X.A X.xe none (EP X pins σ Q) acc C) S hc hcl hcl2 (hg cl) (ht cl) (he cl) I2 T st2 f2 turn w0 ?_
  intro D C s' H' ys m hD f I' fC hn
  refine ⟨m, hn, fun h' hs' => ?_⟩
  have I'' := I'.turned (t' := s'.toks) (h' := h') (it := C) (fun b o hb e => hs'.extBut b o hb e) fC.1 fC.2.1 fC.2.2.2.1 fC.2.2.2.2.1 fC.2.2.2.2.2
  exact ⟨.ref D, _, I'', rfl, f D hD⟩
def sComp (i : Nat) (wi : TI) (k : Nat) (caps : List Nat) (g : TG) (tt : TT) (te : TE) : TS := fun D σ H => wi σ H fun J H1 => ∃ W : Nat → Nat → List V → Hp → Prop, (∃ m, W 0 m [] H1) ∧
  CompW J g tt te (List.replicate k none ++ capσ σ caps) W fun ys H' => ∀ p, H' p = none → D.nx (σ.set i (some (.ref p))) (upd H' p (.lst ys))
theorem z270 {tg iter elt : Expr} {ifs : List Expr} {pos spos py : Pos} {y : Str} {i : Nat} {wi : TI} {g : TG} {tt : TT} {te : TE} (S : z8 X scope tn cn caps) (hc : Calm X) (hN : X.N.Nodup) (hy : X.N[i]? = some y) (hl : X.env.scope.names.lookup y = some .local)
    (hi : PI X tg iter wi)
    (hg : ∀ cl C ex s₀ H₀, PG (cxComp X scope cl (tn ++ cn) C ex s₀ H₀) tg g) (ht : ∀ cl C ex s₀ H₀, PTs (cxComp X scope cl (tn ++ cn) C ex s₀ H₀) ifs tt) (he : ∀ cl C ex s₀ H₀, PE (cxComp X scope cl (tn ++ cn) C ex s₀ H₀) elt te)
    (hsw : swapsWith (.ListComp elt [⟨tg, iter, ifs, 0⟩] scope pos) (some (.Name y py)) spos.line X.env = pure true)
    (hs : ∀ x, foldedSetIterable iter X.env x = pure x := by intro _; rfl) : PS X (.Assign [.Name y py] (.ListComp elt [⟨tg, iter, ifs, 0⟩] scope pos) spos) (sComp i wi tn.length caps g tt te) := by
  intro pins s σ H D I h
  obtain ⟨cl, hcl0, hcl, hcl2⟩ := z171 (scope := scope) (env := X.env) fun x hx hf => I.ok.has x.1 (S.caught x hx hf)
  rw [exec_Assign_Name_used _ _ _ _ hsw]
  refine wpAny_bind (wpAny_standAt (wpAny_bind ?_))
  show wpAny _ X.A (do let _ ← comprehension (.ListComp elt [⟨tg, iter, ifs, 0⟩] scope pos) scope X.env _ (newList []) false (eval iter X.env) (some (assign (.Name y py) X.env))) _ _ s
  refine wpAny_bind (wpAny_mono (wpAny_comprehension_free (use := some (assign (.Name y py) X.env)) (Q := fun _ s' => SP X pins D .next s') rfl hs hcl0 S.kind S.names
    (thn (hi pins s σ H _ I h) fun v s1 h1 => thn h1 fun itv s2 h2 => ?_)) (fun _ s' hq => wpAny_pure (wpAny_pure hq)) fun _ _ e => e)
  obtain ⟨it, fp, tnn, J, H2, e, I2, T, st2, f2, W, ⟨m0, w0⟩, turn⟩ := h2
  subst e
  refine z378 (RR := fun acc C => compPost (model X.prog X.w) X.A X.xe (some (assign (.Name y py) X.env)) (fun _ s' => SP X pins D .next s') acc C) S hc hcl hcl2 (hg cl) (ht cl) (he cl) I2 T st2 f2 turn w0 ?_
  intro p C s' H' ys m hD f I' fC hn
  show wpAny _ X.A (assign (.Name y py) X.env (.ref p)) _ _ _
  refine wpAny_assign_Name (store_ok2 (v := .ref p) I' hN hy (.inl hl) rfl (fun s4 I4 ⟨a, hs4, ha⟩ => ?_) (.inr hl))
  have hCa : C ≠ a := by
    rcases ha with ha | ha
    · rw [ha]; exact fC.2.1
    · exact fun z => fC.2.2.2.2.1 y a ha z.symm
  refine ⟨m, hn.sameBut hs4 hCa, fun h' hs' => ?_⟩
  have I'' := I4.turned (t' := s4.toks) (h' := h') (it := C) (fun b o hb e => hs'.extBut b o hb e) fC.1 fC.2.1 fC.2.2.2.1 fC.2.2.2.2.1 fC.2.2.2.2.2
  exact ⟨_, _, I'', f p hD⟩
end
structure SrcIs (J : It) (H : Hp) (xs : List V) : Prop where
  go : ∀ i, i < xs.length → J.go i H
  yld : ∀ i x H', i < xs.length → J.yld i H x H' → H' = H ∧ xs[i]? = some x
  stop : J.stop xs.length H
theorem src_list {K : PySem.W.Frag} {H : Hp} {a : Addr} {xs : List V} (h : SqL K H a xs) : SrcIs (Itl K a) H xs :=
  ⟨fun i hi => ⟨xs, xs[i], h, by simp [hi]⟩, fun i x H' _ y => ⟨y.1, y.2 xs h⟩, ⟨xs, h, Nat.le_refl _⟩⟩
theorem src_range {H : Hp} {lo : Int} {n : Nat} : SrcIs (Itr lo n) H ((List.range n).map fun i => V.int (lo + (i : Nat))) :=
  ⟨fun i hi => (show i < n by simpa using hi), fun i x H' hi y => ⟨y.1, by
    have hi' : i < n := by simpa using hi
    have e : x = .int (lo + (i : Nat)) := y.2
    rw [e, List.getElem?_map, List.getElem?_range hi']; rfl⟩, by show n ≤ _; simp⟩
theorem z416 {x : V} {cs : St} : ((some x :: cs : St).length = (none :: cs : St).length) ∧ ∀ (j : Nat) (v : V), (none :: cs : St)[j]? = some (some v) → (some x :: cs : St)[j]? = some (some v) := by
  refine ⟨by simp, fun j v h => ?_⟩
  cases j with
  | zero => simp at h
  | succ j => simpa using h
theorem z22 {J : It} {H : Hp} {xs : List V} {tt : TT} {te : TE} {cs : St} {F : List V → Hp → Prop} (S : SrcIs J H xs) (p : V → Bool) (f : V → V) (htt : ∀ x ∈ xs, ∀ Q : Bool → Hp → Prop, Q (p x) H → tt (some x :: cs) H Q)
    (hte : ∀ x ∈ xs, p x = true → ∀ Q : VK, Q (f x) H → te (some x :: cs) H Q) (hn : xs.length ≤ sizeLine) (hF : F ((xs.filter p).map f) H) :
    ∃ W : Nat → Nat → List V → Hp → Prop, (∃ m, W 0 m [] H) ∧ CompW J (gName 0) tt te (none :: cs) W F := by
  refine ⟨fun i m ys H' => m = xs.length - i ∧ i ≤ xs.length ∧ H' = H ∧ ys = ((xs.take i).filter p).map f, ⟨xs.length, by simp, Nat.zero_le _, rfl, by simp⟩, ?_⟩
  rintro i m ys H' ⟨rfl, hi, rfl, rfl⟩
  have hlen : (((xs.take i).filter p).map f).length ≤ sizeLine := by
    rw [List.length_map]
    refine Nat.le_trans (List.length_filter_le _ _) ?_
    rw [List.length_take]
    omega
  by_cases hlt : i < xs.length
  · refine .inr ⟨S.go i hlt, fun ys' H'' => H'' = H' ∧ ys' = ((xs.take (i + 1)).filter p).map f, fun ys' H'' h => ⟨xs.length - (i + 1), by omega, rfl, hlt, h.1, h.2⟩, fun x H'' y => ?_⟩
    obtain ⟨rfl, hx⟩ := S.yld i x H'' hlt y
    have hm : x ∈ xs := List.mem_of_getElem? hx
    have htk : xs.take (i + 1) = xs.take i ++ [x] := by
      rw [List.take_add_one, hx]; rfl
    show _ ∧ _
    refine ⟨z416, ?_⟩
    refine htt x hm _ ?_
    cases hp : p x with
    | true =>
      rw [if_pos rfl]
      refine hte x hm hp _ ⟨hlen, rfl, ?_⟩
      rw [htk, List.filter_append, List.map_append]
      simp [hp]
    | false =>
      rw [if_neg (by decide)]
      refine ⟨rfl, ?_⟩
      rw [htk, List.filter_append, List.map_append]
      simp [hp]
  · have e : i = xs.length := by omega
    subst e
    refine .inl ⟨S.stop, hlen, ?_⟩
    rw [List.take_length]
    exact hF
theorem z705 {J : It} {H : Hp} {n : Nat} {x : Nat → V} {tt : TT} {te : TE} {cs : St} {F : List V → Hp → Prop} (Pv : Nat → List V → Hp → Prop) (h0 : Pv 0 [] H)
    (hgo : ∀ i ys H, i < n → Pv i ys H → J.go i H ∧ ∀ y H', J.yld i H y H' → H' = H ∧ y = x i) (hstop : ∀ ys H, Pv n ys H → J.stop n H)
    (hs : ∀ i ys H, i < n → Pv i ys H → tt (some (x i) :: cs) H fun b H3 => if b = true then te (some (x i) :: cs) H3 fun y H4 => ys.length ≤ sizeLine ∧ Pv (i + 1) (ys ++ [y]) H4 else Pv (i + 1) ys H3)
    (hd : ∀ ys H, Pv n ys H → ys.length ≤ sizeLine ∧ F ys H) :
    ∃ W : Nat → Nat → List V → Hp → Prop, (∃ m, W 0 m [] H) ∧ CompW J (gName 0) tt te (none :: cs) W F := by
  refine ⟨fun i m ys H => m = n - i ∧ i ≤ n ∧ Pv i ys H, ⟨n, by simp, Nat.zero_le _, h0⟩, ?_⟩
  rintro i m ys H ⟨rfl, hi, p⟩
  by_cases hlt : i < n
  · obtain ⟨g1, g2⟩ := hgo i ys H hlt p
    refine .inr ⟨g1, Pv (i + 1), fun ys' H' h => ⟨n - (i + 1), by omega, rfl, hlt, h⟩, fun y H' yl => ?_⟩
    obtain ⟨rfl, rfl⟩ := g2 y H' yl
    exact ⟨z416, hs i ys _ hlt p⟩
  · have e : i = n := by omega
    subst e
    obtain ⟨h1, h2⟩ := hd ys H p
    exact .inl ⟨hstop ys H p, h1, h2⟩
theorem cxK {CX : CXT} {P : Program} {w : World} {K : PySem.W.Frag} {mg : Str → Option Value} {base : Heap} {N : List Str} {qual : Str} {scope : Scope} {f : Addr} {cd : Value} {A : Around} {outer : List Env} {s : Shared} {H : Hp} {E : XK} : (cxOf CX P w K mg base N qual scope f cd A outer s H E).K = K := rfl
theorem cxA {CX : CXT} {P : Program} {w : World} {K : PySem.W.Frag} {mg : Str → Option Value} {base : Heap} {N : List Str} {qual : Str} {scope : Scope} {f : Addr} {cd : Value} {A : Around} {outer : List Env} {s : Shared} {H : Hp} {E : XK} : (cxOf CX P w K mg base N qual scope f cd A outer s H E).A = A.deeper (envOfC qual scope s.heap.objs.size f cd) := rfl
theorem cxKc {X : Cx} {scope : Scope} {cl : List (Str × Addr)} {N : List Str} {C : Addr} {ex : List Addr} {s₀ : Shared} {H₀ : Hp} : (cxComp X scope cl N C ex s₀ H₀).K = X.K := rfl
theorem cxAc {X : Cx} {scope : Scope} {cl : List (Str × Addr)} {N : List Str} {C : Addr} {ex : List Addr} {s₀ : Shared} {H₀ : Hp} : (cxComp X scope cl N C ex s₀ H₀).A = X.A := rfl
end L2
set_option Elab.async false
set_option linter.all false
set_option maxRecDepth 100000
namespace L2
open PySem PySem.Spec PyProof.Rows
def chr1 (c : Nat) : V := .str ⟨#[c]⟩
def Its (x : Str) : It := ⟨fun i _ => i < x.cps.size, fun i H v H' => H' = H ∧ ∃ c, x.cps[i]? = some c ∧ v = chr1 c, fun i _ => x.cps.size ≤ i⟩
theorem z692 {P : Program} {w : World} {K : PySem.W.Frag} {tg : Expr} (it : Addr) (x : Str) (t : Tok) {ty : String} (hty : ty = "str_ascii_iterator" ∨ ty = "str_iterator") : Turn P w K tg (Its x) [it] it (fun i h => h.IsStrIter it ty x t i) where
  mem := by simp
  obj := fun i h st b hb => by
    have e : b = it := by simpa using hb
    subst e
    obtain ⟨o, e, c, d⟩ := st
    exact ⟨o, e, fun v z => by rw [d] at z; cases z⟩
  keep := fun i h h' st k => let ⟨o, e, r⟩ := st; ⟨o, k it (by simp) o e, r⟩
  item := by
    intro X hP hw hK hc i pins s σ H E I hf st hg
    subst hP hw hK
    have hi : i < x.cps.size := hg
    obtain ⟨f0, f1, f2, f3, f4, f5⟩ := hf it (by simp)
    have hx : x.cps[i]? = some x.cps[i] := by simp [hi]
    have fin : ∀ h', h'.IsStrIter it ty x t (i + 1) → Heap.SameBut it s.heap h' → ∃ u, some (Value.str ⟨#[x.cps[i]]⟩ s.toks) = some u ∧
        wpAny (model X.prog X.w) X.A (letOwnedTupleGo tg (.ref it) u) (fun _ s2 => ∃ y H', Inv X pins σ H' s2 ∧ RelV y u ∧ (Its x).yld i H y H' ∧ s2.heap.IsStrIter it ty x t (i + 1) ∧ ∀ b ∈ [it], H' b = none) E { s with heap := h', toks := s.toks + 1 } := fun h' st' sb => by
      have I1 : Inv X pins σ H { s with heap := h', toks := s.toks + 1 } := I.turned (fun b o hb e => (sb.2 b hb).trans e) f0 f1 f3 f4 f5
      obtain ⟨o, e, c, d⟩ := id st'
      refine ⟨_, rfl, go_of (s := { s with heap := h', toks := s.toks + 1 }) e c d ?_ ⟨chr1 x.cps[i], H, I1, ⟨_, rfl⟩, ⟨rfl, _, hx, rfl⟩, st', fun b hb => (hf b hb).1⟩⟩
      rcases hty with z | z <;> (subst z; decide)
    rcases hty with z | z
    · subst z; exact wpAny_pyNext_ascii_item st hx fin
    · subst z; exact wpAny_pyNext_wide_item st hx fin
  done := by
    intro X hP hw hK hc i pins s σ H E I hf st hg
    subst hP hw hK
    have hi : x.cps.size ≤ i := hg
    obtain ⟨f0, f1, f2, f3, f4, f5⟩ := hf it (by simp)
    have hx : x.cps[i]? = none := by simp [hi]
    have fin : ∀ h', Heap.ExtBut it s.heap h' → (none : Option Value) = none ∧ Inv X pins σ H { s with heap := h' } := fun h' eb => ⟨rfl, I.turned (t' := s.toks) (fun b o hb e => eb b o hb e) f0 f1 f3 f4 f5⟩
    rcases hty with z | z
    · subst z; exact z449 (.inl rfl) (I.calm hc) st hx fin
    · subst z; exact z449 (.inr rfl) (I.calm hc) st hx fin
  self := fun _ _ _ _ _ st h => by
    rcases hty with z | z
    · subst z; exact wpAny_pyIter_striter_ascii st h
    · subst z; exact wpAny_pyIter_striter_wide st h
def iStr (tl : TE) : TI := fun σ H R => tl σ H fun v H1 => ∃ x, v = .str x ∧ R (Its x) H1
theorem pi_str {X : Cx} {tg l : Expr} {tl : TE} (hl : PE X l tl) : PI X tg l (iStr tl) := by
  intro pins s σ H R I h
  refine thn (hl pins s σ H _ I h) fun v s1 ⟨y, H1, I1, r1, q1⟩ => ?_
  obtain ⟨x, e, q⟩ := q1
  subst e
  obtain ⟨t, rfl⟩ := r1
  have fin : ∀ ty, (ty = "str_ascii_iterator" ∨ ty = "str_iterator") → PIE X pins σ tg R (.ref s1.heap.objs.size) { s1 with heap := s1.heap.push { cls := .type ty, data := .fields #[.str x t, .int 0 0] } } := fun ty hty => by
    refine ⟨s1.heap.objs.size, [s1.heap.objs.size], _, _, H1, rfl, I1.kept (t' := s1.toks) fun b o e => Heap.get?_push_of_some _ e, z692 _ x t hty, ⟨_, Heap.get?_push_size _ rfl, rfl, rfl⟩, fun b hb => ?_, q⟩
    have e : b = s1.heap.objs.size := by simpa using hb
    subst e
    exact I1.fpOk (Nat.le_refl _) (I1.hok.fresh (Nat.le_refl _))
  cases ha : x.cps.all (· < 128)
  · exact wpAny_pyIter_wide ha (fin _ (.inr rfl))
  · exact wpAny_pyIter_ascii ha (fin _ (.inl rfl))
theorem z667 {H : Hp} {x : Str} : SrcIs (Its x) H (x.cps.toList.map chr1) :=
  ⟨fun i hi => (show i < x.cps.size by simpa using hi), fun i v H' hi y => ⟨y.1, by
    obtain ⟨c, e1, e2⟩ := y.2
    rw [e2, List.getElem?_map, Array.getElem?_toList, e1]; rfl⟩, by show x.cps.size ≤ _; simp⟩
section
variable {X : Cx}
theorem z457 : OpR X (compareOp .In) (fun x y H Q => ∃ c j, x = chr1 c ∧ y = .str j ∧ Q (.bl (decide (c ∈ j.cps.toList))) H) := by
  intro pins s σ H x y v u Q I rx ry h
  obtain ⟨c, j, rfl, rfl, q⟩ := h
  refine op_in_str pins s σ H _ _ v u Q I rx ry ⟨_, j, rfl, rfl, ?_⟩
  rw [PySem.StrLaws.found_one]
  exact q
theorem z611 : OpR X (binaryOp .Mult) (fun x y H Q => ∃ z n, x = .str z ∧ y = .int n ∧ MulOk z n ∧ Q (.str (Txt.mul z n)) H) := by
  intro pins s σ H x y v u Q I rx ry h
  obtain ⟨z, n, rfl, rfl, hok, q⟩ := h
  obtain ⟨t, rfl⟩ := rx
  obtain ⟨t', rfl⟩ := ry
  exact SB.mul hok fun t'' k => ⟨.str (Txt.mul z n), H, I.tok _, ⟨_, rfl⟩, q⟩
def tSlS (te : TE) (tl th : TO) : TE := fun σ H Q => te σ H fun x H1 => tl σ H1 fun l H2 => th σ H2 fun u H3 => ∃ z, x = .str z ∧ z.length ≤ sizeLine ∧ Q (.str (Txt.slice z l u)) H3
theorem z469 {e : Expr} {lo hi : Option Expr} {te : TE} {tl th : TO} {p2 pos : Pos} (he : PE X e te) (hl : PO X lo tl) (hu : PO X hi th) : PE X (.Subscript e (.Slice lo hi none p2) pos) (tSlS te tl th) := by
  intro pins s σ H Q I h
  refine Subscript_ (thn (he pins s σ H _ I h) fun v s1 ⟨x, H1, I1, r1, q1⟩ => ?_)
  refine wpAny_Slice (thn (hl pins s1 σ H1 _ I1 q1) fun vl s2 ⟨l, H2, I2, pl, q2⟩ => thn (hu pins s2 σ H2 _ I2 q2) fun vu s3 ⟨u, H3, I3, pu, q3⟩ => ?_)
  rw [evalPart_none]
  refine wpAny_pure ?_
  obtain ⟨z, rfl, hz, q⟩ := q3
  obtain ⟨t, rfl⟩ := r1
  show wpAny (model X.prog X.w) X.A (subscriptTail e (.Slice lo hi none p2) (.str z t) (.ref s3.heap.objs.size)) (EP X pins σ Q) X.xe { s3 with heap := s3.heap.push { cls := .type "slice", data := .fields #[vl, vu, .none] } }
  have hk : KeptH fun h' => ∀ b o, s3.heap.get? b = some o → h'.get? b = some o := fun h ob p b o e => Heap.get?_push_of_some _ (p b o e)
  have fin : ∀ h' t' k, (∀ b o, s3.heap.get? b = some o → h'.get? b = some o) → EP X pins σ Q (.str (Txt.slice z l u) t') { s3 with heap := h', toks := k } := fun h' t' k kp => ⟨.str (Txt.slice z l u), H3, I3.kept kp, ⟨t', rfl⟩, q⟩
  have hI : ItemOn (model X.prog X.w) X.A X.xe (.str z t) (.ref s3.heap.objs.size) (EP X pins σ Q) { s3 with heap := s3.heap.push { cls := .type "slice", data := .fields #[vl, vu, .none] } } := by
    cases pl with
    | none =>
      cases pu with
      | none => exact SBH.sliceItem_nn hk (fun b o e => e) fin hz
      | int => exact SBH.sliceItem_ns hk (fun b o e => e) fin hz
    | int =>
      cases pu with
      | none => exact SBH.sliceItem_sn hk (fun b o e => e) fin hz
      | int => exact SBH.sliceItem_ss hk (fun b o e => e) fin hz
  obtain ⟨T, id, hlk, hT, hg⟩ := hI
  exact tail_any (ops := [.ref s3.heap.objs.size, .str z t]) hT hlk hg (by with_unfolding_all rfl)
theorem all_range (bs : List Bool) : (List.range bs.length).all (fun i => bs.getD i false) = bs.all id := by
  rw [Bool.eq_iff_iff, List.all_eq_true, List.all_eq_true]
  constructor
  · intro h b hb
    obtain ⟨i, hi, e⟩ := List.mem_iff_getElem.mp hb
    have q := h i (List.mem_range.mpr hi)
    simpa [List.getD, hi, e] using q
  · intro h i hi
    have hi' := List.mem_range.mp hi
    have q := h bs[i] (List.getElem_mem hi')
    simpa [List.getD, hi'] using q
theorem z242 : CallR X (.builtin "all") (fun xs H Q => ∃ (a : Addr) (bs : List Bool), xs = [.ref a] ∧ X.A.handled = none ∧ SqL X.K H a (bs.map V.bl) ∧ Q (.bl (bs.all id)) H) := by
  intro pins s σ H xs us Q I r h
  obtain ⟨a, bs, rfl, hh, hq, q⟩ := h
  obtain ⟨u, rfl, ru⟩ := vals1 r
  cases ru
  obtain ⟨its, rv, p, hz⟩ := I.list hq
  have hl := rv.length
  rw [List.length_map] at hl
  obtain ⟨o, ho, _⟩ := id p.isList
  have hlt := Heap.lt_size ho
  refine call_all_walk (wpAny_pyIter_list p.isList ?_)
  refine ⟨s.heap.objs.size, _, _, _, _, _, fun i => bs.getD i false, rfl, Walks.list (A := X.A.in1) hh s.heap.objs.size a (Nat.ne_of_lt hlt) its.toArray, ⟨⟨_, Heap.get?_push_size _ rfl, rfl, rfl⟩, p.isList.at fun o e => Heap.get?_push_of_some _ e⟩, ?_, fun h' tk hk => ?_⟩
  · intro i v s' Q' E' hv hQ
    have hv : its.toArray[i]? = some v := hv
    have hi : its[i]? = some v := by simpa using hv
    have hib : i < bs.length := by rw [hl]; exact (List.getElem?_eq_some_iff.mp hi).1
    obtain ⟨u, hu, ru⟩ := rv.get (i := i) (x := V.bl bs[i]) (by simp [hib])
    rw [hi] at hu
    cases hu
    cases ru
    refine wpAny_truthy_bool ?_
    have e : bs.getD i false = bs[i] := by simp [List.getD, hib]
    rw [← e]
    exact hQ
  · rw [List.size_toArray, ← hl, all_range]
    refine ⟨.bl (bs.all id), H, I.kept fun b o e => ?_, rfl, q⟩
    exact hk b o (fun z => Nat.lt_irrefl _ (by have := Heap.lt_size e; rw [List.mem_singleton.mp z] at this; exact this)) (Heap.get?_push_of_some _ e)
def figs : Str := "0123456789"
def rIndex : V → List V → Hp → VK → Prop := fun x vs H Q => ∃ c, x = .str figs ∧ vs = [chr1 c] ∧ 48 ≤ c ∧ c ≤ 57 ∧ Q (.int ((c - 48 : Nat) : Int)) H
end
theorem z104 (x y : Str) : (x ++ y).cps.toList = x.cps.toList ++ y.cps.toList := by
  show (x.cps ++ y.cps).toList = _
  simp
theorem z217 {x y : Str} (h : x.cps.toList = y.cps.toList) : x = y := by
  obtain ⟨a⟩ := x
  obtain ⟨b⟩ := y
  congr 1
  exact Array.toList_inj.mp h
theorem z106 (x : Str) : x.cps.toList.length = x.length := by simp [Str.length]
theorem z471 (a : Array Nat) : ∀ (k : Nat) (acc : Array Nat), ((List.replicate k a).foldl (· ++ ·) acc).toList = acc.toList ++ (List.replicate k a.toList).flatten
  | 0, acc => by simp
  | k + 1, acc => by
    rw [List.replicate_succ, List.foldl_cons, z471 a k, List.replicate_succ, List.flatten_cons]
    simp
theorem mul_list (x : Str) (n : Nat) : (Txt.mul x (n : Int)).cps.toList = (List.replicate n x.cps.toList).flatten := by
  unfold Txt.mul
  by_cases h1 : (n : Int) < 1
  · have h0 : n = 0 := by omega
    subst h0
    rw [if_pos h1]
    rfl
  · rw [if_neg h1]
    by_cases h2 : ((n : Int) == 1 || x.length == 0) = true
    · rw [if_pos h2]
      rcases Bool.or_eq_true_iff.mp h2 with h | h
      · have h0 : n = 1 := by have := eq_of_beq h; omega
        subst h0
        simp
      · have h0 : x.cps.toList = [] := List.length_eq_zero_iff.mp (by rw [z106]; exact eq_of_beq h)
        rw [h0]
        have : ∀ k : Nat, (List.replicate k ([] : List Nat)).flatten = [] := fun k => by induction k with
          | zero => rfl
          | succ k ih => rw [List.replicate_succ, List.flatten_cons, ih]; rfl
        exact (this n).symm
    · rw [if_neg h2]
      show ((List.replicate (n : Int).toNat x.cps).foldl (· ++ ·) #[]).toList = _
      rw [z471]
      simp
theorem mul_ok (x : Str) (n : Nat) (hn : n ≤ 100000) (h : x.length * n ≤ 100000) : MulOk x (n : Int) := by
  have hz : (100000 : Nat) ≤ sizeLine := by rw [sizeLine_eq]; decide
  refine ⟨?_, fun h1 h2 => ?_, fun h1 h2 => ?_⟩
  · rw [decide_eq_false (by omega), decide_eq_false (by omega)]; rfl
  · have hp : (0 : Int) < n := by omega
    rw [gt_iff_lt, Int.not_lt, Int.le_ediv_iff_mul_le hp]
    have e : ((x.length : Int)) * (n : Int) = ((x.length * n : Nat) : Int) := by simp
    rw [e]
    omega
  · unfold Builtin.Str.tooLong
    rw [Int.toNat_natCast]
    exact decide_eq_false (by omega)
end L2
set_option Elab.async false
set_option linter.all false
set_option maxRecDepth 100000
namespace L2
open PySem PySem.Spec PyProof.Rows
mutual
inductive Den (K : PySem.W.Frag) (H : Hp) : V → PyData → Prop
  | non : Den K H .non .none
  | bl (b : Bool) : Den K H (.bl b) (.bool b)
  | int (i : Int) : Den K H (.int i) (.int i)
  | str (x : Str) : Den K H (.str x) (.str x)
  | lst {a : Addr} {xs : List V} {ds : List PyData} : SqL K H a xs → DenAll K H xs ds → Den K H (.ref a) (.list ds)
  | tup {a : Addr} {xs : List V} {ds : List PyData} : SqT K H a xs → DenAll K H xs ds → Den K H (.ref a) (.tuple ds)
inductive DenAll (K : PySem.W.Frag) (H : Hp) : List V → List PyData → Prop
  | nil : DenAll K H [] []
  | cons {x : V} {xs : List V} {d : PyData} {ds : List PyData} : Den K H x d → DenAll K H xs ds → DenAll K H (x :: xs) (d :: ds)
end
section
variable {X : Cx} {pins : List (Addr × Obj)} {σ : St} {H : Hp} {s : Shared}
mutual
theorem Den.reads (I : Inv X pins σ H s) : ∀ {x : V} {d : PyData} {u : Value}, Den X.K H x d → RelV x u → ∃ as, Reads s.heap u d as
  | _, _, _, .non, r => by cases r; exact ⟨_, Reads.none⟩
  | _, _, _, .bl b, r => by cases r; exact ⟨_, Reads.bool b⟩
  | _, _, _, .int i, r => by obtain ⟨t, rfl⟩ := r; exact ⟨_, Reads.int i t⟩
  | _, _, _, .str x, r => by obtain ⟨t, rfl⟩ := r; exact ⟨_, Reads.str x t⟩
  | _, _, _, .lst h hs, r => by
    cases r
    obtain ⟨its, rv, p, hz⟩ := I.list h
    obtain ⟨as, q⟩ := DenAll.reads I hs rv
    obtain ⟨o, ho, hc, n, hd⟩ := p.isList
    exact ⟨_, reads_list_at ho hc hd (by simpa using q)⟩
  | _, _, _, .tup h hs, r => by
    cases r
    obtain ⟨its, rv, p, hz⟩ := I.tuple h
    obtain ⟨as, q⟩ := DenAll.reads I hs rv
    obtain ⟨o, ho, hc, n, hd⟩ := (show s.heap.IsTuple _ _ from p)
    exact ⟨_, reads_tuple_at ho hc hd (by simpa using q)⟩
theorem DenAll.reads (I : Inv X pins σ H s) : ∀ {xs : List V} {ds : List PyData} {us : List Value}, DenAll X.K H xs ds → Vals xs us → ∃ as, ReadsAll s.heap us ds as
  | _, _, _, .nil, r => by cases r; exact ⟨_, ReadsAll.nil⟩
  | _, _, _, .cons h hs, r => by
    cases r with
    | cons r rr =>
      obtain ⟨as, q⟩ := Den.reads I h r
      obtain ⟨bs, p⟩ := DenAll.reads I hs rr
      exact ⟨_, ReadsAll.cons q p⟩
end
def rEqD (K : PySem.W.Frag) (neg : Bool) : R2 := fun x y H Q => ∃ d e, Den K H x d ∧ Den K H y e ∧ SeqAt.shaped d = true ∧ SeqAt.shaped e = true ∧ Q (.bl (if neg then !PyData.eqv d e else PyData.eqv d e)) H
theorem op_eqD (hu : X.A.units + 64 < cLine) : OpR X (compareOp .Eq) (rEqD X.K false) := by
  intro pins s σ H x y v u Q I rx ry h
  obtain ⟨d, e, hd, he, sd, se, q⟩ := h
  obtain ⟨as, ra⟩ := hd.reads I rx
  obtain ⟨bs, rb⟩ := he.reads I ry
  exact eq_dataH ra rb sd se hu (fin_bl I q rfl)
theorem op_neD (hu : X.A.units + 64 < cLine) : OpR X (compareOp .NotEq) (rEqD X.K true) := by
  intro pins s σ H x y v u Q I rx ry h
  obtain ⟨d, e, hd, he, sd, se, q⟩ := h
  obtain ⟨as, ra⟩ := hd.reads I rx
  obtain ⟨bs, rb⟩ := he.reads I ry
  exact ne_dataH ra rb sd se hu (fin_bl I q rfl)
end
theorem z356 {K : PySem.W.Frag} {H : Hp} : ∀ ns : List Int, DenAll K H (ns.map V.int) (ns.map PyData.int)
  | [] => .nil
  | n :: r => .cons (.int n) (z356 r)
section
variable {X : Cx}
theorem z26 : CallR X (.builtin "isinstance") (fun xs H Q => ∃ x n t b, xs = [x, .ty n] ∧ TyOf X.K H x t ∧ PySem.W.kitOne X.K t (.type n) = some b ∧ Q (.bl b) H) := by
  intro pins s σ H xs us Q I r h
  obtain ⟨x, n, t, b, rfl, ty, e, q⟩ := h
  obtain ⟨u, v, rfl, ru, rv⟩ := vals2 r
  cases rv
  exact isinst_ok I ru ty e fun tk => ⟨.bl b, H, I.tok _, rfl, q⟩
end
end L2
set_option Elab.async false
set_option linter.all false
set_option maxRecDepth 100000
namespace L2
open PySem PySem.Spec PyProof.Rows
namespace RevF
end RevF
section
variable {X : Cx}
def z188 (K : PySem.W.Frag) (ts te : TE) : TE := fun σ H Q => ts σ H fun x H1 => ∃ sep : Str, x = .str sep ∧ te σ H1 fun y H2 => ∃ (l : Addr) (ys : List Str), y = .ref l ∧ SqL K H2 l (ys.map V.str) ∧ JoinOk sep ys.reverse = true ∧ Q (.str (Txt.join sep ys.reverse)) H2
end
end L2
set_option Elab.async false
set_option linter.all false
set_option maxRecDepth 100000
namespace L2
open PySem PySem.Spec PyProof.Rows
section
variable {X : Cx}
end
end L2
set_option Elab.async false
set_option linter.all false
set_option maxRecDepth 100000
namespace L2
open PySem PySem.Spec PyProof.Rows
theorem vis_of {X : Cx} {sc : Scope} {x : Str} (h : Vis sc x) (e : X.env.scope = sc := by rfl) : Vis X.env.scope x := e ▸ h
theorem gl_of {X : Cx} {sc : Scope} {x : Str} (h : sc.names.lookup x = some .globalImplicit) (e : X.env.scope = sc := by rfl) : Gl X x := by
  show X.env.scope.names.lookup x = _
  rw [e]
  exact h
theorem loc_of {X : Cx} {sc : Scope} {x : Str} (h : sc.names.lookup x = some .local ∨ sc.names.lookup x = some .cell) (e : X.env.scope = sc := by rfl) : Loc X.env.scope x := e ▸ h
def plainE : Expr → Bool
  | .Starred _ _ => false
  | _ => true
def plainAll : List Expr → Bool
  | [] => true
  | e :: r => plainE e && plainAll r
theorem stp {e : Expr} {es : List Expr} {env : Env} (h : plainE e = true) : starEach (e :: es) env = (false, eval e env) :: starEach es env := by
  cases e <;> first | rfl | cases h
theorem st1 {e : Expr} {env : Env} (h : plainE e = true) : starEach [e] env = [(false, eval e env)] := by
  rw [stp h]; rfl
theorem st2 {e d : Expr} {env : Env} (h : plainE e = true) (h2 : plainE d = true) : starEach [e, d] env = [(false, eval e env), (false, eval d env)] := by
  rw [stp h, st1 h2]
theorem anp {env : Env} {pos : Pos} : ∀ {es : List Expr}, plainAll es = true → (backTo pos (starEach es env)).any (·.1) = false
  | [], _ => rfl
  | e :: r, h => by
    have h' : (plainE e && plainAll r) = true := h
    rw [Bool.and_eq_true] at h'
    rw [stp h'.1]
    show (false || (backTo pos (starEach r env)).any (·.1)) = false
    rw [anp h'.2]
    rfl
end L2
set_option Elab.async false
set_option linter.all false
set_option maxRecDepth 100000
namespace HT
open PySem PyProof.Rows
section
variable {prog : Program} {w : World} {A : Around} {E : Value → Shared → Prop} {s : Shared}
end
end HT
namespace L2
open PySem PySem.Spec PyProof.Rows
section
variable {X : Cx}
def rSlA (K : PySem.W.Frag) : V → Option Int → Option Int → Hp → VK → Prop := fun x lo hi H Q => ∃ a xs, x = .ref a ∧ SqT K H a xs ∧
  ((HT.sIx xs.length 0 lo = 0 ∧ HT.sIx xs.length xs.length hi = xs.length) → Q (.ref a) H) ∧
  (¬ (HT.sIx xs.length 0 lo = 0 ∧ HT.sIx xs.length xs.length hi = xs.length) → ∀ p, H p = none → Q (.ref p) (upd H p (.tup (cutV xs lo hi))))
end
end L2
set_option Elab.async false
set_option linter.all false
set_option maxRecDepth 100000
namespace L2
open PySem PySem.Spec PyProof.Rows
def ForJ (J : It) (g : TG) (tb : TS) (D : Ends) (σ : St) (H1 : Hp) : Prop := ∃ W : Nat → Nat → St → Hp → Prop, (∃ m, W 0 m σ H1) ∧ ∀ i m σ H, W i m σ H →
  (J.stop i H ∧ D.nx σ H) ∨ (J.go i H ∧ ∃ N : St → Hp → Prop, (∀ σ' H', N σ' H' → ∃ m', m' < m ∧ W (i + 1) m' σ' H') ∧ ∀ x H', J.yld i H x H' → g x σ H' fun σ2 H2 => tb { D with nx := N, ct := N, bk := D.nx } σ2 H2)
theorem z269 {wi : TI} {g : TG} {tb : TS} {D : Ends} {σ : St} {H : Hp} : tFor wi g tb D σ H = wi σ H fun J H1 => ForJ J g tb D σ H1 := rfl
theorem zz0 {H : Hp} {p : Addr} {o : HO} (h : H p = none) : Same H (upd H p o) := fun b u e => by rw [upd_ne (ne_of_none e h)]; exact e
theorem z359 {H H1 : Hp} {p : Addr} {o : HO} (h : Same H H1) (hp : H p = none) : Same H (upd H1 p o) := fun b u e => by rw [upd_ne (ne_of_none e hp)]; exact h b u e
theorem z234 {K : PySem.W.Frag} {H : Hp} {a : Addr} {ns : List Int} (h : SqL K H a (ns.map V.int)) : Den K H (.ref a) (.list (ns.map PyData.int)) := .lst h (z356 ns)
theorem z357 : ∀ ns : List Int, PyData.canLayAll0 (ns.map PyData.int) = true
  | [] => rfl
  | n :: r => by simp [PyData.canLayAll0, PyData.canLay0, z357 r]
theorem z418 : ∀ ns : List Int, PyData.depthAll (ns.map PyData.int) = 0
  | [] => rfl
  | n :: r => by simp [PyData.depthAll, PyData.depth, z418 r]
theorem shaped_ints (ns : List Int) : SeqAt.shaped (.list (ns.map PyData.int)) = true := by
  simp [SeqAt.shaped, PyData.canLay0, PyData.depth, z357 ns, z418 ns]
mutual
theorem z575 : ∀ d : PyData, d.canLay0 = true → PyData.eqv d d = true
  | .none, _ => rfl
  | .bool b, _ => by simp [PyData.eqv]
  | .int i, _ => by simp [PyData.eqv]
  | .str x, _ => by simp [PyData.eqv]
  | .list xs, h => by
    have h' : PyData.canLayAll0 xs = true := h
    show PyData.eqvAll xs xs = true
    exact z229 xs h'
  | .tuple xs, h => by
    have h' : PyData.canLayAll0 xs = true := h
    show PyData.eqvAll xs xs = true
    exact z229 xs h'
  | .dict _, h => by cases h
theorem z229 : ∀ ds : List PyData, PyData.canLayAll0 ds = true → PyData.eqvAll ds ds = true
  | [], _ => rfl
  | d :: r, h => by
    have h' : (PyData.canLay0 d && PyData.canLayAll0 r) = true := h
    rw [Bool.and_eq_true] at h'
    show (PyData.eqv d d && PyData.eqvAll r r) = true
    rw [z575 d h'.1, z229 r h'.2]
    rfl
end
end L2
set_option Elab.async false
set_option linter.all false
set_option maxRecDepth 100000
namespace HT
open PySem PyProof.Rows
section
variable {prog : Program} {w : World} {A : Around} {E : Value → Shared → Prop} {s : Shared}
theorem z130 {α β : Type} {f : α → Option β} {g : α → β} : ∀ {l : List α}, (∀ m ∈ l, f m = some (g m)) → l.filterMap f = l.map g
  | [], _ => rfl
  | a :: r, h => by
    rw [List.filterMap_cons, h a List.mem_cons_self, List.map_cons, z130 fun m hm => h m (List.mem_cons_of_mem _ hm)]
end
end HT
namespace L2
open PySem PySem.Spec PyProof.Rows
section
variable {X : Cx} {pos : Pos}
def gTupL (K : PySem.W.Frag) (n : Nat) (t : TGs) : TG := fun v σ H Q => ∃ a xs, v = .ref a ∧ SqL K H a xs ∧ xs.length = n ∧ t xs σ H Q
def tRevT (K : PySem.W.Frag) (te : TE) : TE := fun σ H Q => te σ H fun x H1 => ∃ a xs, x = .ref a ∧ SqT K H1 a xs ∧ ∀ p, H1 p = none → Q (.ref p) (upd H1 p (.tup xs.reverse))
def rRep01 (K : PySem.W.Frag) : R2 := fun x y H Q => ∃ a xs k, x = .ref a ∧ y = .int k ∧ SqT K H a xs ∧ xs ≠ [] ∧ (k = 0 ∨ k = 1) ∧ (k = 1 → Q (.ref a) H) ∧ (k = 0 → ∀ p, H p = none → Q (.ref p) (upd H p (.tup [])))
end
end L2
set_option Elab.async false
set_option linter.all false
set_option maxRecDepth 100000
namespace L2
open PySem PySem.Spec PyProof.Rows
theorem z528 : ∀ {ys : List Str} {us : List Value}, Vals (ys.map V.str) us → StrsAre us ys := by
  intro ys
  induction ys with
  | nil => intro us r; rw [List.map_nil] at r; cases r; exact .nil
  | cons n ns ih =>
    intro us r
    rw [List.map_cons] at r
    cases r with
    | cons r1 r2 =>
      obtain ⟨t, e⟩ := r1
      subst e
      exact .cons n t (ih r2)
section
variable {X : Cx}
def rJoin (K : PySem.W.Frag) : V → List V → Hp → VK → Prop := fun x vs H Q => ∃ (sep : Str) (a : Addr) (ys : List Str), x = .str sep ∧ vs = [.ref a] ∧ SqL K H a (ys.map V.str) ∧ (ys.map (·.length)).sum + ys.length * sep.length ≤ 16777216 ∧ Q (.str (Txt.join sep ys)) H
theorem z669 : MtR X "str.join" (rJoin X.K) := by
  intro pins s σ H x vs v us Q I rx rv h
  obtain ⟨sep, a, ys, rfl, rfl, hq, hok, q⟩ := h
  obtain ⟨t, rfl⟩ := rx
  obtain ⟨u, rfl, ru⟩ := rv.one
  cases ru
  obtain ⟨its, r, pl, hz⟩ := I.list hq
  exact join_list pl.isList (z528 (by simpa using r)) hok fun t' k => ⟨.str (Txt.join sep ys), H, I.tok _, ⟨t', rfl⟩, q⟩
def tLRng2 (ta : TA) : TE := fun σ H Q => ta σ H fun vs H1 => ∃ i j : Int, vs = [.int i, .int j] ∧ (-(2 ^ 62) ≤ i ∧ i < 2 ^ 62 ∧ -(2 ^ 62) ≤ j ∧ j < 2 ^ 62) ∧ (j - i).toNat ≤ 1000000 ∧ ∀ p, H1 p = none → Q (.ref p) (upd H1 p (.lst ((List.range (j - i).toNat).map fun k => V.int (i + (k : Nat)))))
end
end L2
set_option Elab.async false
set_option linter.all false
set_option maxRecDepth 100000
namespace L2
open PySem PySem.Spec PyProof.Rows
section
variable {X : Cx} {K : PySem.W.Frag}
theorem z700 {e : Expr} {f : Str} {pos : Pos} {ta : TE} (hK : X.K = K) (he : PE X e ta) (hb : attributeBase e f X.env (eval e X.env) = eval e X.env) : PE X (.Attribute e f pos) (tFld K ta f) := by
  subst hK
  exact pe_fld he hb
theorem z690 (hK : X.K = K) : IxR X (rIxL K) := by subst hK; exact ix_list
theorem z582 (hK : X.K = K) : IxR X (rIxT K) := by subst hK; exact ix_tup
theorem z382 (hK : X.K = K) : CallR X (.builtin "len") (fun xs H Q => ∃ p ys, xs = [.ref p] ∧ (SqL K H p ys ∨ SqT K H p ys) ∧ Q (.int ys.length) H) := by subst hK; exact call_len_seq
end
theorem z363 {K : PySem.W.Frag} {a : Addr} {H : Hp} {xs : List V} {tt : TT} {te : TE} {cs : St} {F : List V → Hp → Prop} (Pv : Nat → List V → Hp → Prop) (h0 : Pv 0 [] H) (hl : ∀ i ys H, i ≤ xs.length → Pv i ys H → SqL K H a xs)
    (hs : ∀ i x ys H, xs[i]? = some x → Pv i ys H → tt (some x :: cs) H fun b H3 => if b = true then te (some x :: cs) H3 fun y H4 => ys.length ≤ sizeLine ∧ Pv (i + 1) (ys ++ [y]) H4 else Pv (i + 1) ys H3)
    (hd : ∀ ys H, Pv xs.length ys H → ys.length ≤ sizeLine ∧ F ys H) :
    ∃ W : Nat → Nat → List V → Hp → Prop, (∃ m, W 0 m [] H) ∧ CompW (Itl K a) (gName 0) tt te (none :: cs) W F := by
  refine ⟨fun i m ys H' => m = xs.length - i ∧ i ≤ xs.length ∧ Pv i ys H', ⟨xs.length, by simp, Nat.zero_le _, h0⟩, ?_⟩
  rintro i m ys H' ⟨rfl, hi, p⟩
  have q := hl i ys H' hi p
  have S := src_list q
  by_cases hlt : i < xs.length
  · refine .inr ⟨S.go i hlt, fun ys' H'' => Pv (i + 1) ys' H'', fun ys' H'' p' => ⟨xs.length - (i + 1), by omega, rfl, hlt, p'⟩, fun x H'' y => ?_⟩
    obtain ⟨e1, e2⟩ := S.yld i x H'' hlt y
    subst e1
    refine ⟨⟨rfl, fun j v hj => ?_⟩, ?_⟩
    · cases j with
      | zero => cases hj
      | succ j => exact hj
    · exact hs i x ys H'' e2 p
  · have e : i = xs.length := by omega
    subst e
    exact .inl ⟨S.stop, hd ys H' p⟩
end L2
set_option Elab.async false
set_option linter.all false
set_option maxRecDepth 100000
namespace L2
open PySem PyProof.Rows PySem.Calls
section
variable {M : Model} {A : Around} {E : Value → Shared → Prop} {s : Shared} {B : Heap} {env : Env} {outer l : List Env} {L e : Addr} {cls : Value} {dx : Option Addr} {Q : Unit → Shared → Prop}
end
end L2
set_option Elab.async false
set_option linter.all false
set_option maxRecDepth 100000
namespace L2
open PySem PySem.Spec PyProof.Rows
theorem ObjOk.some {P : Program} {w : World} {H : Hp} {h : Heap} {a : Addr} {o : HO} (x : ObjOk P w H h a o) : ∃ u, h.get? a = some u := by
  cases o with
  | lst xs => obtain ⟨_, _, _, _, e⟩ := x; exact ⟨_, e⟩
  | tup xs => obtain ⟨_, _, _, o, e, _⟩ := x; exact ⟨_, e⟩
  | dK kvs => obtain ⟨_, _, _, _, o, _, _, e, _⟩ := x; exact ⟨_, e⟩
  | dT kvs => obtain ⟨_, _, _, _, o, _, _, e, _⟩ := x; exact ⟨_, e⟩
  | set S n => obtain ⟨o, _, _, _, e, _⟩ := x; exact ⟨_, e⟩
  | ins C dx fs => obtain ⟨_, _, _, e, _⟩ := x; exact ⟨_, e⟩
  | own y => exact x
  | xd fs => obtain ⟨_, ⟨_, _, _, e, _⟩, _⟩ := x; exact ⟨_, e⟩
  | rng lo hi => obtain ⟨_, _, _, e⟩ := x; exact ⟨_, e⟩
  | frz ob u => obtain ⟨e, _⟩ := x; exact ⟨_, e⟩
  | tbl ps => exact ⟨_, x⟩
  | met f y => exact ⟨_, x⟩
  | ext φ => obtain ⟨_, e, _⟩ := x; exact e
structure UnB (fs : List Addr) (H H' : Hp) (h B : Heap) : Prop where
  keep : ∀ b o, h.get? b = some o → H b = none → b ∉ fs → B.get? b = some o
  free : ∀ b o, h.get? b = some o → H b = none → H' b = none
  there : ∀ b o, h.get? b = some o → b ∉ fs → ∃ o', B.get? b = some o'
  tups : ∀ b xs, H b = some (.tup xs) → H' b = some (.tup xs)
  frzs : ∀ b o u, H b = some (.frz o u) → H' b = some (.frz o u)
  tbls : ∀ b ps, H b = some (.tbl ps) → ∃ more, H' b = some (.tbl (ps ++ more))
theorem UnB.un {fs : List Addr} {H H' : Hp} {h B h3 : Heap} (u : UnB fs H H' h B) (st : B.StaysIn h3) (sl : ∀ b o, b ∈ fs → h.get? b = some o → ∃ sl, h3.get? b = some { o with slots := sl }) : Un fs [] H H' h h3 where
  keep := fun b o e n hb _ => st _ _ (u.keep b o e n hb)
  slot := fun b o e n hb _ => sl b o hb e
  free := fun b o e n _ => u.free b o e n
  there := fun b o e _ => by
    by_cases hb : b ∈ fs
    · obtain ⟨_, z⟩ := sl b o hb e
      exact ⟨_, z⟩
    · obtain ⟨o', z⟩ := u.there b o e hb
      exact ⟨o', st _ _ z⟩
  tups := u.tups
  frzs := u.frzs
  tbls := u.tbls
abbrev WXT := St → XK
def noW : WXT := fun _ _ _ _ => False
section
variable {P : Program} {w : World} {K : PySem.W.Frag} {mg : Str → Option Value} {base : Heap} {N : List Str} {qual : Str} {scope : Scope} {f : Addr} {cd : Value} {A : Around} {outer : List Env} {s₀ : Shared} {H₀ : Hp} {E : XK}
end
def tCallX (sp : Sp) (dvs : List V) (WX : WXT) (t : TA) : TE := fun σ H Q => t σ H fun vs H1 => sp (vs ++ dvs) H1 Q (WX σ)
def tMethX (C : Addr) (m : Str) (sp : Sp) (dvs : List V) (WX : WXT) (ta : TE) (t : TA) : TE := fun σ H Q => ta σ H fun x H1 => ∃ a dx fs, x = .ref a ∧ H1 a = some (.ins C dx fs) ∧ fs.lookup m = none ∧ t σ H1 fun vs H2 => sp (x :: (vs ++ dvs)) H2 Q (WX σ)
def tMakeX (C : Addr) (sp : Sp) (dvs : List V) (WX : WXT) (t : TA) : TE := fun σ H Q => t σ H fun vs H1 => ∀ x dx, H1 x = none → H1 dx = none → dx ≠ x →
  sp (.ref x :: (vs ++ dvs)) (upd (upd H1 dx (.own x)) x (.ins C dx [])) (fun v H2 => v = .non ∧ Q (.ref x) H2) (WX σ)
section
variable {X : Cx} {k : Nat} {f C : Addr} {fd : FuncData} {ps : List Str} {sp : Sp} {dvs : List V} {ds : List Value} {WX : WXT} {x m : Str} {p pos apos : Pos} {e o : Expr} {es : List Expr} {ta : TE} {t : TA}
def tRaise (WX : WXT) (C : Addr) (t : TA) : TS := fun D σ H => t σ H fun vs H1 => vs.length ≤ sizeLine ∧ WX σ (.ref C) none H1
end
end L2
set_option Elab.async false
set_option linter.all false
set_option maxRecDepth 100000
namespace L2
open PySem PySem.Spec PyProof.Rows
section
variable {X : Cx} {pins pins' : List (Addr × Obj)} {σ : St} {H : Hp} {s : Shared} {E : Value → Shared → Prop} {ea : Addr} {ob : Obj}
end
section
variable {X : Cx} {x n : Str} {C : Addr} {body : List Stmt} {b₀ : Stmt} {suite : List Stmt} {np pos hpos : Pos} {tb : WXT → TS} {th : Addr → Addr → Option Addr → TS}
end
end L2
set_option Elab.async false
set_option linter.all false
set_option maxRecDepth 100000
namespace L2
open PySem PySem.Spec PyProof.Rows
structure RoomM (k : Nat) (A : Around) : Prop where
  dp : A.depth + 3 * k + 5 < recursionLimit
  un : A.units + 16 * k + 200 < cLine
theorem Room.m {k : Nat} {A : Around} {e : Option Value} (r : Room k A) : RoomM k (A.mark e) := ⟨r.dp, r.un⟩
theorem RoomM.mono {j k : Nat} {A : Around} (r : RoomM k A) (h : j ≤ k) : RoomM j A := ⟨by have := r.dp; omega, by have := r.un; omega⟩
theorem RoomM.deeper {k : Nat} {A : Around} (r : RoomM (k + 1) A) (env : Env) : RoomM k (A.deeper env) :=
  ⟨by have := r.dp; show A.depth + 1 + 3 * k + 5 < _; omega, by have := r.un; show A.units + 3 + 16 * k + 200 < _; omega⟩
theorem RoomM.depth {k : Nat} {A : Around} (r : RoomM k A) : A.depth < recursionLimit := by have := r.dp; omega
theorem RoomM.units {k : Nat} {A : Around} (r : RoomM k A) : A.units + 64 < cLine := by have := r.un; omega
theorem RoomM.units0 {k : Nat} {A : Around} (r : RoomM k A) : A.units < cLine := by have := r.un; omega
section
variable {P : Program} {w : World} {K : PySem.W.Frag} {mg : Str → Option Value} {base : Heap} {x qual : Str} {st : Stmt} {f : Addr} {fd : FuncData} {N ps : List Str} {k : Nat} {sp : Sp}
end
section
variable {X : Cx} {k : Nat} {f C : Addr} {fd : FuncData} {ps : List Str} {sp : Sp} {ea : Addr} {ob : Obj} {x m : Str} {p pos apos : Pos} {e o : Expr} {es : List Expr} {ta : TE} {t : TA}
end
end L2
set_option Elab.async false
set_option linter.all false
set_option maxRecDepth 100000
namespace L2
open PySem PySem.Spec PyProof.Rows PySem.W
section
variable {prog : Program} {w : World} {A : Around} {E : Value → Shared → Prop} {s : Shared} {K : Frag} {x D : Addr} {ox : Obj} {od : Option Obj} {name : Str}
end
section
variable {X : Cx} {ea C : Addr} {dx : Option Addr} {ob : Obj}
end
end L2
set_option Elab.async false
set_option linter.all false
set_option maxRecDepth 100000
namespace L2
open PySem PySem.Spec PyProof.Rows PySem.Builtin PySem.Builtin.Str PySem.Builtin.Int
structure FunD (K : PySem.W.Frag) (x qual : Str) (st : Stmt) (f : Addr) (fd : FuncData) (items : Array Value) : Prop where
  ex : ∃ (oc : Value) (od : Option Addr) (kV doc pm : Value) (an : Option Addr) (cdv ct : Value) (osl : Array (Option Value)) (T : Addr) (oT : Obj) (n : Nat),
    fd = PySem.W.fnOf x qual (defArgs st) (defBody st) (defScope st) (.ref T) kV doc pm an cdv ct ∧ K.lookup f = some ⟨oc, od, .func fd, osl⟩ ∧ PySem.W.codeIn K cdv qual = true ∧ K.lookup T = some oT ∧ oT.data = .seq items n
  kp : PySem.W.keepIn K (.ref f) = true
section
variable {P : Program} {w : World} {K : PySem.W.Frag} {mg : Str → Option Value} {base : Heap} {x qual : Str} {st : Stmt} {f : Addr} {fd : FuncData} {items : Array Value} {N ps : List Str} {k : Nat} {sp : Sp}
theorem FunD.ok (F : FunD K x qual st f fd items) (S : FnScope N ps (defScope st)) (len : ∀ vs H Q E, sp vs H Q E → vs.length = ps.length)
    (hbody : ∀ (cdv : Value) (A : Around) (outer : List Env) (s : Shared) (H : Hp) (vs : List V) (Q : VK) (E : XK), Room k (A.deeper (envOfC qual (defScope st) s.heap.objs.size f cdv)) → sp vs H Q E →
      ∃ t, PSs (cxOf CX0 P w K mg base N qual (defScope st) f cdv A outer s H E).nox (defBody st) t ∧ t { nx := fun _ H' => Q .non H', rt := Q } (start N vs) H) : FnOk P w K mg base CX0 (k + 1) f fd ps sp := by
  obtain ⟨oc, od, kV, doc, pm, an, cdv, ct, osl, T, oT, n, rfl, lk, hcd, _⟩ := F.ex
  refine fn_of lk hcd S len fun A outer s H vs Q E hr hsp => ?_
  obtain ⟨t, h, q⟩ := hbody cdv A outer s H vs Q E hr hsp
  exact ⟨t, h.nox, q⟩
theorem FunD.binds {ds : List Value} (F : FunD K x qual st f fd items)
    (h : ∀ (T : Addr) (kV doc pm : Value) (an : Option Addr) (cdv ct : Value) (us : List Value), (us ++ ds).length = ps.length → ∃ k : Option (Array Value) → Sem (List (Str × Value)),
      bindArgs (PySem.W.fnOf x qual (defArgs st) (defBody st) (defScope st) (.ref T) kV doc pm an cdv ct) ⟨us, []⟩ = (seqItems? (.ref T) >>= k) ∧ k (some items) = pure (ps.zip (us ++ ds))) : Binds K fd ps ds := by
  obtain ⟨oc, od, kV, doc, pm, an, cdv, ct, osl, T, oT, n, rfl, lk, hcd, hT, hd⟩ := F.ex
  intro s us KX hl
  obtain ⟨k, h1, h2⟩ := h T kV doc pm an cdv ct us hl
  exact .of_defaults (k := k) rfl (KX _ _ hT) hd h1 h2
theorem z712 {oc : Value} {od an : Option Addr} {osl sT : Array (Option Value)} {kV doc pm cdv ct cT : Value} {T : Addr} {dT : Option Addr} {n : Nat} (l : K.lookup f = some ⟨oc, od, .func (PySem.W.fnOf x qual (defArgs st) (defBody st) (defScope st) (.ref T) kV doc pm an cdv ct), osl⟩)
    (c : PySem.W.codeIn K cdv qual = true) (k : PySem.W.keepIn K (.ref f) = true) (t : K.lookup T = some ⟨cT, dT, .seq items n, sT⟩) : FunD K x qual st f (PySem.W.fnOf x qual (defArgs st) (defBody st) (defScope st) (.ref T) kV doc pm an cdv ct) items :=
  ⟨⟨oc, od, kV, doc, pm, an, cdv, ct, osl, T, _, n, rfl, l, c, t, rfl⟩, k⟩
end
structure Disp (X : Cx) (m : Str) (k : Nat) (ps : List Str) (e : Addr × Sp) : Prop where
  cl : Cls X.K e.1
  ex : ∃ f fd, Meth X.K e.1 m f ∧ FnOk X.prog X.w X.K X.mg X.base CX0 k f fd ps e.2 ∧ Binds X.K fd ps []
theorem z189 {X : Cx} {m : Str} {k : Nat} {ps : List Str} : ∀ e ∈ ([] : List (Addr × Sp)), Disp X m k ps e := fun e h => nomatch h
theorem z5 {X : Cx} {m : Str} {k j : Nat} {ps : List Str} {C f : Addr} {fd : FuncData} {sp : Sp} {tab : List (Addr × Sp)} (cl : Cls X.K C) (hm : Meth X.K C m f) (F : FnOk X.prog X.w X.K X.mg X.base CX0 j f fd ps sp) (hj : j ≤ k) (hb : Binds X.K fd ps []) (r : ∀ e ∈ tab, Disp X m k ps e) : ∀ e ∈ (C, sp) :: tab, Disp X m k ps e :=
  fun e h => (List.mem_cons.mp h).elim (fun z => by rw [z]; exact ⟨cl, f, fd, hm, F.mono hj, hb⟩) (r e)
def tMethV (tab : List (Addr × Sp)) (m : Str) (ta : TE) (t : TA) : TE := fun σ H Q => ta σ H fun x H1 => ∃ a dx fs e, e ∈ tab ∧ x = .ref a ∧ H1 a = some (.ins e.1 dx fs) ∧ fs.lookup m = none ∧ t σ H1 fun vs H2 => e.2 (x :: vs) H2 Q E0
section
variable {X : Cx} {k : Nat} {ps : List Str} {tab : List (Addr × Sp)} {m : Str} {pos apos : Pos} {e o : Expr} {es : List Expr} {ta : TE} {t : TA}
theorem z194 {pl : Sem Bool} (he : PE X o ta) (D : ∀ e ∈ tab, Disp X m k ps e) (hr : Room k X.A) (ha : PA X (e :: es) t)
    (hst : starEach (e :: es) X.env = (false, eval e X.env) :: starEach es X.env := by rfl) (hpl : (backTo pos (starEach es X.env)).any (·.1) = false := by rfl)
    (ht : eval (.Call (.Attribute o m apos) (e :: es) [] pos) X.env = (eval o X.env >>= fun ov => standAt apos.atName >>= fun _ => holding [ov] (getMethod ov m pl) >>= fun r => callWith pos r.1 r.2 (backTo pos (starEach (e :: es) X.env)) (backToKw pos (keywordEach [] X.env))) := by rfl) :
    PE X (.Call (.Attribute o m apos) (e :: es) [] pos) (tMethV tab m ta t) := by
  intro pins s σ H Q I h
  refine PySem.W.methodCall_KW (pl := pl) (thn (he pins s σ H _ I h) fun u s1 ⟨x, H1, I1, rx, a, dx, fs, C, hC, ex, ea, l, q⟩ => ?_) ht
  subst ex
  cases (show u = Value.ref a from rx)
  obtain ⟨c, f, fd, hm, F, hb⟩ := D C hC
  refine getmeth_ok I1 ea c hm l ?_
  exact PySem.W.callWith_K (first := [.ref a]) (h₀ := X.base) I.ok.mod.kin hm.kp (thn (ha pos pins s1 σ H1 _ I1 q) fun us s2 ⟨vs, H2, I2, r, q2⟩ => ⟨I2.kIn, run_fn (us := .ref a :: us) (vs := .ref a :: vs) (dvs := []) (ds := []) F hr hb .nil pass0 I2 (.cons rfl r) (by simpa only [List.append_nil] using q2)⟩) hst hpl
end
theorem z678 {X : Cx} {K : PySem.W.Frag} {scope : Scope} {cl : List (Str × Addr)} {a b : Str} {N : List Str} {C : Addr} {ex : List Addr} {s₀ : Shared} {H₀ : Hp} {k} {pa pb pos : Pos} (hK : X.K = K) (hc : Calm X) (hN : (a :: b :: N).Nodup) (la : Loc (compEnvC scope cl C X.env).scope a) (lb : Loc (compEnvC scope cl C X.env).scope b)
    (fa : (compEnvC scope cl C X.env).scope.names.lookup a = some .local) (fb : (compEnvC scope cl C X.env).scope.names.lookup b = some .local) :
    PG (cxComp X scope cl (a :: b :: N) C ex s₀ H₀) (.Tuple [.Name a pa, .Name b pb] k pos) (gTup K 2 (gCons (gName 0) (gCons (gName 1) gNil))) := by
  subst hK
  exact pg_tup (X := cxComp X scope cl (a :: b :: N) C ex s₀ H₀) (n := 2) (z364 hc) (pgs_cons (pg_name (i := 0) hN rfl la (.inr fa)) (pgs_cons (pg_name (i := 1) hN rfl lb (.inr fb)) pgs_nil))
theorem z519 {K : PySem.W.Frag} {J : It} {H : Hp} {ts : List Addr} {u v : Addr → V} {tt : TT} {te : TE} {cs : St} {F : List V → Hp → Prop} (S : SrcIs J H (ts.map V.ref)) (ht : ∀ t ∈ ts, SqT K H t [u t, v t]) (p : Addr → Bool) (f : Addr → V)
    (htt : ∀ t ∈ ts, ∀ Q : Bool → Hp → Prop, Q (p t) H → tt (some (u t) :: some (v t) :: cs) H Q) (hte : ∀ t ∈ ts, p t = true → ∀ Q : VK, Q (f t) H → te (some (u t) :: some (v t) :: cs) H Q) (hn : ts.length ≤ sizeLine) (hF : F ((ts.filter p).map f) H) :
    ∃ W : Nat → Nat → List V → Hp → Prop, (∃ m, W 0 m [] H) ∧ CompW J (gTup K 2 (gCons (gName 0) (gCons (gName 1) gNil))) tt te (none :: none :: cs) W F := by
  refine ⟨fun i m ys H' => m = ts.length - i ∧ i ≤ ts.length ∧ H' = H ∧ ys = ((ts.take i).filter p).map f, ⟨ts.length, by simp, Nat.zero_le _, rfl, by simp⟩, ?_⟩
  rintro i m ys H' ⟨rfl, hi, rfl, rfl⟩
  have hlen : (((ts.take i).filter p).map f).length ≤ sizeLine := by
    rw [List.length_map]
    refine Nat.le_trans (List.length_filter_le _ _) ?_
    rw [List.length_take]
    omega
  by_cases hlt : i < ts.length
  · refine .inr ⟨S.go i (by rw [List.length_map]; exact hlt), fun ys' H'' => H'' = H' ∧ ys' = ((ts.take (i + 1)).filter p).map f, fun ys' H'' h => ⟨ts.length - (i + 1), by omega, rfl, hlt, h.1, h.2⟩, fun x H'' y => ?_⟩
    obtain ⟨rfl, hx⟩ := S.yld i x H'' (by rw [List.length_map]; exact hlt) y
    rw [List.getElem?_map] at hx
    obtain ⟨t, e, rfl⟩ := Option.map_eq_some_iff.mp hx
    have hm : t ∈ ts := List.mem_of_getElem? e
    have htk : ts.take (i + 1) = ts.take i ++ [t] := by
      rw [List.take_add_one, e]; rfl
    refine ⟨t, [u t, v t], rfl, ht t hm, rfl, u t, [v t], rfl, v t, [], rfl, rfl, ⟨by simp, fun j z hz => ?_⟩, ?_⟩
    · match j, hz with
      | 0, hz => cases hz
      | 1, hz => cases hz
      | (j + 2), hz => exact hz
    · refine htt t hm _ ?_
      cases hp : p t with
      | true =>
        rw [if_pos rfl]
        refine hte t hm hp _ ⟨hlen, rfl, ?_⟩
        rw [htk, List.filter_append, List.map_append]
        simp [hp]
      | false =>
        rw [if_neg (by decide)]
        refine ⟨rfl, ?_⟩
        rw [htk, List.filter_append, List.map_append]
        simp [hp]
  · have e : i = ts.length := by omega
    subst e
    refine .inl ⟨by have := S.stop; rw [List.length_map] at this; exact this, hlen, ?_⟩
    rw [List.take_length]
    exact hF
theorem hu1 {n : Nat} (h : n + 64 < cLine) : n + 1 < cLine := by omega
end L2
set_option Elab.async false
set_option linter.all false
set_option maxRecDepth 100000
namespace L2
open PySem PySem.Spec PyProof.Rows
section
variable {prog : Program} {w : World} {K : Type} [DecidableEq K] {knd : HeapKind prog w K} {A : Around} {E : Value → Shared → Prop} {s : Shared}
end
section
variable {prog : Program} {w : World} {K : Type} [DecidableEq K] {knd : HeapKind prog w K} {A : Around} {E : Value → Shared → Prop} {s : Shared}
end
theorem Paired.at1 {α β : Type} {R : α → β → Prop} : ∀ {l : List α} {m : List β}, Paired R l m → ∀ {j : Nat} {a : α}, l[j]? = some a → ∃ b, m[j]? = some b ∧ R a b
  | _, _, .cons h r, 0, _, e => by cases e; exact ⟨_, rfl, h⟩
  | _, _, .cons h r, j + 1, _, e => by
    rw [List.getElem?_cons_succ] at e
    obtain ⟨b, e1, e2⟩ := Paired.at1 r e
    exact ⟨b, by rw [List.getElem?_cons_succ]; exact e1, e2⟩
section
variable {prog : Program} {w : World} {A : Around} {E : Value → Shared → Prop} {s : Shared}
theorem z467 {d : Addr} {od : Obj} {es : Array DictEntry} {ep : Nat} {Q : Value → Shared → Prop} (hd : (d == sysModules) = false) (ho : s.heap.get? d = some od) (hc : od.ExactDict) (hdat : od.data = .dict es ep)
    (hQ : Q (.ref s.heap.objs.size) { s with heap := s.heap.push { cls := .type "dict_keyiterator", data := .fields #[.ref d, .int 0 0, .int es.size 0, .int ep 0] } }) :
    wpAny (model prog w) A (pyIter (.ref d)) Q E s := by
  have hT : s.TypeIs (.ref d) "dict" := ⟨od, ho, hc.1⟩
  refine wpAny_pyIter_slot hT F.slot_dict_iter (wpAny_call_entry F.slot_dict_iter hT F.entry_dict_iter ?_ (F.args_dict_iter_1 _))
  unfold Builtin.«dict.__iter__»
  refine wpAny_bind ?_
  unfold Builtin.Dict.dictSlotNone
  refine wpAny_bind (wpAny_notOrdered_dict hT ?_)
  show wpAny _ _ (pure (Value.ref d)) _ _ s
  refine wpAny_pure ?_
  show wpAny _ _ (Builtin.Dict.showsAll d >>= _) _ _ s
  unfold Builtin.Dict.showsAll
  rw [if_neg (by rw [hd]; exact Bool.false_ne_true)]
  refine wpAny_bind (wpAny_pure ?_)
  refine wpAny_bind (wpAny_dictEntries ho hdat ?_)
  refine wpAny_bind (wpAny_dictEpoch ho hdat ?_)
  refine wpAny_bind (wpAny_newObj_type (wpAny_pure ⟨_, rfl, "dict_keyiterator", _, ⟨_, Heap.get?_push_size _ rfl, rfl⟩, F.slot_dict_keyiterator_next.lookup, ?_⟩))
  simpa [rawInt] using hQ
theorem z646 {it d : Addr} {i ep : Nat} {od : Obj} {es : Array DictEntry} {e : DictEntry} {Q : Option Value → Shared → Prop} (hit : s.heap.IsKeyIter it d i es.size ep) (hod : s.heap.get? d = some od) (hdd : od.data = .dict es ep)
    (hx : es[i]? = some e) (hQ : ∀ h', h'.IsKeyIter it d (i + 1) es.size ep → Heap.SameBut it s.heap h' → Q (some e.key) { s with heap := h' }) :
    wpAny (model prog w) A (pyNext (.ref it)) Q E s := by
  obtain ⟨o, ho, hc, hd⟩ := id hit
  unfold pyNext
  refine wpAny_bind (wpAny_attempt (wpAny_callSpecial?_slot (name := Str.ofString "__next__") hit.typeIs F.slot_dict_keyiterator_next
    (wpAny_call_entry F.slot_dict_keyiterator_next hit.typeIs F.entry_dict_keyiterator_next ?_ (F.args_dict_keyiterator_next_1 _))))
  refine wpAny_bind (wpAny_pure ?_)
  refine wpAny_bind ?_
  refine wpAny_bind ?_
  first | refine wpAny_bind (wpAny_typeNameOfWhole_keyiter hit.typeIs (wpAny_pure ?_)) | refine wpAny_bind (wpAny_typeNameOf_keyiter hit.typeIs (wpAny_pure ?_))
  refine wpAny_bind (wpAny_fieldsOf ho hd ?_)
  have hown : Builtin.Dict_items.ownsTuple "dict_keyiterator" = false := by decide
  simp only [hown, Bool.false_eq_true, if_false]
  show wpAny _ _ (if (Value.ref d == Value.none) = true then _ else _) _ _ s
  rw [if_neg (show ¬ ((Value.ref d == Value.none) = true) from Bool.false_ne_true)]
  refine wpAny_bind (wpAny_pure ?_)
  refine wpAny_bind (wpAny_dictEntries hod hdd ?_)
  rw [if_neg (by simp)]
  refine wpAny_bind (wpAny_pure ?_)
  refine wpAny_bind (wpAny_dictEpoch hod hdd ?_)
  rw [if_neg (by simp)]
  refine wpAny_pure ?_
  simp only [show ¬ ((i : Int) < 0) from by omega, if_false, Int.toNat_natCast, hx]
  refine wpAny_bind ?_
  first | refine wpAny_bind (wpAny_typeNameOfWhole_keyiter hit.typeIs (wpAny_pure ?_)) | refine wpAny_bind (wpAny_typeNameOf_keyiter hit.typeIs (wpAny_pure ?_))
  refine wpAny_bind (wpAny_isOneOf_keyiter hit.typeIs ?_)
  show wpAny _ _ (setField (.ref it) 1 (rawInt ((i : Int) + 1)) >>= _) _ _ s
  refine wpAny_bind (wpAny_setField ho hd (by simp) ?_)
  have hit' : (s.heap.update it (Obj.mapFields (·.setIfInBounds 1 (rawInt ((i : Int) + 1))))).IsKeyIter it d (i + 1) es.size ep :=
    ⟨_, Heap.get?_update_self _ ho (Obj.isFreed_of_fields (Obj.data_mapFields hd _)), (Obj.cls_mapFields ..).trans hc, by rw [Obj.data_mapFields hd]; simp [rawInt]⟩
  refine wpAny_bind (wpAny_holding ?_)
  refine wpAny_bind (wpAny_isOneOf_keyiter (s := { s with heap := s.heap.update it (Obj.mapFields (·.setIfInBounds 1 (rawInt ((i : Int) + 1)))) }) hit'.typeIs ?_)
  show wpAny _ _ (pure e.key) _ _ _
  exact wpAny_pure (wpAny_pure ⟨_, rfl, wpAny_pure (hQ _ hit' (Heap.SameBut.update ..))⟩)
theorem z680 {it d : Addr} {i ep : Nat} {od : Obj} {es : Array DictEntry} {Q : Option Value → Shared → Prop} (hh : Hd A s.heap) (hit : s.heap.IsKeyIter it d i es.size ep) (hod : s.heap.get? d = some od) (hdd : od.data = .dict es ep)
    (hge : es.size ≤ i) (hQ : ∀ h', Heap.ExtBut it s.heap h' → Q none { s with heap := h' }) : wpAny (model prog w) A (pyNext (.ref it)) Q E s := by
  obtain ⟨o, ho, hc, hd⟩ := id hit
  unfold pyNext
  refine wpAny_bind (wpAny_attempt (wpAny_callSpecial?_slot (name := Str.ofString "__next__") hit.typeIs F.slot_dict_keyiterator_next
    (wpAny_call_entry F.slot_dict_keyiterator_next hit.typeIs F.entry_dict_keyiterator_next ?_ (F.args_dict_keyiterator_next_1 _))))
  refine wpAny_bind (wpAny_pure ?_)
  refine wpAny_bind ?_
  refine wpAny_bind ?_
  first | refine wpAny_bind (wpAny_typeNameOfWhole_keyiter hit.typeIs (wpAny_pure ?_)) | refine wpAny_bind (wpAny_typeNameOf_keyiter hit.typeIs (wpAny_pure ?_))
  refine wpAny_bind (wpAny_fieldsOf ho hd ?_)
  have hown : Builtin.Dict_items.ownsTuple "dict_keyiterator" = false := by decide
  simp only [hown, Bool.false_eq_true, if_false]
  show wpAny _ _ (if (Value.ref d == Value.none) = true then _ else _) _ _ s
  rw [if_neg (show ¬ ((Value.ref d == Value.none) = true) from Bool.false_ne_true)]
  refine wpAny_bind (wpAny_pure ?_)
  refine wpAny_bind (wpAny_dictEntries hod hdd ?_)
  rw [if_neg (by simp)]
  refine wpAny_bind (wpAny_pure ?_)
  refine wpAny_bind (wpAny_dictEpoch hod hdd ?_)
  rw [if_neg (by simp)]
  refine wpAny_pure ?_
  simp only [show ¬ ((i : Int) < 0) from by omega, if_false, Int.toNat_natCast, Array.getElem?_eq_none hge]
  refine wpAny_bind ?_
  first | refine wpAny_bind (wpAny_typeNameOfWhole_keyiter hit.typeIs (wpAny_pure ?_)) | refine wpAny_bind (wpAny_typeNameOf_keyiter hit.typeIs (wpAny_pure ?_))
  show wpAny _ _ (setField (.ref it) 0 .none >>= _) _ _ s
  refine wpAny_bind (wpAny_setField ho hd (by simp) ?_)
  refine z156 (hh.update (A := A) ho hc _) fun h' e k1 k2 => z151 k2 (hQ h' fun b o hb z => k1 b o ?_)
  rw [Heap.get?_update_other _ _ (Ne.symm hb)]
  exact z
end
section
variable {X : Cx} {pins : List (Addr × Obj)} {σ : St} {H : Hp} {s : Shared} {a : Addr}
theorem Inv.re {u v : HO} (I : Inv X pins σ H s) (e : H a = some u) (nt : ∀ xs, u ≠ .tup xs) (no : ∀ y, u ≠ .own y) (nb : ∀ ps, u ≠ .tbl ps) (nf : ∀ o w, X.H₀ a ≠ some (.frz o w)) (new : ObjOk X.prog X.w (upd H a v) s.heap a v) : Inv X pins σ (upd H a v) s := by
  have ne : ∀ {b : Addr}, H b = none → b ≠ a := fun {b} h z => by rw [z, e] at h; cases h
  refine ⟨I.ok, I.os, I.bare, ⟨I.base.keep, I.base.slot, fun b o q n hx => ?_, I.base.there, fun b xs q => ?_, fun b o w q => ?_, fun b ps q => ?_⟩, I.loc, I.cell, ?_, fun x c h => ?_, fun p hp => ?_, fun b o q => ?_, I.len⟩
  · have z := I.base.free b o q n hx
    rw [upd_ne (ne z)]
    exact z
  · have z := I.base.tups b xs q
    rw [upd_ne (fun h => by rw [h, e] at z; exact nt xs (Option.some.inj z))]
    exact z
  · have z := I.base.frzs b o w q
    rw [upd_ne (fun h => by rw [h] at q; exact nf o w q)]
    exact z
  · obtain ⟨more, z⟩ := I.base.tbls b ps q
    exact ⟨more, by rw [upd_ne (fun h => by rw [h, e] at z; exact nb _ (Option.some.inj z))]; exact z⟩
  · rw [upd_ne (ne I.free)]
    exact I.free
  · rw [upd_ne (ne (I.freeC x c h))]
    exact I.freeC x c h
  · obtain ⟨z1, z2, z3⟩ := I.pin p hp
    exact ⟨z1, by rw [upd_ne (ne z2)]; exact z2, z3⟩
  · by_cases hb : b = a
    · subst hb
      rw [upd_same] at q
      cases q
      exact new
    · rw [upd_ne hb] at q
      refine (I.hok b o q).stay (fun _ _ _ z => z) (fun c z => ?_) fun c xs z => ?_
      · rw [upd_ne (fun h => by rw [h, e] at z; exact no _ (Option.some.inj z))]
        exact z
      · rw [upd_ne (fun h => by rw [h, e] at z; exact nt _ (Option.some.inj z))]
        exact z
end
section
variable {prog : Program} {w : World} {d : Addr}
end
theorem hu65 {k : Nat} {A : Around} (r : Room k A) : A.units + 64 + 1 < cLine := by have := r.un; omega
end L2
set_option Elab.async false
set_option linter.all false
set_option maxRecDepth 100000
namespace L2
open PySem PySem.Spec PyProof.Rows
theorem ints_of : ∀ {ns : List Int} {us : List Value}, Vals (ns.map V.int) us → ∃ xs : List (Int × Tok), us = xs.map (fun p => Value.int p.1 p.2) ∧ xs.map (·.1) = ns
  | [], _, r => by rw [List.map_nil] at r; cases r; exact ⟨[], rfl, rfl⟩
  | n :: ns, _, r => by
    rw [List.map_cons] at r
    cases r with
    | cons h t =>
      obtain ⟨u, rfl⟩ := h
      obtain ⟨xs, rfl, e⟩ := ints_of t
      exact ⟨(n, u) :: xs, rfl, by rw [List.map_cons, e]⟩
theorem z375 (xs : List (Int × Tok)) (i : Nat) : numAt xs.toArray i = (xs.map (·.1)).getD i 0 := by
  unfold numAt
  rw [List.getD_eq_getElem?_getD, List.getElem?_map]
  simp
section
variable {X : Cx}
theorem z458 (hc : X.calm = true) : CallR X (.builtin "min") (fun xs H Q => ∃ p ns, xs = [.ref p] ∧ SqL X.K H p (ns.map V.int) ∧ ns ≠ [] ∧ ∀ m : Int, m ∈ ns → (∀ a ∈ ns, m ≤ a) → Q (.int m) H) := by
  intro pins s σ H xs us Q I r h
  obtain ⟨p, ns, rfl, hq, hne, q⟩ := h
  obtain ⟨u, rfl, rx⟩ := vals1 r
  cases rx
  obtain ⟨its, r', pl, hz⟩ := I.list hq
  obtain ⟨ps, rfl, rfl⟩ := ints_of r'
  have hl : s.heap.IsList p (intItems ps.toArray) := by
    have := pl.isList
    simpa [intItems] using this
  have hsz : 0 < ps.toArray.size := by
    cases ps with
    | nil => exact absurd rfl hne
    | cons a b => simp
  refine min_intList (I.ok.hd hc) hl hsz fun v h' tk hv hk => ?_
  obtain ⟨t, rfl⟩ := intItems_at hv
  obtain ⟨h1, h2⟩ := argBest_lt (numAt ps.toArray) (ps.toArray.size - 1)
  have lt : ∀ {i : Nat}, i ≤ ps.toArray.size - 1 → i < (ps.map (·.1)).length := fun {i} h => by rw [List.length_map]; simp only [List.size_toArray] at h hsz; omega
  refine ⟨.int _, H, I.kept (t' := tk) hk, ⟨t, rfl⟩, q _ ?_ fun a ha => ?_⟩
  · rw [z375]
    exact getD_mem (lt h1)
  · obtain ⟨j, hj, rfl⟩ := mem_getD ha
    rw [← z375]
    exact h2 j (by rw [List.length_map] at hj; simp only [List.size_toArray]; omega)
theorem z406 : CallR X (.type "dict") (fun xs H Q => ∃ p kvs, xs = [.ref p] ∧ H p = some (.dK kvs) ∧ ∀ l, H l = none → Q (.ref l) (upd H l (.dK kvs))) := by
  intro pins s σ H xs us Q I r h
  obtain ⟨p, kvs, rfl, e, q⟩ := h
  obtain ⟨u, rfl, rx⟩ := vals1 r
  cases rx
  obtain ⟨z, hd, vs, rel, dd⟩ := dk_of I.hok e
  refine PySem.kt_call_dict hd dd (by rw [← rel.length]; exact z) fun h' dd' hs => ⟨.ref s.heap.objs.size, _, ?_, rfl, q _ (I.hok.fresh (Nat.le_refl _))⟩
  refine I.laid (t' := s.toks) (fun b o hb => (hs.2 b (Nat.ne_of_lt (Heap.lt_size hb))).trans (Heap.get?_push_of_some _ hb)) (Nat.le_refl _) (dk_new z (beq_eq_false_iff_ne.mpr (Ne.symm (Nat.ne_of_lt I.big))) rel dd')
end
end L2
set_option Elab.async false
set_option linter.all false
set_option maxRecDepth 100000
namespace L2
open PySem PySem.Spec PyProof.Rows
theorem z223 {prog : Program} {w : World} {A : Around} {E : Value → Shared → Prop} {s : Shared} {a : Addr} {o : Obj} {xs : Array Value} {k : Nat} {name : Str} {Q : Option Value → Shared → Prop}
    (hx : s.heap.get? a = some o) (hc : o.cls = .type "list") (hdat : o.data = .seq xs k) (hd : o.dict = none) (hmiss : typeLookup (.type "list") name = pure none) (hname : (["__module__", "__name__", "__qualname__", "__doc__", "__annotations__"] : List Str).contains name = false) (hA : A.handled = none)
    (h : ∀ h' tk e, Heap.NewExcOf s.heap h' e "AttributeError" → Q none { s with heap := h', toks := tk }) (hsz : name.length + 100 ≤ sizeLine := by size_fits) :
    wpAny (model prog w) A (getAttr? (.ref a) name) Q E s := by
  obtain ⟨c, dct, dat, sl⟩ := o
  simp only at hc hdat hd
  subst hc hdat hd
  obtain ⟨hp, g, d, tk, os⟩ := s
  have hT : ∀ tk', (⟨hp, g, d, tk', os⟩ : Shared).TypeIs (.ref a) "list" := fun _ => ⟨_, hx, rfl⟩
  have f1 := sub_AttributeError
  have f3 := F.slot_list_getattribute.lookup
  have f4 := F.slot_list_getattribute.bind (.ref a)
  have f5 := am_list_getattr_none
  unfold getAttr? getAttrBy? getAttrBy
  repeat (any_goals (first | assumption | exact hT _ | ((with_reducible show wpAny _ _ (call (Value.builtin "list.__getattribute__") _ _) _ _ _); refine call_meets F.slot_list_getattribute (hT _) am_entry_list_getattribute (F.args_list_getattribute_2 _ _) (meets_getattribute_miss_list a xs k sl name _ hmiss hname hsz) ⟨hx, hA, fun h' tk' e hx' => ?_⟩) | wp_step))
  obtain ⟨t', u', he⟩ := hx'.there
  show wpAny _ _ (getattributeRaised _ _ _ _ _ _ _) _ _ _
  unfold getattributeRaised
  repeat (any_goals (first | assumption | wp_step))
  exact h _ _ _ hx'.of
theorem z64 : plainId "dict.update.loop" = true := by decide +kernel
theorem z205 : entryFor table "dict.update.loop" = some Builtin.«dict.update.loop» := entryFor_of_tree (by kernel_rfl)
section
variable {prog : Program} {w : World} {K : Type} [DecidableEq K] {knd : KeyKind prog w K} {A : Around} {R : Result → Shared → Prop}
def PairH (knd : KeyKind prog w K) (h : Heap) (t : Addr) (p : K × Value) : Prop := ∃ u, h.IsTuple t #[u, p.2] ∧ knd.is p.1 u = true
theorem z689 {l it d : Addr} {ts : List Addr} {ps : List (K × Value)} (hlen : ts.length = ps.length) (nli : l ≠ it) (nld : l ≠ d) (nid : it ≠ d) (res : Value) (hA : A.handled = none) :
    ∀ (k i : Nat) (s : Shared) (vs : List (K × Value)) (n : Int) (tk : Tok), ts.length - i = k → i ≤ ts.length → s.heap.IsListIter it l i → s.heap.IsList l (ts.map Value.ref).toArray →
      (∀ (j : Nat) (t : Addr) (p : K × Value), ts[j]? = some t → ps[j]? = some p → PairH knd s.heap t p ∧ t ≠ it ∧ t ≠ d) → s.heap.DictOf knd d vs → vs.length + (ts.length - i) ≤ sizeLine →
      (∀ h' tk', h'.DictOf knd d (merged vs (ps.drop i)) → (∀ b o, b ≠ it → b ≠ d → s.heap.get? b = some o → h'.get? b = some o) → R (.ok (.ret res)) { s with heap := h', toks := tk' }) →
      codeAny (model prog w) A (.builtin "dict.update.loop" ⟨[.ref d, .ref it, .int n tk, res], []⟩) R s := by
  intro k
  induction k with
  | zero =>
    intro i s vs n tk hk hi hit hl hp hd hsz hR
    have hin : i = ts.length := by omega
    refine codeAny_builtin z205 ?_
    rw [Around.under_plainId z64 _]
    show wpAny _ A.in1 (pyNext (.ref it) >>= _) _ _ s
    refine wpAny_bind (wpAny_pyNext_list_end (A := A.in1) hA hit hl (by simp [hin]) fun h' e => ?_)
    show wpAny _ A.in1 (Builtin.Dict.addKeywords d [] >>= _) _ _ _
    refine wpAny_bind (wpAny_pure (wpAny_pure ?_))
    refine hR h' s.toks ?_ fun b o hb _ e' => e b o hb e'
    rw [List.drop_eq_nil_of_le (by omega)]
    obtain ⟨o, es, ep, ho, r⟩ := hd
    exact ⟨o, es, ep, e d o nid.symm ho, by simpa [merged] using r⟩
  | succ k ih =>
    intro i s vs n tk hk hi hit hl hp hd hsz hR
    have hlt : i < ts.length := by omega
    obtain ⟨t, ht⟩ : ∃ t, ts[i]? = some t := ⟨_, List.getElem?_eq_getElem hlt⟩
    obtain ⟨p, hpp⟩ : ∃ p, ps[i]? = some p := ⟨_, List.getElem?_eq_getElem (by omega)⟩
    obtain ⟨⟨u, hT, hu⟩, n1, n2⟩ := hp i t p ht hpp
    refine codeAny_builtin z205 ?_
    rw [Around.under_plainId z64 _]
    show wpAny _ A.in1 (pyNext (.ref it) >>= _) _ _ s
    refine wpAny_bind (wpAny_pyNext_list_item hit hl (x := .ref t) (by simp [ht]) fun h1 hit1 sb1 => ?_)
    have hT1 : h1.IsTuple t #[u, p.2] := by
      obtain ⟨o, ho, r⟩ := hT
      exact ⟨o, (sb1.2 t n1).trans ho, r⟩
    have hd1 : h1.DictOf knd d vs := by
      obtain ⟨o, es, ep, ho, r⟩ := hd
      exact ⟨o, es, ep, (sb1.2 d nid.symm).trans ho, r⟩
    obtain ⟨o, ho, hc, n', hdat⟩ := id hT1
    show wpAny _ A.in1 (holding [Value.ref t] _ >>= _) _ _ _
    refine wpAny_bind (wpAny_holding (wpAny_bind (wpAny_tryCatch ?_)))
    unfold Builtin.Dict.pairItems
    refine wpAny_bind (wpAny_typeOf ⟨o, ho, hc⟩ ?_)
    rw [if_pos (by decide)]
    refine wpAny_bind (wpAny_seqItems ho hdat (wpAny_pure ?_))
    show wpAny _ A.in1 (holding [u, p.2] (dictSet d u p.2)) _ _ _
    have hsz' : vs.length ≤ sizeLine := by omega
    refine wpAny_holding (wpAny_dictSet_pairs (hsz := hsz') hu hd1 fun h2 hd2 sb2 => ?_)
    refine wpAny_pure ⟨plainId_quiet z64 _, ih (i + 1) _ (stored vs p.1 p.2) (n + 1) _ (by omega) (by omega) ?_ ?_ (fun j t' p' h1' h2' => ?_) hd2 ?_ fun h3 tk3 hd3 k3 => ?_⟩
    · obtain ⟨o, ho, r⟩ := hit1
      exact ⟨o, (sb2.2 it nid).trans ho, r⟩
    · obtain ⟨o, ho, r⟩ := hl
      exact ⟨o, (sb2.2 l nld).trans ((sb1.2 l nli).trans ho), r⟩
    · obtain ⟨⟨u', ⟨o, ho, r⟩, hu'⟩, m1, m2⟩ := hp j t' p' h1' h2'
      exact ⟨⟨u', ⟨o, (sb2.2 t' m2).trans ((sb1.2 t' m1).trans ho), r⟩, hu'⟩, m1, m2⟩
    · have := stored_length_le vs p.1 p.2
      omega
    · refine hR h3 tk3 ?_ fun b o hb1 hb2 e => k3 b o hb1 hb2 ((sb2.2 b hb2).trans ((sb1.2 b hb1).trans e))
      rw [List.drop_eq_getElem_cons (show i < ps.length by omega)]
      have ep : ps[i]'(by omega) = p := (List.getElem?_eq_some_iff.mp hpp).2
      rw [ep]
      simpa [merged] using hd3
end
theorem z703 : typeLookup (.type "list") (Str.ofString "keys") = pure none := by rw [typeLookup_type, builtinLookup_eq_fast]; kernel_rfl
section
variable {prog : Program} {w : World} {K : Type} [DecidableEq K] {knd : KeyKind prog w K} {A : Around} {E : Value → Shared → Prop} {s : Shared}
theorem z398 {l : Addr} {ts : List Addr} {ps : List (K × Value)} {Q : Value → Shared → Prop} (hA : A.handled = none) (hlen : ts.length = ps.length) (hl : s.heap.IsList l (ts.map Value.ref).toArray)
    (hlo : ∀ o, s.heap.get? l = some o → o.dict = none) (hp : ∀ (j : Nat) (t : Addr) (p : K × Value), ts[j]? = some t → ps[j]? = some p → PairH knd s.heap t p) (hsz : ps.length ≤ sizeLine)
    (h : ∀ h' tk, h'.DictOf knd s.heap.objs.size (merged [] ps) → (∀ b o, s.heap.get? b = some o → h'.get? b = some o) → Q (.ref s.heap.objs.size) { s with heap := h', toks := tk }) :
    wpAny (model prog w) A (call (.type "dict") [.ref l]) Q E s := by
  refine callType_codes (Q₁ := fun obj s₁ => obj = .ref s.heap.objs.size ∧ s₁ = { s with heap := s.heap.push { cls := .type "dict", data := .dict #[] } }) F.kt_called_dict (F.kt_typeCall_dict_1 _) F.entry_dict_init (kt_code_dict_new _ ⟨rfl, rfl⟩) ?_
  rintro obj s₁ ⟨rfl, rfl⟩
  have hnew : (s.heap.push { cls := .type "dict", data := .dict #[] }).DictOf knd s.heap.objs.size [] := Heap.DictOf.new s.heap
  obtain ⟨o, ho, hc, n, hdat⟩ := id hl
  have ho' := Heap.get?_push_of_some { cls := .type "dict", data := .dict #[] } ho
  refine ⟨hnew.typeIs, F.args_dict_init_2 _ _, ?_⟩
  unfold Builtin.«dict.__init__»
  refine wpAny_bind ?_
  unfold Builtin.Dict.selfAndRest
  refine wpAny_bind (wpAny_notOrdered_dict hnew.typeIs ?_)
  show wpAny _ _ (pure (s.heap.objs.size, [Value.ref l])) _ _ _
  refine wpAny_pure ?_
  show wpAny _ _ (Builtin.Dict.updateFrom "dict.__init__" s.heap.objs.size (.ref l) [] .none) _ _ _
  unfold Builtin.Dict.updateFrom
  refine wpAny_bind (wpAny_typeOf ⟨o, ho', hc⟩ ?_)
  rw [if_pos (by decide)]
  refine wpAny_bind (z223 ho' hc hdat (hlo o ho) z703 (by decide +kernel) hA (fun h1 tk e hx => ?_) (by rw [sizeLine_eq]; decide +kernel))
  have k1 : ∀ b o, s.heap.get? b = some o → h1.get? b = some o := fun b o e' => hx.keeps b o (Heap.get?_push_of_some _ e')
  have hd1 : h1.DictOf knd s.heap.objs.size [] := by
    obtain ⟨o, es, ep, ho, r⟩ := hnew
    exact ⟨o, es, ep, hx.keeps _ _ ho, r⟩
  have hl1 : h1.IsList l (ts.map Value.ref).toArray := ⟨o, k1 _ _ ho, hc, n, hdat⟩
  have dlt : s.heap.objs.size < h1.objs.size := by
    obtain ⟨o, es, ep, ho, r⟩ := hd1
    exact Heap.lt_size ho
  rw [if_pos (show (none : Option Value).isNone = true from rfl)]
  refine wpAny_bind (wpAny_rule (wpAny_bind (wpAny_pyIter_list hl1 ?_)))
  have pk : ∀ b o', h1.get? b = some o' → (h1.push { cls := .type "list_iterator", data := .fields #[.ref l, .int 0 0] }).get? b = some o' := fun b o' e' => Heap.get?_push_of_some _ e'
  refine wpAny_pure ⟨plainId_quiet z64 _, z689 (knd := knd) (A := A.in1) (ts := ts) (ps := ps) (l := l) (it := h1.objs.size) (d := s.heap.objs.size) hlen (Nat.ne_of_lt (Heap.lt_size (k1 _ _ ho))) (Nat.ne_of_lt (Heap.lt_size ho)) (Nat.ne_of_gt dlt) .none hA ts.length 0 _ [] 0 0 (by omega) (Nat.zero_le _) ⟨_, Heap.get?_push_size _ rfl, rfl, rfl⟩ ⟨o, pk _ _ (k1 _ _ ho), hc, n, hdat⟩ (fun j t p a b => ?_) ?_ (by simp; omega) fun h3 tk3 hd3 k3 => ?_⟩
  · obtain ⟨u, ⟨o', e1, r⟩, hu⟩ := hp j t p a b
    exact ⟨⟨u, ⟨o', pk _ _ (k1 _ _ e1), r⟩, hu⟩, Nat.ne_of_lt (Heap.lt_size (k1 _ _ e1)), Nat.ne_of_lt (Heap.lt_size e1)⟩
  · obtain ⟨o', es, ep, e1, r⟩ := hd1
    exact ⟨o', es, ep, pk _ _ e1, r⟩
  · exact ⟨rfl, h h3 tk3 (by simpa using hd3) fun b o' e' => k3 b o' (Nat.ne_of_lt (Heap.lt_size (k1 _ _ e'))) (Nat.ne_of_lt (Heap.lt_size e')) (pk _ _ (k1 _ _ e'))⟩
end
section
variable {X : Cx}
theorem z550 (hc : X.calm = true) : CallR X (.type "dict") (fun xs H Q => ∃ p ts kvs, xs = [.ref p] ∧ H p = some (.lst (ts.map V.ref)) ∧ Paired (fun t (kv : Key × V) => H t = some (.tup [kV kv.1, kv.2])) ts kvs ∧ ∀ d, H d = none → Q (.ref d) (upd H d (.dK (mergeK [] kvs)))) := by
  intro pins s σ H xs us Q I r h
  obtain ⟨p, ts, kvs, rfl, e, pr, q⟩ := h
  obtain ⟨u, rfl, rx⟩ := vals1 r
  cases rx
  obtain ⟨z, its, n, rv, ho⟩ := (show ObjOk X.prog X.w H s.heap p (.lst (ts.map V.ref)) from I.hok p _ e)
  have ei : its = ts.map Value.ref := by
    clear pr ho z e
    induction ts generalizing its with
    | nil => cases rv; rfl
    | cons t ts ih =>
      rw [List.map_cons] at rv
      cases rv with
      | cons a b =>
        cases (show _ = Value.ref t from a)
        rw [ih _ b, List.map_cons]
  subst ei
  have key : ∃ ps : List (Key × Value), KV kvs ps ∧ ∀ (j : Nat) (t : Addr) (p : Key × Value), ts[j]? = some t → ps[j]? = some p → PairH (mixKind X.prog X.w) s.heap t p := by
    clear rv ho z e q
    induction pr with
    | nil => exact ⟨[], .nil, fun j t p a => by simp at a⟩
    | @cons t kv ts kvs hh rr ih =>
      obtain ⟨ps, kp, hp⟩ := ih
      obtain ⟨zz, its, rv, pl⟩ := (show ObjOk X.prog X.w H s.heap t (.tup [kV kv.1, kv.2]) from I.hok t _ hh)
      cases rv with
      | cons a1 r1 =>
        cases r1 with
        | cons a2 r2 =>
          cases r2
          rename_i u1 u2
          refine ⟨(kv.1, u2) :: ps, .cons ⟨rfl, a2⟩ kp, fun j t' p' h1 h2 => ?_⟩
          cases j with
          | zero =>
            cases h1
            cases h2
            exact ⟨u1, pl, kV_is a1⟩
          | succ j => exact hp j t' p' h1 h2
  obtain ⟨ps, kp, hp⟩ := key
  have hl1 := Paired.length pr
  have hl2 := kp.length
  rw [List.length_map] at z
  refine z398 (knd := mixKind X.prog X.w) (I.ok.hd hc) (by omega) ⟨_, ho, rfl, n, rfl⟩ (fun o ho2 => by rw [ho] at ho2; cases ho2; rfl) hp (by omega) fun h' tk dd k => ⟨.ref s.heap.objs.size, _, ?_, rfl, q _ (I.hok.fresh (Nat.le_refl _))⟩
  have hz : (mergeK [] kvs).length ≤ sizeLine := by
    have h1 := length_mergeK kvs []
    rw [List.length_nil] at h1
    omega
  exact I.laid (t' := tk) k (Nat.le_refl _) (dk_new hz (beq_eq_false_iff_ne.mpr (Ne.symm (Nat.ne_of_lt I.big))) (kp.merge .nil) dd)
end
end L2
set_option Elab.async false
set_option linter.all false
set_option maxRecDepth 100000
namespace L2
open PySem PySem.Spec PyProof.Rows
inductive KHits (K : PySem.W.Frag) (H : Hp) (kb : List (Key × V)) : List (Key × V) → Bool → Prop
  | nil : KHits K H kb [] true
  | miss {k : Key} {v : V} {r : List (Key × V)} : valV kb k = none → KHits K H kb ((k, v) :: r) false
  | hit {k : Key} {v y : V} {r : List (Key × V)} {d e : PyData} {b : Bool} : valV kb k = some y → Den K H v d → Den K H y e → SeqAt.shaped d = true → SeqAt.shaped e = true → KHits K H kb r b → KHits K H kb ((k, v) :: r) (PyData.eqv d e && b)
theorem KHits.keq {X : Cx} {pins : List (Addr × Obj)} {σ : St} {H : Hp} {s : Shared} (I : Inv X pins σ H s) (hu : X.A.units + 64 + 1 < cLine) {kb : List (Key × V)} {vb : List (Key × Value)} (rb : KV kb vb)
    {ka : List (Key × V)} {b : Bool} (h : KHits X.K H kb ka b) : ∀ {va : List (Key × Value)}, KV ka va → PySem.W.KeqHits X.A.in1 s vb va b := by
  induction h with
  | nil => intro va ra; cases ra; exact .nil
  | @miss k v r hn =>
    intro va ra
    cases ra with
    | @cons p q _ _ h t =>
      obtain ⟨k', u⟩ := q
      obtain ⟨e, ru⟩ := h
      have e : k = k' := e
      subst e
      have := rb.val k
      rw [hn] at this
      refine .miss ?_
      cases hv : PySem.valueAt vb k with
      | none => rfl
      | some z => rw [hv] at this; exact this.elim
  | @hit k v y r d e b hv d1 d2 s1 s2 hr ih =>
    intro va ra
    cases ra with
    | @cons p q _ _ h t =>
      obtain ⟨k', u⟩ := q
      obtain ⟨e, ru⟩ := h
      have e : k = k' := e
      subst e
      have := rb.val k
      rw [hv] at this
      cases hz : PySem.valueAt vb k with
      | none => rw [hz] at this; exact this.elim
      | some z =>
        rw [hz] at this
        obtain ⟨as, r1⟩ := d1.reads I ru
        obtain ⟨bs, r2⟩ := d2.reads I this
        exact .hit hz (PySem.W.keq_at (A := X.A) r1 r2 s1 s2 hu) (ih t)
def rEqK (K : PySem.W.Frag) (neg : Bool) : R2 := fun x y H Q => ∃ a b ka kb r, x = .ref a ∧ y = .ref b ∧ H a = some (.dK ka) ∧ H b = some (.dK kb) ∧ (ka.length = kb.length → KHits K H kb ka r) ∧ Q (.bl (if neg then !(ka.length == kb.length && r) else (ka.length == kb.length && r))) H
theorem op_eqK {X : Cx} (hu : X.A.units + 64 + 1 < cLine) : OpR X (compareOp .Eq) (rEqK X.K false) := by
  intro pins s σ H x y v u Q I rx ry h
  obtain ⟨a, b, ka, kb, r, rfl, rfl, ea, eb, hh, q⟩ := h
  cases rx
  cases ry
  obtain ⟨_, ha, va, ra, da⟩ := dk_of I.hok ea
  obtain ⟨_, hb, vb, rb, db⟩ := dk_of I.hok eb
  refine PySem.W.keq_eq ha hb da db (by omega) (fun e => (hh (by rw [ra.length, rb.length, e])).keq I hu rb ra) (fin_bl I q ?_)
  rw [ra.length, rb.length]
  rfl
theorem op_neK {X : Cx} (hu : X.A.units + 64 + 1 < cLine) : OpR X (compareOp .NotEq) (rEqK X.K true) := by
  intro pins s σ H x y v u Q I rx ry h
  obtain ⟨a, b, ka, kb, r, rfl, rfl, ea, eb, hh, q⟩ := h
  cases rx
  cases ry
  obtain ⟨_, ha, va, ra, da⟩ := dk_of I.hok ea
  obtain ⟨_, hb, vb, rb, db⟩ := dk_of I.hok eb
  refine PySem.W.keq_ne ha hb da db (by omega) (fun e => (hh (by rw [ra.length, rb.length, e])).keq I hu rb ra) (fin_bl I q ?_)
  rw [ra.length, rb.length]
  rfl
end L2
set_option Elab.async false
set_option linter.all false
set_option maxRecDepth 100000
namespace L2
open PySem PySem.Spec PyProof.Rows
theorem z709 {P : Program} {w : World} {k : Key} {u : Value} (h : (mixKind P w).is k u = true) : RelV (kV k) u := by
  cases k with
  | inl i =>
    cases u <;> simp_all [mixKind, keyIs, Value.isInt, kV, RelV]
  | inr x =>
    cases u <;> simp_all [mixKind, keyIs, Value.isStrOf, kV, RelV]
section
variable {X : Cx} {pins : List (Addr × Obj)} {σ : St} {H : Hp} {s : Shared} {a : Addr}
theorem Inv.freezeK {kvs : List (Key × V)} (I : Inv X pins σ H s) (e : H a = some (.dK kvs)) {o : Obj} (ho : s.heap.get? a = some o) : Inv X pins σ (upd H a (.frz o (.dK kvs))) s := by
  refine I.re e (fun _ z => nomatch z) (fun _ z => nomatch z) (fun _ z => nomatch z) (fun o w z => ?_) ⟨ho, (show ObjOk X.prog X.w H s.heap a (.dK kvs) from I.hok a _ e)⟩
  have := I.base.frzs a o w z
  rw [e] at this
  cases this
theorem Inv.thawK {kvs : List (Key × V)} {o : Obj} (I : Inv X pins σ H s) (e : H a = some (.frz o (.dK kvs))) (nf : ∀ o w, X.H₀ a ≠ some (.frz o w)) : Inv X pins σ (upd H a (.dK kvs)) s :=
  I.re e (fun _ z => nomatch z) (fun _ z => nomatch z) (fun _ z => nomatch z) nf (show ObjOk X.prog X.w (upd H a (.dK kvs)) s.heap a (.dK kvs) from (show ObjOk X.prog X.w H s.heap a (.frz o (.dK kvs)) from I.hok a _ e).2)
end
def Itk (a : Addr) (o : Obj) (kvs : List (Key × V)) : It :=
  ⟨fun i H => H a = some (.frz o (.dK kvs)) ∧ i < kvs.length, fun i H x H' => H' = H ∧ ∃ k v, x = kV k ∧ kvs[i]? = some (k, v), fun i H => H a = some (.frz o (.dK kvs)) ∧ kvs.length ≤ i⟩
theorem pairs_at {P : Program} {w : World} : ∀ {es : List DictEntry} {vs : List (Key × Value)}, Pairs (mixKind P w) es vs → ∀ {i : Nat} {q : Key × Value}, vs[i]? = some q → ∃ e, es[i]? = some e ∧ (mixKind P w).is q.1 e.key = true
  | _, _, .cons h _ _, 0, _, e => by cases e; exact ⟨_, rfl, h⟩
  | _, _, .cons _ _ r, i + 1, _, e => by
    rw [List.getElem?_cons_succ] at e
    obtain ⟨x, e1, e2⟩ := pairs_at r e
    exact ⟨x, by rw [List.getElem?_cons_succ]; exact e1, e2⟩
theorem z372 {P : Program} {w : World} {K : PySem.W.Frag} {tg : Expr} (a it : Addr) (o : Obj) (kvs : List (Key × V)) (es : Array DictEntry) (ep : Nat) (hdd : o.data = .dict es ep) : Turn P w K tg (Itk a o kvs) [it] it (fun i h => h.IsKeyIter it a i es.size ep) where
  mem := by simp
  obj := fun i h st b hb => by
    have e : b = it := by simpa using hb
    subst e
    obtain ⟨o, e, c, d⟩ := st
    exact ⟨o, e, fun v z => by rw [d] at z; cases z⟩
  keep := fun i h h' st k => st.at fun o e => k it (by simp) o e
  item := by
    intro X hP hw hK hc i pins s σ H E I hf st hg
    subst hP hw hK
    obtain ⟨hq, hx⟩ := hg
    obtain ⟨hod, z, hd, vs, rel, o', es', ep', ho', he1, he2, he3, he4, he5⟩ := (show ObjOk X.prog X.w H s.heap a (.frz o (.dK kvs)) from I.hok a _ hq)
    rw [hod] at ho'
    cases ho'
    rw [hdd] at he2
    cases he2
    obtain ⟨kv, hkv⟩ : ∃ kv, kvs[i]? = some kv := ⟨_, List.getElem?_eq_getElem hx⟩
    obtain ⟨q, hq1, q1, q2⟩ := Paired.at1 rel hkv
    obtain ⟨en, hen, his⟩ := pairs_at he4 hq1
    have hes : es[i]? = some en := by simpa using hen
    obtain ⟨f0, f1, f2, f3, f4, f5⟩ := hf it (by simp)
    refine z646 st hod hdd hes fun h' st' sb => ?_
    have I1 : Inv X pins σ H { s with heap := h' } := I.turned (t' := s.toks) (fun b o hb e => (sb.2 b hb).trans e) f0 f1 f3 f4 f5
    obtain ⟨o2, e, c, d⟩ := id st'
    exact ⟨_, rfl, go_of (s := { s with heap := h' }) e c d (by decide) ⟨kV q.1, H, I1, z709 his, ⟨rfl, kv.1, kv.2, by rw [q1], hkv⟩, st', fun b hb => (hf b hb).1⟩⟩
  done := by
    intro X hP hw hK hc i pins s σ H E I hf st hg
    subst hP hw hK
    obtain ⟨hq, hx⟩ := hg
    obtain ⟨hod, z, hd, vs, rel, o', es', ep', ho', he1, he2, he3, he4, he5⟩ := (show ObjOk X.prog X.w H s.heap a (.frz o (.dK kvs)) from I.hok a _ hq)
    rw [hod] at ho'
    cases ho'
    rw [hdd] at he2
    cases he2
    have hsz := he4.length
    have hl := Paired.length rel
    obtain ⟨f0, f1, f2, f3, f4, f5⟩ := hf it (by simp)
    exact z680 (I.calm hc) st hod hdd (by simp only [Array.length_toList] at hsz; omega) fun h' eb => ⟨rfl, I.turned (t' := s.toks) (fun b o hb e => eb b o hb e) f0 f1 f3 f4 f5⟩
  self := fun _ _ _ _ _ st h => wpAny_pyIter_keyiter st h
def iDictK (te : TE) : TI := fun σ H R => te σ H fun x H1 => ∃ a kvs, x = .ref a ∧ ((H1 a = some (.dK kvs) ∧ ∀ o, R (Itk a o kvs) (upd H1 a (.frz o (.dK kvs)))) ∨ ∃ o, H1 a = some (.frz o (.dK kvs)) ∧ R (Itk a o kvs) H1)
theorem z693 {X : Cx} {tg l : Expr} {tl : TE} (hl : PE X l tl) : PI X tg l (iDictK tl) := by
  intro pins s σ H R I h
  refine thn (hl pins s σ H _ I h) fun v s1 ⟨x, H1, I1, r1, q1⟩ => ?_
  obtain ⟨a, kvs, e, q⟩ := q1
  subst e
  cases r1
  rcases q with ⟨hq, q⟩ | ⟨o, hq, q⟩
  · obtain ⟨z, hd, vs, rel, dd⟩ := dk_of I1.hok hq
    obtain ⟨o, es, ep, ho, hc, hdat, _⟩ := dd
    refine z467 hd ho hc hdat ?_
    have I2 := I1.freezeK hq ho
    refine ⟨s1.heap.objs.size, [s1.heap.objs.size], _, _, _, rfl, I2.kept (t' := s1.toks) fun b o e => Heap.get?_push_of_some _ e, z372 a _ o kvs es ep hdat, ⟨_, Heap.get?_push_size _ rfl, rfl, rfl⟩, fun b hb => ?_, q o⟩
    have e : b = s1.heap.objs.size := by simpa using hb
    subst e
    exact I2.fpOk (Nat.le_refl _) (I2.hok.fresh (Nat.le_refl _))
  · obtain ⟨ho, z, hd, vs, rel, o', es, ep, ho', hc, hdat, _⟩ := (show ObjOk X.prog X.w H1 s1.heap a (.frz o (.dK kvs)) from I1.hok a _ hq)
    rw [ho] at ho'
    cases ho'
    refine z467 hd ho hc hdat ?_
    refine ⟨s1.heap.objs.size, [s1.heap.objs.size], _, _, _, rfl, I1.kept (t' := s1.toks) fun b o e => Heap.get?_push_of_some _ e, z372 a _ o kvs es ep hdat, ⟨_, Heap.get?_push_size _ rfl, rfl, rfl⟩, fun b hb => ?_, q⟩
    have e : b = s1.heap.objs.size := by simpa using hb
    subst e
    exact I1.fpOk (Nat.le_refl _) (I1.hok.fresh (Nat.le_refl _))
def Ends.thawK (D : Ends) (a : Addr) (kvs : List (Key × V)) : Ends where
  nx := fun σ H => (∃ o, H a = some (.frz o (.dK kvs))) ∧ D.nx σ (upd H a (.dK kvs))
  rt := fun v H => (∃ o, H a = some (.frz o (.dK kvs))) ∧ D.rt v (upd H a (.dK kvs))
  bk := fun σ H => (∃ o, H a = some (.frz o (.dK kvs))) ∧ D.bk σ (upd H a (.dK kvs))
  ct := fun σ H => (∃ o, H a = some (.frz o (.dK kvs))) ∧ D.ct σ (upd H a (.dK kvs))
def tThawK (t : TS) : TS := fun D σ H => (∃ a kvs, H a = some (.dK kvs) ∧ t (D.thawK a kvs) σ H) ∨ t D σ H
def tThawE (t : TE) : TE := fun σ H Q => (∃ a kvs, H a = some (.dK kvs) ∧ t σ H fun v H' => (∃ o, H' a = some (.frz o (.dK kvs))) ∧ Q v (upd H' a (.dK kvs))) ∨ t σ H Q
theorem z673 {X : Cx} {e : Expr} {t : TE} (h : PE X e t) : PE X e (tThawE t) := by
  intro pins s σ H Q I q
  rcases q with ⟨a, kvs, e', q⟩ | q
  · have nf : ∀ o w, X.H₀ a ≠ some (.frz o w) := fun o w z => by
      have := I.base.frzs a o w z
      rw [e'] at this
      cases this
    refine thn (h pins s σ H _ I q) fun u s' ⟨v, H', I', rv, ⟨o, z⟩, d⟩ => ?_
    exact ⟨v, _, I'.thawK z nf, rv, d⟩
  · exact h pins s σ H Q I q
theorem z660 {a : Addr} {o : Obj} {kvs : List (Key × V)} {H : Hp} (h : H a = some (.frz o (.dK kvs))) : SrcIs (Itk a o kvs) H (kvs.map fun kv => kV kv.1) :=
  ⟨fun i hi => ⟨h, by simpa using hi⟩, fun i x H' hi y => ⟨y.1, by
    obtain ⟨_, k, v, e, hk⟩ := y
    rw [List.getElem?_map, hk, e]
    rfl⟩, ⟨h, by simp⟩⟩
section
variable {prog : Program} {w : World} {A : Around} {E : Value → Shared → Prop} {s : Shared} {K : Type} [DecidableEq K] {knd : KeyKind prog w K} {d : Addr} {kvs : List (K × Value)} {ep : Nat}
end
end L2
set_option Elab.async false
set_option linter.all false
set_option maxRecDepth 100000
namespace L2
open PySem PySem.Spec PyProof.Rows
section
variable {prog : Program} {w : World} {A : Around} {E : Value → Shared → Prop} {s : Shared} {d : Addr}
theorem z443 {Q : Value → Shared → Prop} (hT : s.TypeIs (.ref d) "dict") (h : Q .notImplemented s) : wpAny (model prog w) A (call (.builtin "dict.__ne__") [.ref d, .none]) Q E s := by
  refine wpAny_call_entry PySem.F.slot_dict_ne hT PySem.F.entry_dict_ne (show wpAny _ _ (Builtin.Dict.dictSlotArgs "__ne__" ⟨[.ref d, .none], []⟩ >>= _) _ _ s from wpAny_bind ?_) (PySem.F.args_dict_ne_2 _ _)
  unfold Builtin.Dict.dictSlotArgs
  refine wpAny_bind (wpAny_notOrdered_dict hT (show wpAny _ _ (pure (Value.ref d, Value.none)) _ _ s from wpAny_pure (wpAny_bind (wpAny_isInstance (T := "NoneType") (show s.TypeIs .none "NoneType" from rfl) PySem.F.sub_NoneType_dict ?_))))
  simp only [Bool.not_false, if_true]
  exact wpAny_bind (wpAny_rule (wpAny_pure ⟨_, rfl, h⟩))
theorem z440 {Q : Value → Shared → Prop} (hT : s.TypeIs (.ref d) "dict") (hu : A.units < cLine) (h : Q (.bool true) s) : wpAny (model prog w) A (compareOp .NotEq .none (.ref d)) Q E s :=
  SeqAt.rc_ne_decline_or (k := false) (show s.TypeIs .none "NoneType" from rfl) hT (by decide) PySem.F.sub_dict_NoneType PySem.F.slot_NoneType_ne PySem.F.slot_dict_ne_refl
    (fun _ hq => call_gives PySem.F.slot_NoneType_ne rfl PySem.F.entry_NoneType_ne (PySem.F.args_NoneType_ne_2 _ _) (SeqAt.NoneType___ne___none_ref_0 d) hq) (fun _ hq => z443 hT hq) (fun _ hq => wpAny_of_eq (rfl : isSame .none (.ref d) = pure false) hq) (.inr hu) h
end
def rNeN (K : PySem.W.Frag) : R2 := fun x y H Q => (∃ a kvs, x = .non ∧ y = .ref a ∧ H a = some (.dK kvs) ∧ Q (.bl true) H) ∨ rEqK K true x y H Q
theorem op_neN {X : Cx} (hu : X.A.units + 64 + 1 < cLine) : OpR X (compareOp .NotEq) (rNeN X.K) := by
  intro pins s σ H x y v u Q I rx ry h
  rcases h with ⟨a, kvs, rfl, rfl, e, q⟩ | h
  · obtain rfl : v = Value.none := rx
    cases ry
    obtain ⟨_, _, vs, rel, dd⟩ := dk_of I.hok e
    exact z440 dd.typeIs (by omega) ⟨.bl true, H, I, rfl, q⟩
  · exact op_neK hu pins s σ H x y v u Q I rx ry h
def z241 : V → List V → Hp → VK → Prop := fun x vs H Q => ∃ a kvs, x = .ref a ∧ vs = [] ∧ H a = some (.dK kvs) ∧ Q .non (upd H a (.dK []))
theorem z659 {X : Cx} : MtM X "dict.clear" z241 := by
  intro pins s σ H x vs v us Q I rx rv h
  obtain ⟨a, kvs, rfl, rfl, e, q⟩ := h
  cases rx
  cases rv
  exact d_clear I e fun s' I' => ⟨.non, _, I', rfl, q⟩
theorem z706 {X : Cx} {K : PySem.W.Frag} (hK : X.K = K) (hu : X.A.units + 64 + 1 < cLine) : OpR X (compareOp .NotEq) (rEqK K true) := by subst hK; exact op_neK hu
end L2
set_option Elab.async false
set_option linter.all false
set_option maxRecDepth 100000
namespace Fl
open PySem L2
theorem z546 : ∀ {l m : List Int}, l.Pairwise (· < ·) → m.Pairwise (· < ·) → (∀ x, x ∈ l ↔ x ∈ m) → l = m
  | [], [], _, _, _ => rfl
  | [], b :: m, _, _, h => by have := (h b).mpr (by simp); simp at this
  | a :: l, [], _, _, h => by have := (h a).mp (by simp); simp at this
  | a :: l, b :: m, hl, hm, h => by
    obtain ⟨l1, l2⟩ := List.pairwise_cons.mp hl
    obtain ⟨m1, m2⟩ := List.pairwise_cons.mp hm
    have e : a = b := by
      rcases List.mem_cons.mp ((h a).mp (by simp)) with z | z
      · exact z
      · rcases List.mem_cons.mp ((h b).mpr (by simp)) with y | y
        · exact y.symm
        · have := m1 a z
          have := l1 b y
          omega
    subst e
    congr 1
    refine z546 l2 m2 fun x => ⟨fun hx => ?_, fun hx => ?_⟩
    · rcases List.mem_cons.mp ((h x).mp (List.mem_cons_of_mem _ hx)) with z | z
      · have := l1 x hx
        omega
      · exact z
    · rcases List.mem_cons.mp ((h x).mpr (List.mem_cons_of_mem _ hx)) with z | z
      · have := m1 x hx
        omega
      · exact z
theorem sq_one {x y : Int} (h : x * x + y * y = 1) : (x = 0 ∧ (y = 1 ∨ y = -1)) ∨ (y = 0 ∧ (x = 1 ∨ x = -1)) := by
  have key : ∀ z : Int, z ≤ z * z ∧ -z ≤ z * z := fun z => by
    by_cases hz : 0 ≤ z
    · by_cases h1 : z = 0
      · subst h1; decide
      · have := Int.mul_nonneg hz (show 0 ≤ z - 1 by omega)
        rw [Int.mul_sub, Int.mul_one] at this
        omega
    · have := Int.mul_nonneg (show 0 ≤ -z by omega) (show 0 ≤ -z - 1 by omega)
      rw [Int.mul_sub, Int.neg_mul_neg, Int.mul_one] at this
      omega
  have k1 := key x
  have k2 := key y
  have n1 : 0 ≤ x * x := by omega
  have n2 : 0 ≤ y * y := by omega
  have hx : x = 0 ∨ x = 1 ∨ x = -1 := by omega
  have hy : y = 0 ∨ y = 1 ∨ y = -1 := by omega
  rcases hx with rfl | rfl | rfl <;> rcases hy with rfl | rfl | rfl <;> simp_all
theorem z444 {w c b q : Int} (hw : 0 < w) (h : c = w * b + q) (h0 : 0 ≤ q) (h1 : q < w) : c / w = b ∧ c % w = q := by
  subst h
  constructor
  · rw [Int.add_comm, Int.add_mul_ediv_left _ _ (by omega), Int.ediv_eq_zero_of_lt h0 h1]
    omega
  · rw [Int.add_comm, Int.add_mul_emod_self_left, Int.emod_eq_of_lt h0 h1]
def sgOk (c : Nat) : Prop := c = 46 ∨ c = 35 ∨ c = 43 ∨ c = 126 ∨ c = 124
structure Good (w h : Nat) (sg : List Nat) : Prop where
  w0 : 1 ≤ w
  w1 : w ≤ 10
  h0 : 1 ≤ h
  h1 : h ≤ 10
  len : sg.length = w * h
  ok : ∀ c ∈ sg, sgOk c
  cell : ∃ c ∈ sg, c ≠ 35
def txt (cs : List Nat) : Str := ⟨cs.toArray⟩
def lineOf (w : Nat) (sg : List Nat) (j : Nat) : Str := txt ((sg.drop (w * j)).take w)
def linesOf (w h : Nat) (sg : List Nat) : List Str := (List.range h).map (lineOf w sg)
theorem len100 {w h : Nat} {sg : List Nat} (g : Good w h sg) : 1 ≤ sg.length ∧ sg.length ≤ 100 := by
  rw [g.len]
  exact ⟨Nat.mul_le_mul g.w0 g.h0, Nat.mul_le_mul g.w1 g.h1⟩
theorem z30 (cs : List Nat) : (txt cs).length = cs.length := by simp [txt, Str.length]
theorem z51 (cs : List Nat) : (txt cs).cps.toList = cs := by simp [txt]
theorem z668 {w h : Nat} {j : Nat} (hj : j < h) : w * j + w ≤ w * h := by
  have := Nat.mul_le_mul_left w (show j + 1 ≤ h from hj)
  rw [Nat.mul_add, Nat.mul_one] at this
  exact this
theorem z98 {w h : Nat} {sg : List Nat} (g : Good w h sg) {j : Nat} (hj : j < h) : (lineOf w sg j).length = w := by
  have := z668 (w := w) hj
  have := g.len
  unfold lineOf
  rw [z30, List.length_take, List.length_drop]
  omega
theorem z264 (w h : Nat) (sg : List Nat) : (linesOf w h sg).length = h := by simp [linesOf]
theorem z79 {w h : Nat} {sg : List Nat} {j : Nat} (hj : j < h) : (linesOf w h sg)[j]? = some (lineOf w sg j) := by
  simp [linesOf, hj]
theorem z408 (w : Nat) (sg : List Nat) : ∀ h : Nat, ((List.range h).map fun j => (sg.drop (w * j)).take w).flatten = sg.take (w * h)
  | 0 => by simp
  | h + 1 => by
    rw [List.range_succ, List.map_append, List.flatten_append, z408 w sg h, Nat.mul_add, Nat.mul_one]
    simp [List.take_add]
theorem z664 : ∀ ys : List Str, (Txt.join (Str.ofString "") ys).cps.toList = (ys.map (·.cps.toList)).flatten := by
  have e : ∀ ys : List Str, (Str.join (Str.ofString "") ys).cps.toList = (ys.map (·.cps.toList)).flatten := by
    intro ys
    have e0 : (Str.ofString "").cps.toList = [] := by decide +kernel
    induction ys with
    | nil => rfl
    | cons x r ih =>
      cases r with
      | nil => simp [Str.join]
      | cons y r =>
        show (x ++ Str.ofString "" ++ Str.join (Str.ofString "") (y :: r)).cps.toList = _
        rw [z104, z104, e0, ih]
        simp
  intro ys
  show (Builtin.Str.glued (Str.ofString "") ys).cps.toList = _
  rw [StrLaws.glued_eq_join, e]
theorem z377 {w h : Nat} {sg : List Nat} (g : Good w h sg) : Txt.join (Str.ofString "") (linesOf w h sg) = txt sg := by
  refine z217 ?_
  rw [z664, z51]
  unfold linesOf
  rw [List.map_map]
  have : ((fun x : Str => x.cps.toList) ∘ lineOf w sg) = fun j => (sg.drop (w * j)).take w := by
    funext j
    exact z51 _
  rw [this, z408, ← g.len, List.take_length]
theorem z462 {w h : Nat} {sg : List Nat} (g : Good w h sg) : ((linesOf w h sg).map (·.length)).sum + (linesOf w h sg).length * (Str.ofString "").length ≤ 16777216 := by
  have e0 : (Str.ofString "").length = 0 := by decide +kernel
  have : ∀ n, n ≤ h → (((List.range n).map (lineOf w sg)).map (·.length)).sum = n * w := by
    intro n
    induction n with
    | zero => intro _; simp
    | succ n ih =>
      intro hn
      rw [List.range_succ, List.map_append, List.map_append, List.sum_append, ih (by omega)]
      simp [z98 g (show n < h by omega), Nat.add_mul]
  unfold linesOf
  rw [e0, this h (Nat.le_refl _)]
  have := Nat.mul_le_mul g.h1 g.w1
  omega
theorem z707 {w h : Nat} {sg : List Nat} (g : Good w h sg) {j : Nat} : ∀ c ∈ (lineOf w sg j).cps.toList, sgOk c := by
  intro c hc
  unfold lineOf at hc
  rw [z51] at hc
  exact g.ok c (List.mem_of_mem_drop (List.mem_of_mem_take hc))
def at_ (sg : List Nat) (i : Int) : Nat := sg.getD i.toNat 0
def hasI (sg : List Nat) (i : Int) : Bool := decide (0 ≤ i) && decide (i < sg.length) && !decide (at_ sg i = 35)
def hasV (sg : List Nat) : V → Bool
  | .int i => hasI sg i
  | _ => false
def places (sg : List Nat) : List Int := (List.range sg.length).map fun i => ((i : Nat) : Int)
def cellsOf (sg : List Nat) : List Int := (places sg).filter fun i => !decide (at_ sg i = 35)
def z13 (sg : List Nat) : List Int := (places sg).filter fun i => decide (at_ sg i = 43)
theorem z298 {sg : List Nat} {i : Int} : i ∈ places sg ↔ 0 ≤ i ∧ i < sg.length := by
  unfold places
  rw [List.mem_map]
  constructor
  · rintro ⟨j, hj, rfl⟩
    have := List.mem_range.mp hj
    omega
  · intro h
    exact ⟨i.toNat, List.mem_range.mpr (by omega), by omega⟩
theorem z355 (sg : List Nat) : (places sg).Pairwise (· < ·) := by
  unfold places
  rw [List.pairwise_map]
  exact List.Pairwise.imp (fun h => by omega) List.pairwise_lt_range
theorem z465 (sg : List Nat) : cellsOf sg = (places sg).filter (hasI sg) := by
  unfold cellsOf
  refine List.filter_congr fun i hi => ?_
  have := z298.mp hi
  unfold hasI
  rw [decide_eq_true this.1, decide_eq_true this.2]
  rfl
theorem z263 {sg : List Nat} {i : Int} : i ∈ cellsOf sg ↔ hasI sg i = true := by
  rw [z465, List.mem_filter, z298]
  unfold hasI
  simp only [Bool.and_eq_true, decide_eq_true_eq]
  constructor
  · intro h; exact h.2
  · intro h; exact ⟨h.1, h⟩
def nearOf (w : Nat) (c : Int) : List Int := [c - w] ++ (if c % w > 0 then [c - 1] else []) ++ (if c % w < (w : Int) - 1 then [c + 1] else []) ++ [c + w]
def z14 (w : Nat) (sg : List Nat) (c : Int) : List Int := (nearOf w c).filter (hasI sg)
def z155 (w : Nat) (sg : List Nat) (c : Int) : List Int := (cellsOf sg).filter fun o => decide ((o / w - c / w) * (o / w - c / w) + (o % w - c % w) * (o % w - c % w) = 1)
theorem z464 {w h : Nat} {sg : List Nat} (g : Good w h sg) {c : Int} (c0 : 0 ≤ c) (c1 : c < sg.length) : z14 w sg c = z155 w sg c := by
  have w0 : (0 : Int) < w := by have := g.w0; omega
  have q0 := Int.emod_nonneg c (show (w : Int) ≠ 0 by omega)
  have q1 := Int.emod_lt_of_pos c w0
  have qd := Int.mul_ediv_add_emod c w
  refine z546 ?_ ?_ fun o => ?_
  · unfold z14 nearOf
    refine List.Pairwise.filter _ ?_
    by_cases a1 : c % w > 0 <;> by_cases a2 : c % w < (w : Int) - 1 <;> simp [a1, a2, List.pairwise_cons] <;> omega
  · unfold z155 cellsOf
    exact ((z355 sg).filter _).filter _
  · unfold z14 z155
    rw [List.mem_filter, List.mem_filter, z263, decide_eq_true_eq]
    have mem : o ∈ nearOf w c ↔ o = c - w ∨ (c % w > 0 ∧ o = c - 1) ∨ (c % w < (w : Int) - 1 ∧ o = c + 1) ∨ o = c + w := by
      unfold nearOf
      by_cases a1 : c % w > 0 <;> by_cases a2 : c % w < (w : Int) - 1 <;> simp [a1, a2]
    rw [mem]
    constructor
    · rintro ⟨hm, ho⟩
      refine ⟨ho, ?_⟩
      rcases hm with rfl | ⟨a1, rfl⟩ | ⟨a2, rfl⟩ | rfl
      · obtain ⟨e1, e2⟩ := z444 (c := c - w) (b := c / w - 1) (q := c % w) w0 (by rw [Int.mul_sub, Int.mul_one]; omega) q0 q1
        rw [e1, e2, show c / (w : Int) - 1 - c / w = -1 by omega, Int.sub_self]
        rfl
      · obtain ⟨e1, e2⟩ := z444 (c := c - 1) (b := c / w) (q := c % w - 1) w0 (by omega) (by omega) (by omega)
        rw [e1, e2, show c % (w : Int) - 1 - c % w = -1 by omega, Int.sub_self]
        rfl
      · obtain ⟨e1, e2⟩ := z444 (c := c + 1) (b := c / w) (q := c % w + 1) w0 (by omega) (by omega) (by omega)
        rw [e1, e2, show c % (w : Int) + 1 - c % w = 1 by omega, Int.sub_self]
        rfl
      · obtain ⟨e1, e2⟩ := z444 (c := c + w) (b := c / w + 1) (q := c % w) w0 (by rw [Int.mul_add, Int.mul_one]; omega) q0 q1
        rw [e1, e2, show c / (w : Int) + 1 - c / w = 1 by omega, Int.sub_self]
        rfl
    · rintro ⟨ho, hs⟩
      refine ⟨?_, ho⟩
      have r0 := Int.emod_nonneg o (show (w : Int) ≠ 0 by omega)
      have r1 := Int.emod_lt_of_pos o w0
      have rd := Int.mul_ediv_add_emod o w
      rcases sq_one hs with ⟨x0, y1⟩ | ⟨y0, x1⟩
      · have e : o / (w : Int) = c / w := by omega
        rw [e] at rd
        rcases y1 with y1 | y1
        · exact .inr (.inr (.inl ⟨by omega, by omega⟩))
        · exact .inr (.inl ⟨by omega, by omega⟩)
      · rcases x1 with x1 | x1
        · have e : o / (w : Int) = c / w + 1 := by omega
          rw [e, Int.mul_add, Int.mul_one] at rd
          exact .inr (.inr (.inr (by omega)))
        · have e : o / (w : Int) = c / w - 1 := by omega
          rw [e, Int.mul_sub, Int.mul_one] at rd
          exact .inl (by omega)
theorem z515 {w h : Nat} {sg : List Nat} (g : Good w h sg) {c : Int} (c0 : 0 ≤ c) (c1 : c < sg.length) : (c / w).toNat < h ∧ 0 ≤ c / w ∧ 0 ≤ c % w ∧ c % w < w ∧ (lineOf w sg (c / w).toNat).cps.toList[(c % w).toNat]? = some (at_ sg c) := by
  have w0 : (0 : Int) < w := by have := g.w0; omega
  have q0 := Int.emod_nonneg c (show (w : Int) ≠ 0 by omega)
  have q1 := Int.emod_lt_of_pos c w0
  have qd := Int.mul_ediv_add_emod c w
  have d0 := Int.ediv_nonneg c0 (show (0 : Int) ≤ w by omega)
  obtain ⟨j, hj⟩ := Int.eq_ofNat_of_zero_le d0
  obtain ⟨r, hr⟩ := Int.eq_ofNat_of_zero_le q0
  rw [hj, hr] at qd ⊢
  rw [hr] at q1
  have len := g.len
  have hc : c = ((w * j + r : Nat) : Int) := by rw [← qd]; simp
  have hjh : j < h := by
    have : w * j < w * h := by omega
    exact Nat.lt_of_mul_lt_mul_left this
  refine ⟨by simpa using hjh, by omega, by omega, q1, ?_⟩
  unfold lineOf at_
  rw [z51, hc]
  simp only [Int.toNat_natCast]
  rw [List.getElem?_take_of_lt (by omega), List.getElem?_drop]
  have : w * j + r < sg.length := by omega
  simp [this]
theorem slice_list {cs : List Nat} {a b : Nat} (hab : a ≤ b) (hb : b ≤ cs.length) : (Txt.slice (txt cs) (some (a : Int)) (some (b : Int))).cps.toList = (cs.drop a).take (b - a) := by
  have hi : Builtin.Str.strSliceIndices (some (a : Int)) (some (b : Int)) 1 (txt cs).length = (List.range (b - a)).map fun k => a + k := by
    rw [z30]
    unfold Builtin.Str.strSliceIndices sliceRange
    have e1 : ¬ ((a : Int) < 0) := by omega
    have e2 : ¬ ((b : Int) < 0) := by omega
    simp only [e1, e2, if_false, show (1 : Int) > 0 by decide, if_true, Int.ediv_one]
    have e3 : max 0 (min (a : Int) (cs.length : Int)) = a := by omega
    have e4 : max 0 (min (b : Int) (cs.length : Int)) = b := by omega
    rw [e3, e4]
    have e5 : (if (a : Int) < b then (b : Int) - a + 1 - 1 else 0).toNat = b - a := by split <;> omega
    rw [e5]
    refine List.map_congr_left fun k _ => ?_
    omega
  have pick : ((List.range (b - a)).map fun k => a + k).filterMap ((txt cs).cps[·]?) = (cs.drop a).take (b - a) := by
    refine List.ext_getElem? fun j => ?_
    rw [HT.z130 (g := fun m => cs.getD m 0) (fun m hm => ?_)]
    · rw [List.getElem?_map, List.getElem?_map]
      by_cases hj : j < b - a
      · rw [List.getElem?_range hj, List.getElem?_take_of_lt hj, List.getElem?_drop]
        have : a + j < cs.length := by omega
        simp [this]
      · rw [List.getElem?_eq_none (by simpa using hj), List.getElem?_eq_none (by rw [List.length_take]; omega)]
        rfl
    · obtain ⟨k, hk, rfl⟩ := List.mem_map.mp hm
      have := List.mem_range.mp hk
      have : a + k < cs.length := by omega
      simp [txt, this]
  unfold Txt.slice
  rw [hi]
  split
  · rename_i h
    have h' : b - a = cs.length := by
      simp only [beq_self_eq_true, Bool.true_and, beq_iff_eq, List.length_map, List.length_range, z30] at h
      exact h
    have ha : a = 0 := by omega
    have hbl : b = cs.length := by omega
    rw [z51, ha, hbl]
    simp
  · show (List.filterMap _ _).toArray.toList = _
    rw [List.toList_toArray]
    exact pick
theorem z489 {cs : List Nat} : (Txt.slice (txt cs) (some (1 : Int)) none).cps.toList = cs.drop 1 := by
  cases cs with
  | nil => rfl
  | cons c r =>
    have hi : Builtin.Str.strSliceIndices (some (1 : Int)) none 1 (txt (c :: r)).length = (List.range r.length).map fun k => 1 + k := by
      rw [z30]
      unfold Builtin.Str.strSliceIndices sliceRange
      simp only [show ¬ ((1 : Int) < 0) by decide, if_false, show (1 : Int) > 0 by decide, if_true, Int.ediv_one, List.length_cons]
      have e3 : max 0 (min (1 : Int) ((r.length + 1 : Nat) : Int)) = 1 := by omega
      rw [e3]
      have e5 : (if (1 : Int) < ((r.length + 1 : Nat) : Int) then ((r.length + 1 : Nat) : Int) - 1 + 1 - 1 else 0).toNat = r.length := by split <;> omega
      rw [e5]
      refine List.map_congr_left fun k _ => ?_
      omega
    unfold Txt.slice
    rw [hi, if_neg (by simp [z30])]
    show (List.filterMap _ _).toArray.toList = _
    rw [List.toList_toArray, HT.z130 (g := fun m => (c :: r).getD m 0) (fun m hm => ?_)]
    · refine List.ext_getElem? fun j => ?_
      rw [List.getElem?_map, List.getElem?_map]
      by_cases hj : j < r.length
      · rw [List.getElem?_range hj]
        simp [hj, Nat.add_comm 1 j]
      · rw [List.getElem?_eq_none (by simpa using hj), List.getElem?_eq_none (by simpa using hj)]
        rfl
    · obtain ⟨k, hk, rfl⟩ := List.mem_map.mp hm
      have := List.mem_range.mp hk
      simp [txt, Nat.add_comm 1 k, this]
theorem z517 {w h : Nat} {sg : List Nat} (hl : sg.length = w * h) {j : Nat} (hj : j < h) : Txt.slice (txt sg) (some ((w * j : Nat) : Int)) (some ((w * j + w : Nat) : Int)) = lineOf w sg j := by
  refine z217 ?_
  have := z668 (w := w) hj
  rw [slice_list (by omega) (by omega), lineOf, z51]
  congr 1
  omega
end Fl
set_option Elab.async false
set_option linter.all false
namespace Hq
open PySem L2
theorem z393 : ∀ a : List Int, HT.lexLt a a = false
  | [] => rfl
  | x :: a => by rw [HT.lexLt_cons, if_pos rfl]; exact z393 a
theorem z470 : ∀ {a b : List Int}, HT.lexLt a b = true → HT.lexLt b a = false
  | [], [], h => by cases h
  | [], _ :: _, _ => rfl
  | _ :: _, [], h => by cases h
  | x :: a, y :: b, h => by
    rw [HT.lexLt_cons] at h ⊢
    by_cases e : x = y
    · rw [if_pos e] at h
      rw [if_pos e.symm]
      exact z470 h
    · rw [if_neg e, decide_eq_true_eq] at h
      rw [if_neg (fun z => e z.symm)]
      exact decide_eq_false (by omega)
def Le (a b : List Int) : Prop := HT.lexLt b a = false
theorem Le.refl (a : List Int) : Le a a := z393 a
theorem Le.of {a b : List Int} (h : HT.lexLt a b = true) : Le a b := z470 h
theorem Le.trans : ∀ {a b c : List Int}, Le a b → Le b c → Le a c
  | [], _, [], _, _ => rfl
  | [], _, _ :: _, _, _ => rfl
  | _ :: _, [], _, h, _ => by cases h
  | _ :: _, _ :: _, [], _, h => by cases h
  | x :: a, y :: b, z :: c, h1, h2 => by
    unfold Le at h1 h2 ⊢
    rw [HT.lexLt_cons] at h1 h2 ⊢
    by_cases e1 : y = x <;> by_cases e2 : z = y
    · rw [if_pos e1] at h1
      rw [if_pos e2] at h2
      rw [if_pos (e2.trans e1)]
      exact Le.trans (a := a) (b := b) h1 h2
    · rw [if_neg e2, decide_eq_false_iff_not] at h2
      rw [if_neg (by omega)]
      exact decide_eq_false (by omega)
    · rw [if_neg e1, decide_eq_false_iff_not] at h1
      rw [if_neg (by omega)]
      exact decide_eq_false (by omega)
    · rw [if_neg e1, decide_eq_false_iff_not] at h1
      rw [if_neg e2, decide_eq_false_iff_not] at h2
      rw [if_neg (by omega)]
      exact decide_eq_false (by omega)
section
variable {α : Type} {k : α → List Int} {ts : List α}
def Hok (k : α → List Int) (ts : List α) : Prop := ∀ (i : Nat) (x y : α), 0 < i → ts[i]? = some x → ts[(i - 1) / 2]? = some y → Le (k y) (k x)
def swp (ts : List α) (p a : Nat) (x y : α) : List α := (ts.set p y).set a x
theorem z670 {p a : Nat} {x y : α} (hp : p < ts.length) (ha : a < ts.length) (i : Nat) : (swp ts p a x y)[i]? = if i = a then some x else if i = p then some y else ts[i]? := by
  unfold swp
  rw [List.getElem?_set]
  by_cases e : a = i
  · subst e
    rw [if_pos rfl, if_pos rfl, if_pos (by rw [List.length_set]; exact ha)]
  · rw [if_neg e, if_neg (fun z => e z.symm), List.getElem?_set]
    by_cases e2 : p = i
    · subst e2
      rw [if_pos rfl, if_pos rfl, if_pos hp]
    · rw [if_neg e2, if_neg (fun z => e2 z.symm)]
theorem z719 {p a : Nat} {x y : α} : (swp ts p a x y).length = ts.length := by simp [swp]
structure Lift (k : α → List Int) (ts : List α) (p : Nat) : Prop where
  up : ∀ (i : Nat) (x y : α), 0 < i → i ≠ p → ts[i]? = some x → ts[(i - 1) / 2]? = some y → Le (k y) (k x)
  gp : 0 < p → ∀ (i : Nat) (x y : α), 0 < i → (i - 1) / 2 = p → ts[i]? = some x → ts[(p - 1) / 2]? = some y → Le (k y) (k x)
theorem z28 {i : Nat} {x : α} (h : ts[i]? = some x) : i < ts.length := (List.getElem?_eq_some_iff.mp h).1
theorem Lift.step {p : Nat} {x y : α} (L : Lift k ts p) (p0 : 0 < p) (hx : ts[p]? = some x) (hy : ts[(p - 1) / 2]? = some y) (h : HT.lexLt (k x) (k y) = true) : Lift k (swp ts p ((p - 1) / 2) x y) ((p - 1) / 2) := by
  have lp := z28 hx
  have la := z28 hy
  have ne : (p - 1) / 2 ≠ p := by omega
  have g := z670 (x := x) (y := y) lp la
  refine ⟨fun i u v i0 ia hu hv => ?_, fun a0 i u v i0 ia hu hv => ?_⟩
  · rw [g] at hu hv
    rw [if_neg ia] at hu
    by_cases ip : i = p
    · subst ip
      rw [if_pos rfl] at hu hv
      cases hu
      cases hv
      exact Le.of h
    · rw [if_neg ip] at hu
      by_cases ja : (i - 1) / 2 = (p - 1) / 2
      · rw [if_pos ja] at hv
        cases hv
        exact Le.trans (Le.of h) (L.up i u y i0 ip hu (by rw [ja]; exact hy))
      · rw [if_neg ja] at hv
        by_cases jp : (i - 1) / 2 = p
        · rw [if_pos jp] at hv
          cases hv
          exact L.gp p0 i u _ i0 jp hu hy
        · rw [if_neg jp] at hv
          exact L.up i u v i0 ip hu hv
  · rw [g] at hu hv
    have e1 : ¬ ((p - 1) / 2 - 1) / 2 = (p - 1) / 2 := by omega
    have e2 : ¬ ((p - 1) / 2 - 1) / 2 = p := by omega
    rw [if_neg e1, if_neg e2] at hv
    have hz := L.up _ y v a0 ne hy hv
    rw [if_neg (show ¬ i = (p - 1) / 2 by omega)] at hu
    by_cases ip : i = p
    · rw [if_pos ip] at hu
      cases hu
      exact hz
    · rw [if_neg ip] at hu
      exact Le.trans hz (L.up i u y i0 ip hu (by rw [ia]; exact hy))
theorem Lift.done {p : Nat} (L : Lift k ts p) (h : p = 0 ∨ ∃ x y, ts[p]? = some x ∧ ts[(p - 1) / 2]? = some y ∧ HT.lexLt (k x) (k y) = false) : Hok k ts := by
  intro i x y i0 hx hy
  by_cases ip : i = p
  · subst ip
    rcases h with h | ⟨x', y', h1, h2, h3⟩
    · omega
    · rw [hx] at h1
      rw [hy] at h2
      cases h1
      cases h2
      exact h3
  · exact L.up i x y i0 ip hx hy
theorem Lift.start {t : α} (h : Hok k ts) : Lift k (ts ++ [t]) ts.length := by
  refine ⟨fun i x y i0 ip hx hy => ?_, fun p0 i x y i0 ip hx hy => ?_⟩
  · have li := z28 hx
    rw [List.length_append, List.length_cons, List.length_nil] at li
    rw [List.getElem?_append_left (by omega)] at hx
    rw [List.getElem?_append_left (by omega)] at hy
    exact h i x y i0 hx hy
  · have li := z28 hx
    rw [List.length_append, List.length_cons, List.length_nil] at li
    omega
structure Sink (k : α → List Int) (ts : List α) (p : Nat) : Prop where
  up : ∀ (i : Nat) (x y : α), 0 < i → (i - 1) / 2 ≠ p → ts[i]? = some x → ts[(i - 1) / 2]? = some y → Le (k y) (k x)
  gp : 0 < p → ∀ (i : Nat) (x y : α), 0 < i → (i - 1) / 2 = p → ts[i]? = some x → ts[(p - 1) / 2]? = some y → Le (k y) (k x)
structure Lesser (k : α → List Int) (ts : List α) (p b : Nat) : Prop where
  b0 : 0 < b
  bp : (b - 1) / 2 = p
  le : ∀ (i : Nat) (x y : α), 0 < i → (i - 1) / 2 = p → ts[i]? = some x → ts[b]? = some y → Le (k y) (k x)
theorem Sink.step {p b : Nat} {x y : α} (S : Sink k ts p) (B : Lesser k ts p b) (hx : ts[b]? = some x) (hy : ts[p]? = some y) (h : HT.lexLt (k x) (k y) = true) : Sink k (swp ts p b y x) b := by
  have lb := z28 hx
  have lp := z28 hy
  have b0 := B.b0
  have bp := B.bp
  have g := z670 (x := y) (y := x) lp lb
  refine ⟨fun i u v i0 jb hu hv => ?_, fun _ i u v i0 jb hu hv => ?_⟩
  · rw [g] at hu hv
    rw [if_neg jb] at hv
    by_cases jp : (i - 1) / 2 = p
    · rw [if_pos jp] at hv
      cases hv
      by_cases ib : i = b
      · rw [if_pos ib] at hu
        cases hu
        exact Le.of h
      · rw [if_neg ib, if_neg (by omega)] at hu
        exact B.le i u _ i0 jp hu hx
    · rw [if_neg jp] at hv
      rw [if_neg (fun z => jp (by rw [z]; exact bp))] at hu
      by_cases ip : i = p
      · rw [if_pos ip] at hu
        cases hu
        subst ip
        exact S.gp i0 b _ v b0 bp hx hv
      · rw [if_neg ip] at hu
        exact S.up i u v i0 jp hu hv
  · rw [g] at hu hv
    rw [if_neg (show ¬ (b - 1) / 2 = b by omega), if_pos bp] at hv
    cases hv
    rw [if_neg (show ¬ i = b by omega), if_neg (show ¬ i = p by omega)] at hu
    exact S.up i u _ i0 (by omega) hu (by rw [jb]; exact hx)
theorem Sink.done {p : Nat} (S : Sink k ts p) (h : (∀ i, 0 < i → (i - 1) / 2 = p → ts[i]? = none) ∨ ∃ b x y, Lesser k ts p b ∧ ts[b]? = some x ∧ ts[p]? = some y ∧ HT.lexLt (k x) (k y) = false) : Hok k ts := by
  intro i x y i0 hx hy
  by_cases ip : (i - 1) / 2 = p
  · rcases h with h | ⟨b, x', y', B, h1, h2, h3⟩
    · rw [h i i0 ip] at hx
      cases hx
    · rw [ip, h2] at hy
      cases hy
      exact Le.trans h3 (B.le i x x' i0 ip hx h1)
  · exact S.up i x y i0 ip hx hy
theorem Sink.start {z : α} (h : Hok k ts) : Sink k (ts.set 0 z) 0 := by
  refine ⟨fun i x y i0 jp hx hy => ?_, fun p0 => absurd p0 (Nat.lt_irrefl _)⟩
  rw [List.getElem?_set_ne (by omega)] at hx
  rw [List.getElem?_set_ne (by omega)] at hy
  exact h i x y i0 hx hy
theorem Hok.least (h : Hok k ts) {r : α} (hr : ts[0]? = some r) : ∀ (i : Nat) (x : α), ts[i]? = some x → Le (k r) (k x) := by
  intro i
  induction i using Nat.strongRecOn with
  | _ i ih =>
    intro x hx
    by_cases i0 : 0 < i
    · have li := z28 hx
      obtain ⟨y, hy⟩ : ∃ y, ts[(i - 1) / 2]? = some y := ⟨_, List.getElem?_eq_getElem (by omega)⟩
      exact Le.trans (ih _ (by omega) y hy) (h i x y i0 hx hy)
    · have : i = 0 := by omega
      subst this
      rw [hr] at hx
      cases hx
      exact Le.refl _
theorem Hok.init {t : α} (h : Hok k (ts ++ [t])) : Hok k ts := by
  intro i x y i0 hx hy
  have li := z28 hx
  exact h i x y i0 (by rw [List.getElem?_append_left li]; exact hx) (by rw [List.getElem?_append_left (by omega)]; exact hy)
theorem z608 [DecidableEq α] {p a : Nat} {x y : α} (hx : ts[p]? = some x) (hy : ts[a]? = some y) (ne : p ≠ a) : (swp ts p a x y).Perm ts := by
  have lp := z28 hx
  have la := z28 hy
  rw [List.perm_iff_count]
  intro z
  unfold swp
  have la' : a < (ts.set p y).length := by rw [List.length_set]; exact la
  have e1 : ts[p] = x := (List.getElem?_eq_some_iff.mp hx).2
  have e2 : ts[a] = y := (List.getElem?_eq_some_iff.mp hy).2
  rw [List.count_set la', List.count_set lp, List.getElem_set_ne ne, e1, e2]
  have c1 : (if (x == z) = true then 1 else 0) ≤ ts.count z := by
    split
    · rename_i h
      rw [beq_iff_eq] at h
      exact List.count_pos_iff.mpr (h ▸ List.mem_of_getElem? hx)
    · exact Nat.zero_le _
  omega
end
end Hq
set_option linter.all false
namespace Dj
section
variable {st : Int → List (Int × Int)} {C G : List Int}
inductive Reach (st : Int → List (Int × Int)) (C G : List Int) : Int → Int → Prop
  | goal {g : Int} : g ∈ G → Reach st C G g 0
  | step {c o w n : Int} : c ∈ C → (o, w) ∈ st c → Reach st C G o n → Reach st C G c (w + n)
def Least (st : Int → List (Int × Int)) (C G : List Int) (c n : Int) : Prop := Reach st C G c n ∧ ∀ m, Reach st C G c m → n ≤ m
def Pos (st : Int → List (Int × Int)) : Prop := ∀ c o w, (o, w) ∈ st c → 1 ≤ w
theorem Reach.nn (hw : Pos st) {c n : Int} (h : Reach st C G c n) : 0 ≤ n := by
  induction h with
  | goal _ => exact Int.le_refl _
  | step _ h2 _ ih =>
    have := hw _ _ _ h2
    omega
theorem Reach.inC (hg : ∀ g ∈ G, g ∈ C) {c n : Int} (h : Reach st C G c n) : c ∈ C := by
  cases h with
  | goal h => exact hg _ h
  | step h _ _ => exact h
theorem Least.uniq {c n m : Int} (h : Least st C G c n) (h' : Least st C G c m) : n = m := Int.le_antisymm (h.2 _ h'.1) (h'.2 _ h.1)
structure Inv (st : Int → List (Int × Int)) (C G : List Int) (cv : Int → Option Int) (It : Int → Int → Prop) : Prop where
  d1 : ∀ c n, cv c = some n → Least st C G c n
  d2 : ∀ n c, It n c → Reach st C G c n
  d3 : ∀ g ∈ G, (cv g).isSome = true ∨ It 0 g
  d4 : ∀ o n c w, cv o = some n → c ∈ C → (o, w) ∈ st c → (cv c).isSome = true ∨ It (n + w) c
variable {cv cv' : Int → Option Int} {It It' : Int → Int → Prop}
theorem Inv.item (I : Inv st C G cv It) (hw : Pos st) {c m : Int} (h : Reach st C G c m) : cv c = none → ∃ k x, It k x ∧ k ≤ m := by
  induction h with
  | @goal g hg =>
    intro e
    rcases I.d3 g hg with h | h
    · rw [e] at h; cases h
    · exact ⟨0, g, h, Int.le_refl _⟩
  | @step c o w n hc ho hr ih =>
    intro e
    cases eo : cv o with
    | none =>
      obtain ⟨k, x, h1, h2⟩ := ih eo
      have := hw _ _ _ ho
      exact ⟨k, x, h1, by omega⟩
    | some n' =>
      have := (I.d1 o n' eo).2 n hr
      rcases I.d4 o n' c w eo hc ho with h | h
      · rw [e] at h; cases h
      · exact ⟨_, _, h, by omega⟩
theorem Inv.least (I : Inv st C G cv It) (hw : Pos st) {n c : Int} (h : It n c) (hm : ∀ k x, It k x → n ≤ k) (e : cv c = none) : Least st C G c n :=
  ⟨I.d2 n c h, fun m hr => by
    obtain ⟨k, x, h1, h2⟩ := I.item hw hr e
    have := hm k x h1
    omega⟩
theorem Inv.done (I : Inv st C G cv It) (hw : Pos st) (h : ∀ n c, ¬ It n c) {c m : Int} (hr : Reach st C G c m) : ∃ n, cv c = some n := by
  cases e : cv c with
  | none =>
    obtain ⟨k, x, h1, _⟩ := I.item hw hr e
    exact absurd h1 (h k x)
  | some n => exact ⟨n, rfl⟩
theorem Inv.drop (I : Inv st C G cv It) {c : Int} (hc : (cv c).isSome = true) (h1 : ∀ n x, It' n x → It n x) (h2 : ∀ n x, It n x → It' n x ∨ x = c) : Inv st C G cv It' :=
  ⟨I.d1, fun n x h => I.d2 n x (h1 n x h), fun g hg => (I.d3 g hg).elim .inl fun h => (h2 _ _ h).elim .inr fun e => .inl (by rw [e]; exact hc),
    fun o n x w ho hx hs => (I.d4 o n x w ho hx hs).elim .inl fun h => (h2 _ _ h).elim .inr fun e => .inl (by rw [e]; exact hc)⟩
theorem Inv.add (I : Inv st C G cv It) (hw : Pos st) {n c : Int} (h : It n c) (hm : ∀ k x, It k x → n ≤ k) (e : cv c = none) (hv : ∀ x, cv' x = if x = c then some n else cv x)
    (h1 : ∀ m x, It' m x → It m x ∨ ∃ w, x ∈ C ∧ (c, w) ∈ st x ∧ m = n + w) (h2 : ∀ m x, It m x → It' m x ∨ x = c) (h3 : ∀ x w, x ∈ C → (c, w) ∈ st x → It' (n + w) x) : Inv st C G cv' It' := by
  have hl := I.least hw h hm e
  have self : (cv' c).isSome = true := by rw [hv, if_pos rfl]; rfl
  have up : ∀ x, (cv x).isSome = true → (cv' x).isSome = true := fun x h => by
    rw [hv]
    split
    · rfl
    · exact h
  refine ⟨fun x m hx => ?_, fun m x hx => ?_, fun g hg => ?_, fun o m x w ho hx hs => ?_⟩
  · rw [hv] at hx
    by_cases q : x = c
    · rw [if_pos q] at hx
      cases hx
      rw [q]
      exact hl
    · rw [if_neg q] at hx
      exact I.d1 x m hx
  · rcases h1 m x hx with h | ⟨w, hxc, hs, rfl⟩
    · exact I.d2 m x h
    · rw [Int.add_comm]
      exact .step hxc hs hl.1
  · rcases I.d3 g hg with h | h
    · exact .inl (up g h)
    · rcases h2 _ _ h with h | h
      · exact .inr h
      · exact .inl (by rw [h]; exact self)
  · rw [hv] at ho
    by_cases q : o = c
    · rw [if_pos q] at ho
      cases ho
      exact .inr (h3 x w hx (by rw [← q]; exact hs))
    · rw [if_neg q] at ho
      rcases I.d4 o m x w ho hx hs with h | h
      · exact .inl (up x h)
      · rcases h2 _ _ h with h | h
        · exact .inr h
        · exact .inl (by rw [h]; exact self)
theorem rounds (jg : ∀ g ∈ G, ∃ n, cv g = some n ∧ n ≤ 0) (jf : ∀ c ∈ C, ∀ o w n, (o, w) ∈ st c → cv o = some n → ∃ m, cv c = some m ∧ m ≤ w + n) {c m : Int} (h : Reach st C G c m) : ∃ n, cv c = some n ∧ n ≤ m := by
  induction h with
  | goal hg => exact jg _ hg
  | @step c o w n hc ho hr ih =>
    obtain ⟨k, h1, h2⟩ := ih
    obtain ⟨m, h3, h4⟩ := jf c hc o w k ho h1
    exact ⟨m, h3, by omega⟩
end
end Dj
set_option Elab.async false
set_option linter.all false
set_option maxRecDepth 100000
namespace Pf
open PySem L2
def top (i : Nat) : Stmt := PySem.Challenge.pw_floorways_k08_costs.main.body.getD i (.Pass ⟨0, 0, 0, 0⟩)
abbrev s_q22 : Stmt := inClass (top 8) 0
abbrev s_q29 : Stmt := inClass (top 8) 1
abbrev s_q17 : Stmt := inClass (top 8) 2
abbrev s_q23 : Stmt := inClass (top 8) 3
abbrev s_q24 : Stmt := inClass (top 8) 4
abbrev s_q5 : Stmt := inClass (top 8) 6
abbrev s_q4 : Stmt := inClass (top 8) 7
abbrev s_q1 : Stmt := inClass (top 8) 8
abbrev s_q25 : Stmt := inClass (top 8) 9
abbrev s_q18 : Stmt := top 10
abbrev s_q6 : Stmt := top 11
abbrev s_q30 : Stmt := top 12
abbrev s_q31 : Stmt := top 13
abbrev s_q32 : Stmt := top 15
abbrev s_q33 : Stmt := top 16
abbrev s_q26 : Stmt := top 25
abbrev s_q14 : Stmt := top 26
abbrev s_q19 : Stmt := inClass (top 27) 0
abbrev s_q27 : Stmt := inClass (top 27) 1
abbrev s_q20 : Stmt := inClass (top 27) 2
abbrev s_q9 : Stmt := inClass (top 27) 3
abbrev s_q28 : Stmt := inClass (top 27) 4
abbrev s_q15 : Stmt := inClass (top 27) 5
abbrev s_q7 : Stmt := inClass (top 27) 6
abbrev s_q10 : Stmt := inClass (top 27) 7
abbrev s_q11 : Stmt := inClass (top 32) 0
abbrev s_q2 : Stmt := inClass (top 32) 2
abbrev s_q12 : Stmt := inClass (top 32) 4
abbrev s_q8 : Stmt := inClass (top 32) 6
abbrev s_q0 : Stmt := inClass (top 32) 8
abbrev s_q3 : Stmt := inClass (top 34) 1
abbrev s_q13 : Stmt := inClass (top 34) 3
abbrev s_q16 : Stmt := inClass (top 35) 2
abbrev s_q21 : Stmt := top 36
abbrev s_Lat : Stmt := top 38
abbrev s_q36 : Stmt := top 39
abbrev s_q37 : Stmt := top 40
abbrev s_q38 : Stmt := top 41
abbrev z141 : Stmt := top 42
abbrev s_q39 : Stmt := top 43
abbrev s_q34 : Stmt := top 44
abbrev s_q35 : Stmt := top 45
abbrev z49 : Stmt := top 46
abbrev s_q40 : Stmt := top 47
abbrev s_q41 : Stmt := top 48
abbrev z93 : Stmt := top 49
abbrev s_law : Stmt := top 50
structure Ad where
  q22 : Addr
  q29 : Addr
  q17 : Addr
  q23 : Addr
  q24 : Addr
  q5 : Addr
  q4 : Addr
  q1 : Addr
  q25 : Addr
  q18 : Addr
  q6 : Addr
  q30 : Addr
  q31 : Addr
  q32 : Addr
  q33 : Addr
  q26 : Addr
  q14 : Addr
  q19 : Addr
  q27 : Addr
  q20 : Addr
  q9 : Addr
  q28 : Addr
  q15 : Addr
  q7 : Addr
  q10 : Addr
  q11 : Addr
  q2 : Addr
  q12 : Addr
  q8 : Addr
  q0 : Addr
  q3 : Addr
  q13 : Addr
  q16 : Addr
  q21 : Addr
  Lat : Addr
  q36 : Addr
  q37 : Addr
  q38 : Addr
  Lsign : Addr
  q39 : Addr
  q34 : Addr
  q35 : Addr
  Lcost : Addr
  q40 : Addr
  q41 : Addr
  Lsame : Addr
  law : Addr
  C_Floor : Addr
  C_Cart : Addr
  C_Crawler : Addr
  C_Runner : Addr
  C_Carrier : Addr
  C_Heap : Addr
  K_KINDS : Addr
  K_COMMON_SIGNS : Addr
structure Txt (K : PySem.W.Frag) (mg : Str → Option Value) (ad : Ad) : Prop where
  b_len : mg "len" = none
  b_range : mg "range" = none
  b_isinstance : mg "isinstance" = none
  b_all : mg "all" = none
  b_int : mg "int" = none
  b_bool : mg "bool" = none
  b_str : mg "str" = none
  b_list : mg "list" = none
  b_tuple : mg "tuple" = none
  b_dict : mg "dict" = none
  b_min : mg "min" = none
  b_max : mg "max" = none
  c_WALL : ∃ u, mg "WALL" = some u ∧ RelV (V.str (Str.ofString "#")) u
  c_CHARGER : ∃ u, mg "CHARGER" = some u ∧ RelV (V.str (Str.ofString "+")) u
  c_ROUGH : ∃ u, mg "ROUGH" = some u ∧ RelV (V.str (Str.ofString "~")) u
  c_LANE : ∃ u, mg "LANE" = some u ∧ RelV (V.str (Str.ofString "|")) u
  c_SIGNS : ∃ u, mg "SIGNS" = some u ∧ RelV (V.str (Str.ofString ".#+~|")) u
  c_MOST_ROWS : ∃ u, mg "MOST_ROWS" = some u ∧ RelV (V.int 10) u
  c_MOST_SIGNS : ∃ u, mg "MOST_SIGNS" = some u ∧ RelV (V.int 10) u
  c_KINDS : ∃ u, mg "KINDS" = some u ∧ RelV (.ref ad.K_KINDS) u
  c_MOST_FULL : ∃ u, mg "MOST_FULL" = some u ∧ RelV (V.int 60) u
  c_COMMON_SIGNS : ∃ u, mg "COMMON_SIGNS" = some u ∧ RelV (.ref ad.K_COMMON_SIGNS) u
  m_q29 : Meth K ad.C_Heap "put" ad.q29
  m_q17 : Meth K ad.C_Heap "least" ad.q17
  m_q23 : Meth K ad.C_Heap "take" ad.q23
  m_q24 : Meth K ad.C_Heap "size" ad.q24
  m_q5 : Meth K ad.C_Heap "lift_last" ad.q5
  m_q4 : Meth K ad.C_Heap "sink_first" ad.q4
  m_q1 : Meth K ad.C_Heap "lesser_below" ad.q1
  m_q25 : Meth K ad.C_Heap "swap" ad.q25
  mg_q18 : mg "steps_into" = some (.ref ad.q18)
  k_q18 : PySem.W.keepIn K (.ref ad.q18) = true
  mg_q6 : mg "standing_cells" = some (.ref ad.q6)
  k_q6 : PySem.W.keepIn K (.ref ad.q6) = true
  mg_q30 : mg "costs_to" = some (.ref ad.q30)
  k_q30 : PySem.W.keepIn K (.ref ad.q30) = true
  mg_q31 : mg "needs_of" = some (.ref ad.q31)
  k_q31 : PySem.W.keepIn K (.ref ad.q31) = true
  mg_q32 : mg "is_whole" = some (.ref ad.q32)
  k_q32 : PySem.W.keepIn K (.ref ad.q32) = true
  mg_q33 : mg "is_among" = some (.ref ad.q33)
  k_q33 : PySem.W.keepIn K (.ref ad.q33) = true
  mg_q26 : mg "check_row" = some (.ref ad.q26)
  k_q26 : PySem.W.keepIn K (.ref ad.q26) = true
  mg_q14 : mg "check_floor" = some (.ref ad.q14)
  k_q14 : PySem.W.keepIn K (.ref ad.q14) = true
  m_q27 : Meth K ad.C_Floor "has" ad.q27
  m_q20 : Meth K ad.C_Floor "sign" ad.q20
  m_q9 : Meth K ad.C_Floor "column" ad.q9
  m_q28 : Meth K ad.C_Floor "row" ad.q28
  m_q15 : Meth K ad.C_Floor "cells" ad.q15
  m_q7 : Meth K ad.C_Floor "chargers" ad.q7
  m_q10 : Meth K ad.C_Floor "beside" ad.q10
  m_q2 : Meth K ad.C_Carrier "may_stand" ad.q2
  m_q12 : Meth K ad.C_Carrier "fare" ad.q12
  m_q8 : Meth K ad.C_Carrier "steps" ad.q8
  m_q0 : Meth K ad.C_Carrier "fare_if_standing" ad.q0
  m_q3 : Meth K ad.C_Crawler "may_stand" ad.q3
  m_q13 : Meth K ad.C_Crawler "fare" ad.q13
  m_q16 : Meth K ad.C_Runner "fare" ad.q16
  mg_q21 : mg "carrier_of" = some (.ref ad.q21)
  k_q21 : PySem.W.keepIn K (.ref ad.q21) = true
  mg_Lat : mg "_law_at" = some (.ref ad.Lat)
  k_Lat : PySem.W.keepIn K (.ref ad.Lat) = true
  mg_q36 : mg "_law_mixed" = some (.ref ad.q36)
  k_q36 : PySem.W.keepIn K (.ref ad.q36) = true
  mg_q37 : mg "_law_whole" = some (.ref ad.q37)
  k_q37 : PySem.W.keepIn K (.ref ad.q37) = true
  mg_q38 : mg "_law_lines" = some (.ref ad.q38)
  k_q38 : PySem.W.keepIn K (.ref ad.q38) = true
  mg_Lsign : mg "_law_sign" = some (.ref ad.Lsign)
  k_Lsign : PySem.W.keepIn K (.ref ad.Lsign) = true
  mg_q39 : mg "_law_cells" = some (.ref ad.q39)
  k_q39 : PySem.W.keepIn K (.ref ad.q39) = true
  mg_q34 : mg "_law_beside" = some (.ref ad.q34)
  k_q34 : PySem.W.keepIn K (.ref ad.q34) = true
  mg_q35 : mg "_law_stands" = some (.ref ad.q35)
  k_q35 : PySem.W.keepIn K (.ref ad.q35) = true
  mg_Lcost : mg "_law_cost" = some (.ref ad.Lcost)
  k_Lcost : PySem.W.keepIn K (.ref ad.Lcost) = true
  mg_q40 : mg "_law_steps" = some (.ref ad.q40)
  k_q40 : PySem.W.keepIn K (.ref ad.q40) = true
  mg_q41 : mg "_law_costs" = some (.ref ad.q41)
  k_q41 : PySem.W.keepIn K (.ref ad.q41) = true
  mg_Lsame : mg "_law_same" = some (.ref ad.Lsame)
  k_Lsame : PySem.W.keepIn K (.ref ad.Lsame) = true
  mg_law : mg "law" = some (.ref ad.law)
  k_law : PySem.W.keepIn K (.ref ad.law) = true
  mg_Floor : mg "Floor" = some (.ref ad.C_Floor)
  cl_Floor : Cls K ad.C_Floor
  n_Floor_wide : NoAttr K ad.C_Floor "wide"
  n_Floor_high : NoAttr K ad.C_Floor "high"
  n_Floor_lines : NoAttr K ad.C_Floor "lines"
  n_Floor_signs : NoAttr K ad.C_Floor "signs"
  mk_Floor : Mk K ad.C_Floor ad.q19
  mg_Cart : mg "Cart" = some (.ref ad.C_Cart)
  cl_Cart : Cls K ad.C_Cart
  n_Cart_full : NoAttr K ad.C_Cart "full"
  mk_Cart : Mk K ad.C_Cart ad.q11
  mg_Crawler : mg "Crawler" = some (.ref ad.C_Crawler)
  cl_Crawler : Cls K ad.C_Crawler
  n_Crawler_full : NoAttr K ad.C_Crawler "full"
  mk_Crawler : Mk K ad.C_Crawler ad.q11
  mg_Runner : mg "Runner" = some (.ref ad.C_Runner)
  cl_Runner : Cls K ad.C_Runner
  n_Runner_full : NoAttr K ad.C_Runner "full"
  mk_Runner : Mk K ad.C_Runner ad.q11
  mg_Carrier : mg "Carrier" = some (.ref ad.C_Carrier)
  cl_Carrier : Cls K ad.C_Carrier
  n_Carrier_full : NoAttr K ad.C_Carrier "full"
  mk_Carrier : Mk K ad.C_Carrier ad.q11
  mg_Heap : mg "Heap" = some (.ref ad.C_Heap)
  cl_Heap : Cls K ad.C_Heap
  n_Heap_things : NoAttr K ad.C_Heap "things"
  mk_Heap : Mk K ad.C_Heap ad.q22
  m_Cart_may_stand : Meth K ad.C_Cart "may_stand" ad.q2
  m_Cart_fare : Meth K ad.C_Cart "fare" ad.q12
  m_Cart_steps : Meth K ad.C_Cart "steps" ad.q8
  m_Cart_fare_if_standing : Meth K ad.C_Cart "fare_if_standing" ad.q0
  m_Crawler_steps : Meth K ad.C_Crawler "steps" ad.q8
  m_q13_if_standing : Meth K ad.C_Crawler "fare_if_standing" ad.q0
  m_Runner_may_stand : Meth K ad.C_Runner "may_stand" ad.q2
  m_Runner_steps : Meth K ad.C_Runner "steps" ad.q8
  m_q16_if_standing : Meth K ad.C_Runner "fare_if_standing" ad.q0
  cgx : PySem.W.specialIn K (.builtin "object.__class__") "__get__" = some (some (.builtin "getset_descriptor.__get__"))
  ctx : PySem.W.takesIn K (.builtin "object.__class__") = some true
  ca_Cart : PySem.W.findIn K (.ref ad.C_Cart) "__class__" = some (some (.builtin "object.__class__"))
  cm_Cart : PySem.W.mroIn K ad.C_Cart (.type "object") = some true
  is_Cart_Carrier : PySem.W.kitOne K (.ref ad.C_Cart) (.ref ad.C_Carrier) = some true
  is_Cart_Cart : PySem.W.kitOne K (.ref ad.C_Cart) (.ref ad.C_Cart) = some true
  is_Cart_Crawler : PySem.W.kitOne K (.ref ad.C_Cart) (.ref ad.C_Crawler) = some false
  is_Cart_Runner : PySem.W.kitOne K (.ref ad.C_Cart) (.ref ad.C_Runner) = some false
  ca_Crawler : PySem.W.findIn K (.ref ad.C_Crawler) "__class__" = some (some (.builtin "object.__class__"))
  cm_Crawler : PySem.W.mroIn K ad.C_Crawler (.type "object") = some true
  is_Crawler_Carrier : PySem.W.kitOne K (.ref ad.C_Crawler) (.ref ad.C_Carrier) = some true
  is_Crawler_Cart : PySem.W.kitOne K (.ref ad.C_Crawler) (.ref ad.C_Cart) = some false
  is_Crawler_Crawler : PySem.W.kitOne K (.ref ad.C_Crawler) (.ref ad.C_Crawler) = some true
  is_Crawler_Runner : PySem.W.kitOne K (.ref ad.C_Crawler) (.ref ad.C_Runner) = some false
  ca_Runner : PySem.W.findIn K (.ref ad.C_Runner) "__class__" = some (some (.builtin "object.__class__"))
  cm_Runner : PySem.W.mroIn K ad.C_Runner (.type "object") = some true
  is_Runner_Carrier : PySem.W.kitOne K (.ref ad.C_Runner) (.ref ad.C_Carrier) = some true
  is_Runner_Cart : PySem.W.kitOne K (.ref ad.C_Runner) (.ref ad.C_Cart) = some false
  is_Runner_Crawler : PySem.W.kitOne K (.ref ad.C_Runner) (.ref ad.C_Crawler) = some false
  is_Runner_Runner : PySem.W.kitOne K (.ref ad.C_Runner) (.ref ad.C_Runner) = some true
  ca_Carrier : PySem.W.findIn K (.ref ad.C_Carrier) "__class__" = some (some (.builtin "object.__class__"))
  cm_Carrier : PySem.W.mroIn K ad.C_Carrier (.type "object") = some true
  is_Carrier_Carrier : PySem.W.kitOne K (.ref ad.C_Carrier) (.ref ad.C_Carrier) = some true
  is_Carrier_Cart : PySem.W.kitOne K (.ref ad.C_Carrier) (.ref ad.C_Cart) = some false
  is_Carrier_Crawler : PySem.W.kitOne K (.ref ad.C_Carrier) (.ref ad.C_Crawler) = some false
  is_Carrier_Runner : PySem.W.kitOne K (.ref ad.C_Carrier) (.ref ad.C_Runner) = some false
  kt_KINDS : ∀ H, SqT K H ad.K_KINDS [V.str (Str.ofString "cart"), V.str (Str.ofString "crawler"), V.str (Str.ofString "runner")]
  kt_COMMON_SIGNS : ∀ H, SqT K H ad.K_COMMON_SIGNS [V.str (Str.ofString "."), V.str (Str.ofString "+"), V.str (Str.ofString "|")]
def isI : V → Bool
  | .int _ => true
  | _ => false
def isIB : V → Bool
  | .int _ => true
  | .bl _ => true
  | _ => false
def isB : V → Bool
  | .bl _ => true
  | _ => false
def TyB (K : PySem.W.Frag) (H : Hp) (x : V) : Prop := ∃ n, TyOf K H x (.type n)
theorem z665 {K : PySem.W.Frag} {H : Hp} {x : V} {n : String} (h : TyOf K H x (.type n)) : PySem.W.kitOne K (.type n) (.type "int") = some (isIB x) := by
  cases h <;> rfl
theorem z597 {K : PySem.W.Frag} {H : Hp} {x : V} {n : String} (h : TyOf K H x (.type n)) : PySem.W.kitOne K (.type n) (.type "bool") = some (isB x) := by
  cases h <;> rfl
def z339 (K : PySem.W.Frag) : Sp := fun vs H Q _ => ∃ x, vs = [x] ∧ TyB K H x ∧ Q (.bl (isI x)) H
theorem z4 {t u : TS} {D : Ends} {σ : St} {H : Hp} (M : St → Hp → Prop) (h1 : ∀ nx : St → Hp → Prop, (∀ σ' H', M σ' H' → nx σ' H') → t { D with nx := nx } σ H) (h2 : ∀ σ' H', M σ' H' → u D σ' H') : tSeq t u D σ H := h1 (u D) h2
def amg : V → Int → Int → Bool
  | .int i, lo, hi => decide (lo ≤ i) && decide (i ≤ hi)
  | _, _, _ => false
def z401 (K : PySem.W.Frag) : Sp := fun vs H Q _ => ∃ x lo hi, vs = [x, .int lo, .int hi] ∧ TyB K H x ∧ Q (.bl (amg x lo hi)) H
def spAt (K : PySem.W.Frag) : Sp := fun vs H Q _ => ∃ (a : Addr) (ns : List Int) (k : Int), vs = [.ref a, .int k] ∧ SqL K H a (ns.map V.int) ∧ ns.length ≤ 63 ∧ 0 ≤ k ∧ k ≤ 1000 ∧ ∀ r : Int, 0 ≤ r → r < 2147483647 → Q (.int r) H
open Fl
def flds (w h : Nat) (l : Addr) (sg : List Nat) : List (Str × V) := putF "signs" (.str (txt sg)) (putF "lines" (.ref l) (putF "high" (.int (h : Int)) (putF "wide" (.int (w : Int)) [])))
theorem f_wide (w h : Nat) (l : Addr) (sg : List Nat) : (flds w h l sg).lookup ("wide" : Str) = some (.int (w : Int)) := by
  unfold flds
  rw [lookup_putF, if_neg (by decide +kernel), lookup_putF, if_neg (by decide +kernel), lookup_putF, if_neg (by decide +kernel), lookup_putF, if_pos rfl]
theorem z344 (w h : Nat) (l : Addr) (sg : List Nat) : (flds w h l sg).lookup ("signs" : Str) = some (.str (txt sg)) := by
  unfold flds
  rw [lookup_putF, if_pos rfl]
theorem f_no (w h : Nat) (l : Addr) (sg : List Nat) {m : Str} (h1 : ¬ m = "signs") (h2 : ¬ m = "lines") (h3 : ¬ m = "high") (h4 : ¬ m = "wide") : (flds w h l sg).lookup m = none := by
  unfold flds
  rw [lookup_putF, if_neg h1, lookup_putF, if_neg h2, lookup_putF, if_neg h3, lookup_putF, if_neg h4]
  rfl
def z50 (H : Hp) (l : Addr) (w h : Nat) (sg : List Nat) : Prop := H l = some (.lst ((linesOf w h sg).map V.str))
structure z40 (C : Addr) (H : Hp) (p : Addr) (w h : Nat) (sg : List Nat) : Prop where
  ob : ∃ dx l, H p = some (.ins C dx (flds w h l sg)) ∧ z50 H l w h sg
theorem z40.same {C : Addr} {H H' : Hp} {p : Addr} {w h : Nat} {sg : List Nat} (F : z40 C H p w h sg) (s : Same H H') : z40 C H' p w h sg := by
  obtain ⟨dx, l, h1, h2⟩ := F.ob
  exact ⟨⟨dx, l, s _ _ h1, s _ _ h2⟩⟩
theorem z701 {c : Nat} (h : sgOk c) : c ∈ (Str.ofString ".#+~|").cps.toList := by
  have e : (Str.ofString ".#+~|").cps.toList = [46, 35, 43, 126, 124] := by decide +kernel
  rw [e]
  rcases h with z | z | z | z | z <;> simp [z]
def inSg : V → V
  | .str z => .bl (decide (z.cps.getD 0 0 ∈ (Str.ofString ".#+~|").cps.toList))
  | _ => .bl false
def isWall : V → V
  | .str z => .bl (decide (z = Str.ofString "#"))
  | _ => .bl false
theorem z455 (c : Nat) : ((⟨#[c]⟩ : Str) = Str.ofString "#") ↔ c = 35 := by
  have e : (Str.ofString "#").cps = #[35] := by decide +kernel
  constructor
  · intro h
    have := congrArg Str.cps h
    rw [e] at this
    simpa using this
  · intro h
    subst h
    exact z217 (by rw [e])
theorem z699 (c : Nat) : ((⟨#[c]⟩ : Str) = Str.ofString "+") ↔ c = 43 := by
  have e : (Str.ofString "+").cps = #[43] := by decide +kernel
  constructor
  · intro h
    have := congrArg Str.cps h
    rw [e] at this
    simpa using this
  · intro h
    subst h
    exact z217 (by rw [e])
theorem at_txt {sg : List Nat} {c : Int} (c0 : 0 ≤ c) (c1 : c < sg.length) : atI (txt sg).cps.toList c = some (at_ sg c) := by
  obtain ⟨j, rfl⟩ := Int.eq_ofNat_of_zero_le c0
  have hj : j < sg.length := by omega
  refine atI_nat ?_
  rw [z51]
  unfold at_
  simp [hj]
def isCh (sg : List Nat) : V → Bool
  | .int i => decide (at_ sg i = 43)
  | _ => false
def noWall (sg : List Nat) : V → Bool
  | .int i => !decide (at_ sg i = 35)
  | _ => false
def lineV (w : Nat) (sg : List Nat) : V → V
  | .int i => .str (Txt.slice (txt sg) (some ((w : Int) * i)) (some ((w : Int) * i + (w : Int))))
  | v => v
def spRow : Sp := fun vs H Q _ => ∃ (x : Str) (n : Nat), vs = [.str x, .int (n : Int)] ∧ x.length = n ∧ n ≤ 10 ∧ (∀ c ∈ x.cps.toList, sgOk c) ∧ ∀ H', Same H H' → Q .non H'
def z524 : Sp := fun vs H Q _ => ∃ (l : Addr) (w h : Nat) (sg : List Nat), vs = [.ref l] ∧ z50 H l w h sg ∧ Good w h sg ∧ ∀ H', Same H H' → Q .non H'
def spInit (C : Addr) : Sp := fun vs H Q _ => ∃ (p dx l : Addr) (w h : Nat) (sg : List Nat), vs = [.ref p, .ref l] ∧ H p = some (.ins C dx []) ∧ z50 H l w h sg ∧ Good w h sg ∧ ∀ H' dx' l2, H l2 = none → H' p = some (.ins C dx' (flds w h l2 sg)) → z50 H' l2 w h sg → (∀ b o, H b = some o → b ≠ p → H' b = some o) → Q .non H'
def spHas (K : PySem.W.Frag) (C : Addr) : Sp := fun vs H Q _ => ∃ (p : Addr) (w h : Nat) (sg : List Nat) (x : V), vs = [.ref p, x] ∧ z40 C H p w h sg ∧ Good w h sg ∧ TyB K H x ∧ Q (.bl (hasV sg x)) H
def spSign (C : Addr) : Sp := fun vs H Q _ => ∃ (p : Addr) (w h : Nat) (sg : List Nat) (c : Int), vs = [.ref p, .int c] ∧ z40 C H p w h sg ∧ Good w h sg ∧ 0 ≤ c ∧ c < sg.length ∧ Q (chr1 (at_ sg c)) H
def spCol (C : Addr) : Sp := fun vs H Q _ => ∃ (p : Addr) (w h : Nat) (sg : List Nat) (c : Int), vs = [.ref p, .int c] ∧ z40 C H p w h sg ∧ Good w h sg ∧ Q (.int (c % w)) H
def z534 (C : Addr) : Sp := fun vs H Q _ => ∃ (p : Addr) (w h : Nat) (sg : List Nat) (c : Int), vs = [.ref p, .int c] ∧ z40 C H p w h sg ∧ Good w h sg ∧ Q (.int (c / w)) H
def Gives (H : Hp) (Q : VK) (xs : List Int) : Prop := ∀ r H', H r = none → Same H H' → H' r = some (.lst (xs.map V.int)) → Q (.ref r) H'
def z447 (C : Addr) : Sp := fun vs H Q _ => ∃ (p : Addr) (w h : Nat) (sg : List Nat), vs = [.ref p] ∧ z40 C H p w h sg ∧ Good w h sg ∧ Gives H Q (cellsOf sg)
def z286 (C : Addr) : Sp := fun vs H Q _ => ∃ (p : Addr) (w h : Nat) (sg : List Nat), vs = [.ref p] ∧ z40 C H p w h sg ∧ Good w h sg ∧ Gives H Q (z13 sg)
def z436 (C : Addr) : Sp := fun vs H Q _ => ∃ (p : Addr) (w h : Nat) (sg : List Nat) (c : Int), vs = [.ref p, .int c] ∧ z40 C H p w h sg ∧ Good w h sg ∧ Gives H Q (z14 w sg c)
def z595 : Sp := fun vs H Q _ => ∃ (c k : Int), vs = [.int c, .int k] ∧ 0 ≤ c ∧ c < 2147483647 ∧ 0 ≤ k ∧ k ≤ 1000 ∧ ∀ r : Int, 0 ≤ r → r < 2147483647 → Q (.int r) H
def z612 (K : PySem.W.Frag) : Sp := fun vs H Q _ => ∃ (a : Addr) (ns : List Int) (k m : Int), vs = [.ref a, .int k, .int m] ∧ SqL K H a (ns.map V.int) ∧ ns.length ≤ 63 ∧ 0 ≤ k ∧ k ≤ 100 ∧ 1 ≤ m ∧ m ≤ 10 ∧ ∀ l H' w h sg, H l = none → Same H H' → z50 H' l w h sg → Good w h sg → Q (.ref l) H'
def z340 : Sp := fun vs H Q _ => ∃ (l : Addr) (w h : Nat) (sg : List Nat) (c : Int), vs = [.ref l, .int c] ∧ z50 H l w h sg ∧ Good w h sg ∧ 0 ≤ c ∧ c < sg.length ∧ Q (chr1 (at_ sg c)) H
def z310 : Sp := fun vs H Q _ => ∃ (l : Addr) (w h : Nat) (sg : List Nat), vs = [.ref l] ∧ z50 H l w h sg ∧ Good w h sg ∧ Gives H Q (cellsOf sg)
def z360 : Sp := fun vs H Q _ => ∃ (l : Addr) (w h : Nat) (sg : List Nat) (c : Int), vs = [.ref l, .int c] ∧ z50 H l w h sg ∧ Good w h sg ∧ 0 ≤ c ∧ c < sg.length ∧ Gives H Q (z155 w sg c)
def SameB (k : Addr) (H H' : Hp) : Prop := ∀ b o, H b = some o → b ≠ k → H' b = some o
theorem _root_.L2.Same.b {H H' : Hp} (s : Same H H') (k : Addr) : SameB k H H' := fun b o h _ => s b o h
theorem SameB.trans {k : Addr} {H H1 H2 : Hp} (a : SameB k H H1) (b : SameB k H1 H2) : SameB k H H2 := fun c o h n => b c o (a c o h n) n
def KeptOk (H : Hp) (k : Addr) (n : Nat) : Prop := ∃ ts : List Addr, ts.length ≤ n ∧ H k = some (.lst (ts.map V.ref)) ∧ ∀ t ∈ ts, ∃ (a b : Addr) (xs : List Int), H t = some (.tup [.ref a, .ref b]) ∧ H a = some (.lst (xs.map V.int)) ∧ H b = some (.lst (xs.map V.int)) ∧ a ≠ k ∧ b ≠ k ∧ xs.length ≤ 1000
theorem KeptOk.same {H H' : Hp} {k : Addr} {n : Nat} (h : KeptOk H k n) (s : Same H H') : KeptOk H' k n := by
  obtain ⟨ts, h1, h2, h3⟩ := h
  refine ⟨ts, h1, s _ _ h2, fun t ht => ?_⟩
  obtain ⟨a, b, xs, e1, e2, e3, r⟩ := h3 t ht
  exact ⟨a, b, xs, s _ _ e1, s _ _ e2, s _ _ e3, r⟩
theorem KeptOk.mono {H : Hp} {k : Addr} {n m : Nat} (h : KeptOk H k n) (hm : n ≤ m) : KeptOk H k m := by
  obtain ⟨ts, h1, h2, h3⟩ := h
  exact ⟨ts, Nat.le_trans h1 hm, h2, h3⟩
theorem KeptOk.add {H : Hp} {k t a b : Addr} {n : Nat} {xs : List Int} (h : KeptOk H k n) (ht : H t = some (.tup [.ref a, .ref b])) (ha : H a = some (.lst (xs.map V.int))) (hb : H b = some (.lst (xs.map V.int))) (na : a ≠ k) (nb : b ≠ k) (hx : xs.length ≤ 1000) :
    ∃ ys, H k = some (.lst ys) ∧ ys.length ≤ n ∧ KeptOk (upd H k (.lst (ys ++ [V.ref t]))) k (n + 1) := by
  obtain ⟨ts, h1, h2, h3⟩ := h
  refine ⟨_, h2, by rw [List.length_map]; exact h1, ts ++ [t], by simp; exact h1, by rw [upd_same]; simp, fun u hu => ?_⟩
  have key : ∀ {u a b : Addr} {xs : List Int}, H u = some (.tup [.ref a, .ref b]) → H a = some (.lst (xs.map V.int)) → H b = some (.lst (xs.map V.int)) → a ≠ k → b ≠ k → xs.length ≤ 1000 →
      ∃ (a b : Addr) (xs : List Int), upd H k (.lst (ts.map V.ref ++ [V.ref t])) u = some (.tup [.ref a, .ref b]) ∧ upd H k (.lst (ts.map V.ref ++ [V.ref t])) a = some (.lst (xs.map V.int)) ∧ upd H k (.lst (ts.map V.ref ++ [V.ref t])) b = some (.lst (xs.map V.int)) ∧ a ≠ k ∧ b ≠ k ∧ xs.length ≤ 1000 :=
    fun {u a b xs} e1 e2 e3 n1 n2 hx => ⟨a, b, xs, by rw [upd_ne (ne_of e1 h2 (by intro z; cases z))]; exact e1, by rw [upd_ne n1]; exact e2, by rw [upd_ne n2]; exact e3, n1, n2, hx⟩
  rcases List.mem_append.mp hu with y | y
  · obtain ⟨a, b, xs, e1, e2, e3, n1, n2, hx⟩ := h3 u y
    exact key e1 e2 e3 n1 n2 hx
  · obtain rfl : u = t := by simpa using y
    exact key ht ha hb na nb hx
def KeptNo (H : Hp) (k x : Addr) : Prop := ∀ ts : List Addr, H k = some (.lst (ts.map V.ref)) → ∀ t ∈ ts, ∀ a b, H t = some (.tup [.ref a, .ref b]) → a ≠ x ∧ b ≠ x
theorem z349 {ts us : List Addr} (h : ts.map V.ref = us.map V.ref) : ts = us := by
  induction ts generalizing us with
  | nil => cases us with
    | nil => rfl
    | cons u us => cases h
  | cons t ts ih => cases us with
    | nil => cases h
    | cons u us =>
      rw [List.map_cons, List.map_cons] at h
      obtain ⟨e1, e2⟩ := List.cons.inj h
      rw [V.ref.inj e1, ih e2]
theorem KeptNo.same {H H' : Hp} {k y : Addr} {n : Nat} (h : KeptNo H k y) (hK : KeptOk H k n) (s : Same H H') : KeptNo H' k y := by
  obtain ⟨ts, _, h2, h3⟩ := hK
  intro us hu t ht a b e
  rw [s _ _ h2] at hu
  have := z349 (HO.lst.inj (Option.some.inj hu))
  subst this
  obtain ⟨a', b', xs, e1, _⟩ := h3 t ht
  rw [s _ _ e1] at e
  have e4 := HO.tup.inj (Option.some.inj e)
  cases e4
  exact h ts h2 t ht a b e1
theorem KeptNo.add {H : Hp} {k t a b y : Addr} {ys : List V} {ts : List Addr} (h : KeptNo H k y) (hk : H k = some (.lst (ts.map V.ref))) (ht : H t = some (.tup [.ref a, .ref b])) (na : a ≠ y) (nb : b ≠ y) : KeptNo (upd H k (.lst (ts.map V.ref ++ [V.ref t]))) k y := by
  intro us hu u hu' a' b' e
  rw [upd_same] at hu
  have e0 : us = ts ++ [t] := (z349 (by rw [List.map_append]; exact HO.lst.inj (Option.some.inj hu))).symm
  subst e0
  have nuk : u ≠ k := fun z => by rw [z, upd_same] at e; cases e
  rw [upd_ne nuk] at e
  rcases List.mem_append.mp hu' with q | q
  · exact h ts hk u q a' b' e
  · obtain rfl : u = t := by simpa using q
    rw [ht] at e
    have e4 := HO.tup.inj (Option.some.inj e)
    cases e4
    exact ⟨na, nb⟩
theorem z237 (sg : List Nat) : z13 sg = (cellsOf sg).filter fun i => decide (at_ sg i = 43) := by
  unfold z13 cellsOf
  rw [List.filter_filter]
  refine List.filter_congr fun i _ => ?_
  by_cases h : at_ sg i = 43
  · rw [decide_eq_true h, h]
    decide
  · rw [decide_eq_false h]
    rfl
theorem z220 {w h : Nat} {sg : List Nat} (g : Good w h sg) : (cellsOf sg).length ≤ 100 := by
  have := len100 g
  unfold cellsOf places
  refine Nat.le_trans (List.length_filter_le _ _) ?_
  rw [List.length_map, List.length_range]; omega
theorem z196 {w h : Nat} {sg : List Nat} (g : Good w h sg) : (z13 sg).length ≤ 100 := by
  have := len100 g
  unfold z13 places
  refine Nat.le_trans (List.length_filter_le _ _) ?_
  rw [List.length_map, List.length_range]; omega
def kindsL : List Str := ["cart", "crawler", "runner", "carrier"]
def clsOf (ad : Ad) : Nat → Addr
  | 0 => ad.C_Cart
  | 1 => ad.C_Crawler
  | 2 => ad.C_Runner
  | _ => ad.C_Carrier
def CarAt (ad : Ad) (H : Hp) (p : Addr) (i : Nat) (n : Int) : Prop := ∃ dx, H p = some (.ins (clsOf ad i) dx (putF "full" (.int n) []))
theorem CarAt.same {ad : Ad} {H H' : Hp} {p : Addr} {i : Nat} {n : Int} (s : Same H H') (h : CarAt ad H p i n) : CarAt ad H' p i n := let ⟨dx, e⟩ := h; ⟨dx, s _ _ e⟩
def common (c : Nat) : Bool := decide (c = 46 ∨ c = 43 ∨ c = 124)
def stands (i c : Nat) : Bool := common c || (decide (i = 1) && decide (c = 126))
def fareOf (i w : Nat) (sg : List Nat) (cell other : Int) : Option Int := match i with
  | 1 => some (if at_ sg other = 126 then 3 else 1)
  | 2 => if cell / w = other / w then some 1 else if at_ sg cell = 124 ∨ at_ sg other = 124 then some 2 else none
  | _ => some 1
def optV : Option Int → V
  | some i => .int i
  | none => .non
def costOf (i w : Nat) (sg : List Nat) (cell other : Int) : Option Int := if stands i (at_ sg cell) && stands i (at_ sg other) then fareOf i w sg cell other else none
def z78 (i w : Nat) (sg : List Nat) (cell other : Int) : Option Int := if stands i (at_ sg other) then fareOf i w sg cell other else none
def pairsOf (f : Int → Option Int) (os : List Int) : List (Int × Int) := os.filterMap fun o => (f o).map fun k => (o, k)
def z12 (i w : Nat) (sg : List Nat) (cell : Int) : List (Int × Int) := pairsOf (costOf i w sg cell) (z14 w sg cell)
def PairAt (H : Hp) (t : Addr) (p : Int × Int) : Prop := H t = some (.tup [.int p.1, .int p.2])
def PairsL (H : Hp) (r : Addr) (ps : List (Int × Int)) : Prop := ∃ ts : List Addr, H r = some (.lst (ts.map V.ref)) ∧ Paired (PairAt H) ts ps
def InF (sg : List Nat) (c : Int) : Prop := 0 ≤ c ∧ c < sg.length
def z463 (ad : Ad) : Sp := fun vs H Q _ => ∃ (p dx : Addr) (n : Int) (i : Nat), vs = [.ref p, .int n] ∧ H p = some (.ins (clsOf ad i) dx []) ∧ Q .non (upd H p (.ins (clsOf ad i) dx (putF "full" (.int n) [])))
def spMay (i : Nat) : Sp := fun vs H Q _ => ∃ x c, vs = [x, chr1 c] ∧ Q (.bl (stands i c)) H
def spFare (C : Addr) (i : Nat) : Sp := fun vs H Q _ => ∃ (x : V) (fl : Addr) (w h : Nat) (sg : List Nat) (cell other : Int), vs = [x, .ref fl, .int cell, .int other] ∧ z40 C H fl w h sg ∧ Good w h sg ∧ InF sg cell ∧ InF sg other ∧ ∀ H', Same H H' → Q (optV (fareOf i w sg cell other)) H'
def z369 (ad : Ad) : Sp := fun vs H Q _ => ∃ (p fl : Addr) (i : Nat) (n : Int) (w h : Nat) (sg : List Nat) (cell other : Int), vs = [.ref p, .ref fl, .int cell, .int other] ∧ CarAt ad H p i n ∧ i ≤ 3 ∧ z40 ad.C_Floor H fl w h sg ∧ Good w h sg ∧ InF sg cell ∧ InF sg other ∧ ∀ H', Same H H' → Q (optV (costOf i w sg cell other)) H'
def z468 (ad : Ad) : Sp := fun vs H Q _ => ∃ (p fl : Addr) (i : Nat) (n : Int) (w h : Nat) (sg : List Nat) (cell : Int), vs = [.ref p, .ref fl, .int cell] ∧ CarAt ad H p i n ∧ i ≤ 3 ∧ z40 ad.C_Floor H fl w h sg ∧ Good w h sg ∧ InF sg cell ∧ ∀ r H', H r = none → Same H H' → PairsL H' r (z12 i w sg cell) → Q (.ref r) H'
def spMake (ad : Ad) : Sp := fun vs H Q _ => ∃ (i : Nat) (x : Str) (n : Int), vs = [.str x, .int n] ∧ i < 3 ∧ kindsL[i]? = some x ∧ 1 ≤ n ∧ n ≤ 60 ∧ ∀ p H', Same H H' → H p = none → CarAt ad H' p i n → Q (.ref p) H'
def z293 : Sp := fun vs H Q _ => ∃ (i c : Nat) (x : Str), vs = [.str x, chr1 c] ∧ kindsL[i]? = some x ∧ Q (.bl (stands i c)) H
def z538 : Sp := fun vs H Q _ => ∃ (x : Str) (i : Nat) (l : Addr) (w h : Nat) (sg : List Nat) (cell other : Int), vs = [.str x, .ref l, .int cell, .int other] ∧ kindsL[i]? = some x ∧ z50 H l w h sg ∧ Good w h sg ∧ InF sg cell ∧ InF sg other ∧ Q (optV (z78 i w sg cell other)) H
def z429 : Sp := fun vs H Q _ => ∃ (x : Str) (i : Nat) (l : Addr) (w h : Nat) (sg : List Nat) (cell : Int), vs = [.str x, .ref l, .int cell] ∧ kindsL[i]? = some x ∧ z50 H l w h sg ∧ Good w h sg ∧ InF sg cell ∧ ∀ r H', H r = none → Same H H' → PairsL H' r (pairsOf (z78 i w sg cell) (z155 w sg cell)) → Q (.ref r) H'
def Kept2 (H : Hp) (k : Addr) (n : Nat) : Prop := ∃ ts : List Addr, ts.length ≤ n ∧ H k = some (.lst (ts.map V.ref)) ∧ ∀ t ∈ ts, ∃ (a b : Addr) (us : List Addr) (ps : List (Int × Int)), H t = some (.tup [.ref a, .ref b]) ∧ H a = some (.lst (us.map V.ref)) ∧ H b = some (.lst (us.map V.ref)) ∧ a ≠ k ∧ b ≠ k ∧ us.length ≤ 10 ∧ Paired (PairAt H) us ps
theorem cls_of {K : PySem.W.Frag} {mg : Str → Option Value} {ad : Ad} (T : Txt K mg ad) : ∀ i, Cls K (clsOf ad i)
  | 0 => T.cl_Cart
  | 1 => T.cl_Crawler
  | 2 => T.cl_Runner
  | (_ + 3) => T.cl_Carrier
theorem nof_of {K : PySem.W.Frag} {mg : Str → Option Value} {ad : Ad} (T : Txt K mg ad) : ∀ i, NoAttr K (clsOf ad i) "full"
  | 0 => T.n_Cart_full
  | 1 => T.n_Crawler_full
  | 2 => T.n_Runner_full
  | (_ + 3) => T.n_Carrier_full
theorem l_no (n : Int) {m : Str} (h : ¬ m = "full") : (putF "full" (V.int n) []).lookup m = none := by rw [lookup_putF, if_neg h]; rfl
theorem chr_eq {c k : Nat} {s : Str} (hs : s.cps = #[k]) : (chr1 c = V.str s) ↔ c = k := by
  constructor
  · intro h
    have h1 : (⟨#[c]⟩ : Str) = s := V.str.inj h
    have h2 := congrArg Str.cps h1
    rw [hs] at h2
    simpa using h2
  · intro h
    subst h
    exact congrArg V.str (z217 (by rw [hs]))
theorem q126 {c : Nat} : (chr1 c = V.str (Str.ofString "~")) ↔ c = 126 := chr_eq (by decide +kernel)
theorem q43 {c : Nat} : (chr1 c = V.str (Str.ofString "+")) ↔ c = 43 := chr_eq (by decide +kernel)
theorem q124 {c : Nat} : (chr1 c = V.str (Str.ofString "|")) ↔ c = 124 := chr_eq (by decide +kernel)
theorem z604 {c k : Nat} {s : Str} (hs : s.cps = #[k]) : eqV (V.str s) (chr1 c) = decide (c = k) := by
  have e : eqV (V.str s) (chr1 c) = (s == (⟨#[c]⟩ : Str)) := rfl
  rw [e, Bool.eq_iff_iff, beq_iff_eq, decide_eq_true_iff]
  constructor
  · intro h
    exact (chr_eq hs).mp (congrArg V.str h.symm)
  · intro h
    exact (V.str.inj ((chr_eq hs).mpr h)).symm
theorem z445 {c : Nat} : inV (chr1 c) [V.str (Str.ofString "."), V.str (Str.ofString "+"), V.str (Str.ofString "|")] = common c := by
  simp only [inV, List.any_cons, List.any_nil, Bool.or_false, common]
  rw [z604 (k := 46) (by decide +kernel), z604 (k := 43) (by decide +kernel), z604 (k := 124) (by decide +kernel), Bool.decide_or, Bool.decide_or]
theorem z451 {w h : Nat} {sg : List Nat} (g : Good w h sg) {c o : Int} (ho : o ∈ z14 w sg c) : InF sg o := by
  unfold z14 at ho
  have h := (List.mem_filter.mp ho).2
  unfold hasI at h
  simp only [Bool.and_eq_true, decide_eq_true_eq] at h
  exact ⟨h.1.1, h.1.2⟩
theorem z312 {w : Nat} {sg : List Nat} {c : Int} : (z14 w sg c).length ≤ 4 := by
  unfold z14
  refine Nat.le_trans (List.length_filter_le _ _) ?_
  unfold nearOf
  split <;> split <;> simp
def PO (f : Int → Option Int) (H : Hp) (t : Addr) (o : Int) : Prop := H t = some (.tup [.int o, optV (f o)])
def pvv (H : Hp) : V → Bool
  | .ref t => (match H t with
    | some (.tup [_, y]) => !decide (y = .non)
    | _ => false)
  | _ => false
theorem z389 {f : Int → Option Int} {H : Hp} : ∀ {ts : List Addr} {os : List Int}, Paired (PO f H) ts os → ∃ us : List Addr, (ts.map V.ref).filter (pvv H) = us.map V.ref ∧ Paired (PairAt H) us (pairsOf f os)
  | _, _, .nil => ⟨[], rfl, .nil⟩
  | _, _, .cons (a := t) (b := o) (l₁ := ts) (l₂ := os) h r => by
    obtain ⟨us, e, q⟩ := z389 r
    have h : H t = some (.tup [.int o, optV (f o)]) := h
    rw [List.map_cons, List.filter_cons]
    cases z : f o with
    | none =>
      rw [if_neg (by simp [pvv, h, z, optV]), e]
      refine ⟨us, rfl, ?_⟩
      unfold pairsOf at q ⊢
      rw [List.filterMap_cons, z]
      exact q
    | some k =>
      rw [if_pos (by simp [pvv, h, z, optV]), e]
      refine ⟨t :: us, rfl, ?_⟩
      unfold pairsOf at q ⊢
      rw [List.filterMap_cons, z]
      exact .cons (by rw [z] at h; exact h) q
def kinds3 : List Str := ["cart", "crawler", "runner"]
theorem z675 {x : Str} : inV (.str x) [V.str (Str.ofString "cart"), V.str (Str.ofString "crawler"), V.str (Str.ofString "runner")] = decide (x ∈ kinds3) := by
  have e : ∀ a : Str, (a == x) = decide (x = a) := fun a => by
    rw [Bool.eq_iff_iff, beq_iff_eq, decide_eq_true_iff]
    exact eq_comm
  simp only [inV, eqV, List.any_cons, List.any_nil, Bool.or_false, kinds3, List.mem_cons, List.not_mem_nil, or_false]
  rw [e, e, e, Bool.decide_or, Bool.decide_or]
theorem nofl {w h : Nat} {l : Addr} {sg : List Nat} {m : Str} (a : ¬ m = "signs") (b : ¬ m = "lines") (c : ¬ m = "high") (d : ¬ m = "wide") : (flds w h l sg).lookup m = none := f_no _ _ _ _ a b c d
theorem e_al4 {ad : Ad} {sp : Sp} : ∀ i, i ≤ 3 → (clsOf ad i, sp) ∈ [(ad.C_Cart, sp), (ad.C_Crawler, sp), (ad.C_Runner, sp), (ad.C_Carrier, sp)]
  | 0, _ => by simp [clsOf]
  | 1, _ => by simp [clsOf]
  | 2, _ => by simp [clsOf]
  | 3, _ => by simp [clsOf]
  | (_ + 4), h => by omega
theorem e_may {ad : Ad} : ∀ i, i ≤ 3 → ∃ j, (clsOf ad i, spMay j) ∈ [(ad.C_Cart, spMay 0), (ad.C_Crawler, spMay 1), (ad.C_Runner, spMay 0), (ad.C_Carrier, spMay 0)] ∧ ∀ c, stands j c = stands i c
  | 0, _ => ⟨0, by simp [clsOf], fun _ => rfl⟩
  | 1, _ => ⟨1, by simp [clsOf], fun _ => rfl⟩
  | 2, _ => ⟨0, by simp [clsOf], fun _ => rfl⟩
  | 3, _ => ⟨0, by simp [clsOf], fun _ => rfl⟩
  | (_ + 4), h => by omega
theorem e_fare {ad : Ad} {C : Addr} : ∀ i, i ≤ 3 → ∃ j, (clsOf ad i, spFare C j) ∈ [(ad.C_Cart, spFare C 0), (ad.C_Crawler, spFare C 1), (ad.C_Runner, spFare C 2), (ad.C_Carrier, spFare C 0)] ∧ ∀ w sg a b, fareOf j w sg a b = fareOf i w sg a b
  | 0, _ => ⟨0, by simp [clsOf], fun _ _ _ _ => rfl⟩
  | 1, _ => ⟨1, by simp [clsOf], fun _ _ _ _ => rfl⟩
  | 2, _ => ⟨2, by simp [clsOf], fun _ _ _ _ => rfl⟩
  | 3, _ => ⟨0, by simp [clsOf], fun _ _ _ _ => rfl⟩
  | (_ + 4), h => by omega
theorem z400 {α β : Type} {R : α → β → Prop} {ts : List α} {os : List β} (p : Paired R ts os) {t : α} (ht : t ∈ ts) : ∃ o, R t o := by
  induction p with
  | nil => cases ht
  | cons h r ih => rcases List.mem_cons.mp ht with rfl | z; exact ⟨_, h⟩; exact ih z
theorem z373 {c : Nat} : c ∈ (Str.ofString ".+|").cps.toList ↔ common c = true := by
  have e : (Str.ofString ".+|").cps.toList = [46, 43, 124] := by decide +kernel
  rw [e]
  simp [common]
theorem kx : ∀ (i : Nat) (x : Str), kindsL[i]? = some x → (x = Str.ofString "crawler" ↔ i = 1) ∧ (x = Str.ofString "runner" ↔ i = 2) ∧ i ≤ 3
  | 0, _, h => by cases h; decide +kernel
  | 1, _, h => by cases h; decide +kernel
  | 2, _, h => by cases h; decide +kernel
  | 3, _, h => by cases h; decide +kernel
  | (i + 4), _, h => by simp [kindsL] at h
theorem Kept2.same {H H' : Hp} {k : Addr} {n : Nat} (h : Kept2 H k n) (s : Same H H') : Kept2 H' k n := by
  obtain ⟨ts, h1, h2, h3⟩ := h
  refine ⟨ts, h1, s _ _ h2, fun t ht => ?_⟩
  obtain ⟨a, b, us, ps, e1, e2, e3, n1, n2, l, q⟩ := h3 t ht
  exact ⟨a, b, us, ps, s _ _ e1, s _ _ e2, s _ _ e3, n1, n2, l, Paired.mapP q fun _ _ z => s _ _ z⟩
theorem Kept2.mono {H : Hp} {k : Addr} {n m : Nat} (h : Kept2 H k n) (hm : n ≤ m) : Kept2 H k m := by
  obtain ⟨ts, h1, h2⟩ := h
  exact ⟨ts, Nat.le_trans h1 hm, h2⟩
theorem Kept2.add {H : Hp} {k t a b : Addr} {n : Nat} {us : List Addr} {ps : List (Int × Int)} (h : Kept2 H k n) (ht : H t = some (.tup [.ref a, .ref b])) (ha : H a = some (.lst (us.map V.ref))) (hb : H b = some (.lst (us.map V.ref))) (na : a ≠ k) (nb : b ≠ k) (hl : us.length ≤ 10) (hp : Paired (PairAt H) us ps) :
    ∃ ys, H k = some (.lst ys) ∧ ys.length ≤ n ∧ Kept2 (upd H k (.lst (ys ++ [V.ref t]))) k (n + 1) := by
  obtain ⟨ts, h1, h2, h3⟩ := h
  refine ⟨_, h2, by rw [List.length_map]; exact h1, ts ++ [t], by simp; exact h1, by rw [upd_same]; simp, fun u hu => ?_⟩
  have key : ∀ {u a b : Addr} {us : List Addr} {ps : List (Int × Int)}, H u = some (.tup [.ref a, .ref b]) → H a = some (.lst (us.map V.ref)) → H b = some (.lst (us.map V.ref)) → a ≠ k → b ≠ k → us.length ≤ 10 → Paired (PairAt H) us ps →
      ∃ (a b : Addr) (us : List Addr) (ps : List (Int × Int)), upd H k (.lst (ts.map V.ref ++ [V.ref t])) u = some (.tup [.ref a, .ref b]) ∧ upd H k (.lst (ts.map V.ref ++ [V.ref t])) a = some (.lst (us.map V.ref)) ∧ upd H k (.lst (ts.map V.ref ++ [V.ref t])) b = some (.lst (us.map V.ref)) ∧ a ≠ k ∧ b ≠ k ∧ us.length ≤ 10 ∧ Paired (PairAt (upd H k (.lst (ts.map V.ref ++ [V.ref t])))) us ps :=
    fun {u a b us ps} e1 e2 e3 n1 n2 hx q => ⟨a, b, us, ps, by rw [upd_ne (ne_of e1 h2 (by intro z; cases z))]; exact e1, by rw [upd_ne n1]; exact e2, by rw [upd_ne n2]; exact e3, n1, n2, hx, Paired.mapP q fun c d z => by
      show upd _ _ _ c = _
      have z : H c = some (.tup [.int d.1, .int d.2]) := z
      rw [upd_ne (ne_of z h2 (by intro z; cases z))]
      exact z⟩
  rcases List.mem_append.mp hu with y | y
  · obtain ⟨a, b, us, ps, e1, e2, e3, n1, n2, hx, q⟩ := h3 u y
    exact key e1 e2 e3 n1 n2 hx q
  · obtain rfl : u = t := by simpa using y
    exact key ht ha hb na nb hl hp
theorem z711 {i w : Nat} {sg : List Nat} {c o : Int} (h : stands i (at_ sg c) = true) : costOf i w sg c o = z78 i w sg c o := by
  unfold costOf z78
  rw [h, Bool.true_and]
theorem z698 {i w h : Nat} {sg : List Nat} {c : Int} (g : Good w h sg) (c0 : 0 ≤ c) (c1 : c < sg.length) (hs : stands i (at_ sg c) = true) : z12 i w sg c = pairsOf (z78 i w sg c) (z155 w sg c) := by
  unfold z12
  rw [z464 g c0 c1]
  have e : costOf i w sg c = z78 i w sg c := funext fun o => z711 hs
  rw [e]
theorem z691 {n : Nat} {H : Hp} {tt : TT} {te : TE} {cs : St} {F : List V → Hp → Prop} (Pv : Nat → List V → Hp → Prop) (h0 : Pv 0 [] H)
    (hs : ∀ i ys H, i < n → Pv i ys H → tt (some (.int (0 + (i : Int))) :: cs) H fun b H3 => if b = true then te (some (.int (0 + (i : Int))) :: cs) H3 fun y H4 => ys.length ≤ sizeLine ∧ Pv (i + 1) (ys ++ [y]) H4 else Pv (i + 1) ys H3)
    (hd : ∀ ys H, Pv n ys H → ys.length ≤ sizeLine ∧ F ys H) : ∃ W : Nat → Nat → List V → Hp → Prop, (∃ m, W 0 m [] H) ∧ CompW (Itr 0 n) (gName 0) tt te (none :: cs) W F :=
  z705 (x := fun i => .int (0 + (i : Int))) Pv h0 (fun i ys H hi _ => ⟨hi, fun y H' e => ⟨e.1, e.2⟩⟩) (fun _ _ _ => Nat.le_refl _) hs hd
def Cars (ad : Ad) (H : Hp) (ps : List Addr) (fs : List Int) : Prop := ∀ j p f, ps[j]? = some p → fs[j]? = some f → CarAt ad H p j f
theorem Cars.same {ad : Ad} {H H' : Hp} {ps : List Addr} {fs : List Int} (s : Same H H') (h : Cars ad H ps fs) : Cars ad H' ps fs := fun j p f a b => (h j p f a b).same s
theorem Cars.snoc {ad : Ad} {H : Hp} {ps : List Addr} {fs : List Int} {p : Addr} (h : Cars ad H ps fs) (hp : ∀ f, fs[ps.length]? = some f → CarAt ad H p ps.length f) : Cars ad H (ps ++ [p]) fs := fun j q f a b => by
  rcases Nat.lt_or_ge j ps.length with z | z
  · rw [List.getElem?_append_left z] at a
    exact h j q f a b
  · rw [List.getElem?_append_right z] at a
    have e : j = ps.length := by
      have := (List.getElem?_eq_some_iff.mp a).1
      simp at this
      omega
    subst e
    rw [Nat.sub_self] at a
    cases a
    exact hp f b
theorem Cars.upd {ad : Ad} {H : Hp} {ps : List Addr} {fs : List Int} {so : Addr} {ys : List V} {o : HO} (h : Cars ad H ps fs) (hso : H so = some (.lst ys)) : Cars ad (upd H so o) ps fs := fun j p f a b =>
  let ⟨dx, e⟩ := h j p f a b
  ⟨dx, by rw [upd_ne (ne_of e hso (by intro z; cases z))]; exact e⟩
open Hq
def HeapAt (ad : Ad) (H : Hp) (hp l : Addr) (ts : List Addr) : Prop := (∃ dx, H hp = some (.ins ad.C_Heap dx (putF "things" (.ref l) []))) ∧ H l = some (.lst (ts.map V.ref))
def KeysAt (H : Hp) (k : Addr → List Int) (ts : List Addr) : Prop := ∀ t ∈ ts, H t = some (.tup ((k t).map V.int))
theorem z16 (l : Addr) : (putF "things" (V.ref l) []).lookup ("things" : Str) = some (.ref l) := by rw [lookup_putF, if_pos rfl]
theorem h_no (l : Addr) {m : Str} (h : ¬ m = "things") : (putF "things" (V.ref l) []).lookup m = none := by rw [lookup_putF, if_neg h]; rfl
theorem HeapAt.put {ad : Ad} {H : Hp} {hp l : Addr} {ts us : List Addr} (h : HeapAt ad H hp l ts) : HeapAt ad (upd H l (.lst (us.map V.ref))) hp l us := by
  obtain ⟨⟨dx, e⟩, e2⟩ := h
  exact ⟨⟨dx, by rw [upd_ne (ne_of e e2 (fun z => by cases z))]; exact e⟩, upd_same⟩
theorem KeysAt.put {H : Hp} {k : Addr → List Int} {ts us vs : List Addr} {l : Addr} {zs : List V} (h : KeysAt H k ts) (e : H l = some (.lst zs)) (hm : ∀ t ∈ us, t ∈ ts) : KeysAt (upd H l (.lst (vs.map V.ref))) k us := fun t ht => by
  have := h t (hm t ht)
  rw [upd_ne (ne_of this e (fun z => by cases z))]
  exact this
def z536 (ad : Ad) : Sp := fun vs H Q _ => ∃ (p dx : Addr), vs = [.ref p] ∧ H p = some (.ins ad.C_Heap dx []) ∧ ∀ l, H l = none → Q .non (upd (upd H l (.lst [])) p (.ins ad.C_Heap dx (putF "things" (.ref l) [])))
def spSwap (ad : Ad) : Sp := fun vs H Q _ => ∃ (hp l : Addr) (ts : List Addr) (p a : Nat) (x y : Addr), vs = [.ref hp, .int (p : Int), .int (a : Int)] ∧ HeapAt ad H hp l ts ∧ ts[p]? = some x ∧ ts[a]? = some y ∧ Q .non (upd H l (.lst ((swp ts p a x y).map V.ref)))
def z434 (ad : Ad) : Sp := fun vs H Q _ => ∃ (hp l : Addr) (ts : List Addr) (k : Addr → List Int) (p : Nat), vs = [.ref hp, .int (p : Int)] ∧ HeapAt ad H hp l ts ∧ KeysAt H k ts ∧ ts.length ≤ 90000 ∧ p ≤ 90000 ∧ ((∀ i, 0 < i → (i - 1) / 2 = p → ts[i]? = none) → Q .non H) ∧ ∀ b : Nat, b < ts.length → Lesser k ts p b → Q (.int (b : Int)) H
def spLift (ad : Ad) : Sp := fun vs H Q _ => ∃ (hp l : Addr) (ts : List Addr) (k : Addr → List Int) (n : Nat), vs = [.ref hp] ∧ HeapAt ad H hp l ts ∧ KeysAt H k ts ∧ ts.length = n + 1 ∧ n ≤ 90000 ∧ Lift k ts n ∧ ∀ us : List Addr, us.Perm ts → Hok k us → Q .non (upd H l (.lst (us.map V.ref)))
def spSink (ad : Ad) : Sp := fun vs H Q _ => ∃ (hp l : Addr) (ts : List Addr) (k : Addr → List Int), vs = [.ref hp] ∧ HeapAt ad H hp l ts ∧ KeysAt H k ts ∧ ts ≠ [] ∧ ts.length ≤ 90000 ∧ Sink k ts 0 ∧ ∀ us : List Addr, us.Perm ts → Hok k us → Q .non (upd H l (.lst (us.map V.ref)))
def z555 (ad : Ad) : Sp := fun vs H Q _ => ∃ (hp l r : Addr) (ts : List Addr), vs = [.ref hp] ∧ HeapAt ad H hp l (r :: ts) ∧ Q (.ref r) H
def spHPut (ad : Ad) : Sp := fun vs H Q _ => ∃ (hp l t : Addr) (ts : List Addr) (k : Addr → List Int), vs = [.ref hp, .ref t] ∧ HeapAt ad H hp l ts ∧ KeysAt H k (t :: ts) ∧ ts.length ≤ 80000 ∧ Hok k ts ∧ ∀ us : List Addr, us.Perm (t :: ts) → Hok k us → Q .non (upd H l (.lst (us.map V.ref)))
def spTake (ad : Ad) : Sp := fun vs H Q _ => ∃ (hp l : Addr) (ts : List Addr) (k : Addr → List Int), vs = [.ref hp] ∧ HeapAt ad H hp l ts ∧ KeysAt H k ts ∧ ts ≠ [] ∧ ts.length ≤ 90000 ∧ Hok k ts ∧ ∀ (r : Addr) (us : List Addr), (r :: us).Perm ts → (∀ t ∈ ts, Le (k r) (k t)) → Hok k us → Q (.ref r) (upd H l (.lst (us.map V.ref)))
def spSize (ad : Ad) : Sp := fun vs H Q _ => ∃ (hp l : Addr) (ts : List Addr), vs = [.ref hp] ∧ HeapAt ad H hp l ts ∧ Q (.int (ts.length : Int)) H
theorem upd_id {H : Hp} {l : Addr} {o : HO} (h : H l = some o) : upd H l o = H := by
  funext b
  by_cases e : b = l
  · subst e
    rw [upd_same, h]
  · rw [upd_ne e]
theorem z672 {n p : Nat} (h : p < n) : ixN n (p : Int) = some p := by
  unfold ixN
  rw [if_pos (by omega), if_pos (by omega)]
  simp
theorem at_ref {ts : List Addr} {p : Nat} {x : Addr} (h : ts[p]? = some x) : atI (ts.map V.ref) (p : Int) = some (V.ref x) := atI_nat (by rw [List.getElem?_map, h]; rfl)
theorem z710 {ts : List Addr} {p a : Nat} {x y : Addr} : ((ts.map V.ref).set p (V.ref y)).set a (V.ref x) = (swp ts p a x y).map V.ref := by
  unfold swp
  rw [List.map_set, List.map_set]
open Dj
def v1 (i : Nat) (sg : List Nat) : List Int := (cellsOf sg).filter fun c => stands i (at_ sg c)
def z441 (ad : Ad) : Sp := fun vs H Q _ => ∃ (p fl : Addr) (i : Nat) (n : Int) (w h : Nat) (sg : List Nat), vs = [.ref fl, .ref p] ∧ CarAt ad H p i n ∧ i ≤ 3 ∧ z40 ad.C_Floor H fl w h sg ∧ Good w h sg ∧ Gives H Q (v1 i sg)
def stV (i : Nat) (sg : List Nat) : V → Bool
  | .int o => stands i (at_ sg o)
  | _ => false
def into1 (i w : Nat) (sg : List Nat) (o c : Int) (ps : List (Int × Int)) : List (Int × Int) := ps.filterMap fun q => if q.1 = o then some (c, q.2) else none
def intoL (i w : Nat) (sg : List Nat) (cs : List Int) (o : Int) : List (Int × Int) := cs.flatMap fun c => into1 i w sg o c (z12 i w sg c)
structure IntoAt (H : Hp) (d : Addr) (sg : List Nat) (ls : List (Int × Addr)) (F : Int → List (Int × Int)) : Prop where
  at_ : H d = some (.dK (ls.map fun q => ((Sum.inl q.1 : Key), V.ref q.2)))
  keys : ls.map (·.1) = cellsOf sg
  nd : (ls.map (·.2)).Nodup
  lists : ∀ q ∈ ls, PairsL H q.2 (F q.1)
def spInto (ad : Ad) : Sp := fun vs H Q _ => ∃ (p fl : Addr) (i : Nat) (n : Int) (w h : Nat) (sg : List Nat), vs = [.ref fl, .ref p] ∧ CarAt ad H p i n ∧ i ≤ 3 ∧ z40 ad.C_Floor H fl w h sg ∧ Good w h sg ∧
  ∀ (r : Addr) (ls : List (Int × Addr)) H', H r = none → Same H H' → IntoAt H' r sg ls (intoL i w sg (v1 i sg)) → Q (.ref r) H'
def costsD (kvs : List (Int × Int)) : HO := .dK (kvs.map fun q => ((Sum.inl q.1 : Key), V.int q.2))
structure z55 (i w : Nat) (sg : List Nat) (gs : List Int) (kvs : List (Int × Int)) : Prop where
  nd : (kvs.map (·.1)).Nodup
  len : kvs.length ≤ 100
  is : ∀ c n, (c, n) ∈ kvs ↔ Least (z12 i w sg) (v1 i sg) gs c n
def z454 (ad : Ad) : Sp := fun vs H Q _ => ∃ (p fl l : Addr) (i : Nat) (n : Int) (w h : Nat) (sg : List Nat) (gs : List Int), vs = [.ref fl, .ref p, .ref l] ∧ CarAt ad H p i n ∧ i ≤ 3 ∧ z40 ad.C_Floor H fl w h sg ∧ Good w h sg ∧ H l = some (.lst (gs.map V.int)) ∧ gs.length ≤ 200 ∧ (∀ g ∈ gs, g ∈ v1 i sg) ∧
  ∀ (r : Addr) (kvs : List (Int × Int)) H', H r = none → Same H H' → H' r = some (costsD kvs) → z55 i w sg gs kvs → Q (.ref r) H'
def z558 (ad : Ad) : Sp := fun vs H Q _ => ∃ (p fl : Addr) (i : Nat) (n : Int) (w h : Nat) (sg : List Nat), vs = [.ref fl, .ref p] ∧ CarAt ad H p i n ∧ i ≤ 3 ∧ z40 ad.C_Floor H fl w h sg ∧ Good w h sg ∧
  ∀ (r : Addr) (kvs : List (Int × Int)) H', H r = none → Same H H' → H' r = some (costsD kvs) → z55 i w sg ((z13 sg).filter fun c => stands i (at_ sg c)) kvs → Q (.ref r) H'
theorem z222 {sg : List Nat} {c : Int} (h : c ∈ cellsOf sg) : InF sg c := by
  have := z263.mp h
  unfold hasI at this
  simp only [Bool.and_eq_true, decide_eq_true_eq] at this
  exact this.1
theorem z476 {sg : List Nat} {c : Int} (h : c ∈ z13 sg) : InF sg c := z298.mp (List.mem_filter.mp h).1
theorem z198 (i : Nat) (sg : List Nat) (cs : List Int) : (((cs.map V.int).filter (stV i sg)).map fun v => v) = (cs.filter fun c => stands i (at_ sg c)).map V.int := by
  rw [List.map_id', List.filter_map]
  rfl
theorem z76 {w h : Nat} {sg : List Nat} (g : Good w h sg) (i : Nat) : (v1 i sg).length ≤ 100 := Nat.le_trans (List.length_filter_le _ _) (z220 g)
theorem z67 {H H' : Hp} {a : Addr} {ps : List (Int × Int)} (s : Same H H') (h : PairsL H a ps) : PairsL H' a ps := by
  obtain ⟨ts, e, pr⟩ := h
  exact ⟨ts, s _ _ e, Paired.mapP pr fun _ _ z => s _ _ z⟩
theorem nd_inj {α β : Type} {f : α → β} : ∀ {l : List α}, (l.map f).Nodup → ∀ {x y : α}, x ∈ l → y ∈ l → f x = f y → x = y
  | [], _, _, _, h, _, _ => by cases h
  | a :: l, hn, x, y, hx, hy, e => by
    rw [List.map_cons, List.nodup_cons] at hn
    rcases List.mem_cons.mp hx with e1 | hx1 <;> rcases List.mem_cons.mp hy with e2 | hy1
    · rw [e1, e2]
    · exact absurd (List.mem_map.mpr ⟨y, hy1, by rw [← e, e1]⟩) hn.1
    · exact absurd (List.mem_map.mpr ⟨x, hx1, by rw [e, e2]⟩) hn.1
    · exact nd_inj hn.2 hx1 hy1 e
theorem z300 (sg : List Nat) : (cellsOf sg).Pairwise (· < ·) := (z355 sg).filter _
theorem z425 {xs : List Int} (h : xs.Pairwise (· < ·)) {j : Nat} {c : Int} (hj : xs[j]? = some c) : ¬ c ∈ xs.take j := by
  intro hm
  obtain ⟨i, hi⟩ := List.getElem?_of_mem hm
  have li : i < (xs.take j).length := (List.getElem?_eq_some_iff.mp hi).1
  rw [List.length_take] at li
  rw [List.getElem?_take_of_lt (by omega)] at hi
  have a1 := (List.getElem?_eq_some_iff.mp hi)
  have a2 := (List.getElem?_eq_some_iff.mp hj)
  have := List.pairwise_iff_getElem.mp h i j a1.1 a2.1 (by omega)
  rw [a1.2, a2.2] at this
  omega
theorem z370 {i w : Nat} {sg : List Nat} {c : Int} : (z12 i w sg c).length ≤ 4 := by
  unfold z12 pairsOf
  exact Nat.le_trans (List.length_filterMap_le _ _) z312
theorem z472 {i w : Nat} {sg : List Nat} {o c : Int} (ps : List (Int × Int)) : (into1 i w sg o c ps).length ≤ ps.length := List.length_filterMap_le _ _
theorem z366 {i w : Nat} {sg : List Nat} : ∀ (cs : List Int) (o : Int), (intoL i w sg cs o).length ≤ 4 * cs.length
  | [], _ => by simp [intoL]
  | c :: cs, o => by
    have h1 := z366 (i := i) (w := w) (sg := sg) cs o
    have h2 := z472 (i := i) (w := w) (sg := sg) (o := o) (c := c) (z12 i w sg c)
    have h3 := z370 (i := i) (w := w) (sg := sg) (c := c)
    unfold intoL at h1 ⊢
    rw [List.flatMap_cons, List.length_append, List.length_cons]
    omega
theorem z584 {i w : Nat} {sg : List Nat} {cs : List Int} {j : Nat} {c o : Int} (h : cs[j]? = some c) : intoL i w sg (cs.take (j + 1)) o = intoL i w sg (cs.take j) o ++ into1 i w sg o c (z12 i w sg c) := by
  unfold intoL
  rw [List.take_add_one, h, List.flatMap_append]
  simp
theorem z395 {i w : Nat} {sg : List Nat} {ps : List (Int × Int)} {j : Nat} {c o k o' : Int} (h : ps[j]? = some (o, k)) : into1 i w sg o' c (ps.take (j + 1)) = into1 i w sg o' c (ps.take j) ++ if o = o' then [(c, k)] else [] := by
  unfold into1
  rw [List.take_add_one, h, List.filterMap_append]
  congr 1
  by_cases e : o = o'
  · simp [e]
  · simp [e]
theorem z475 {i w : Nat} {sg : List Nat} {c o k : Int} (h : (o, k) ∈ z12 i w sg c) : o ∈ cellsOf sg := by
  unfold z12 pairsOf at h
  obtain ⟨x, hx, e⟩ := List.mem_filterMap.mp h
  obtain ⟨y, _, e2⟩ := Option.map_eq_some_iff.mp e
  cases e2
  unfold z14 at hx
  exact z263.mpr (List.mem_filter.mp hx).2
theorem ls_get {o : Int} : ∀ {ls : List (Int × Addr)}, o ∈ ls.map (·.1) → ∃ a, (o, a) ∈ ls ∧ valV (ls.map fun q => ((Sum.inl q.1 : Key), V.ref q.2)) (.inl o) = some (.ref a)
  | [], h => by cases h
  | (x, a) :: ls, h => by
    rw [List.map_cons]
    by_cases e : x = o
    · subst e
      exact ⟨a, List.mem_cons_self, valV_pos (p := ((Sum.inl x : Key), V.ref a)) rfl⟩
    · obtain ⟨b, h1, h2⟩ := ls_get (ls := ls) (o := o) (by
        rcases List.mem_cons.mp h with z | z
        · exact absurd z.symm e
        · exact z)
      exact ⟨b, List.mem_cons_of_mem _ h1, by rw [valV_neg (p := ((Sum.inl x : Key), V.ref a)) (fun z => e (Sum.inl.inj z))]; exact h2⟩
structure HS (ad : Ad) (H : Hp) (hp hl : Addr) (ts : List Addr) (k : Addr → List Int) : Prop where
  hh : HeapAt ad H hp hl ts
  hk : KeysAt H k ts
  ho : Hok k ts
  two : ∀ t ∈ ts, ∃ n c, k t = [n, c]
def Itm (k : Addr → List Int) (ts : List Addr) (n c : Int) : Prop := ∃ t ∈ ts, k t = [n, c]
def kput (k : Addr → List Int) (t : Addr) (a b : Int) : Addr → List Int := fun x => if x = t then [a, b] else k x
theorem z663 {k k' : Addr → List Int} {ts : List Addr} (h : ∀ t ∈ ts, k' t = k t) (ho : Hok k ts) : Hok k' ts := fun i x y i0 hx hy => by
  rw [h x (List.mem_of_getElem? hx), h y (List.mem_of_getElem? hy)]
  exact ho i x y i0 hx hy
theorem HS.ne {ad : Ad} {H : Hp} {hp hl : Addr} {ts : List Addr} {k : Addr → List Int} (S : HS ad H hp hl ts k) {t : Addr} (nt : H t = none) : ∀ x ∈ ts, x ≠ t := fun x hx z => by
  have := S.hk x hx
  rw [z, nt] at this
  cases this
theorem HS.prep {ad : Ad} {H : Hp} {hp hl : Addr} {ts : List Addr} {k : Addr → List Int} (S : HS ad H hp hl ts k) {t : Addr} (nt : H t = none) (a b : Int) :
    HeapAt ad (upd H t (.tup [.int a, .int b])) hp hl ts ∧ KeysAt (upd H t (.tup [.int a, .int b])) (kput k t a b) (t :: ts) ∧ Hok (kput k t a b) ts := by
  have e := zz0 (o := HO.tup [V.int a, V.int b]) nt
  obtain ⟨⟨dx, h1⟩, h2⟩ := S.hh
  refine ⟨⟨⟨dx, e _ _ h1⟩, e _ _ h2⟩, fun x hx => ?_, z663 (fun x hx => if_neg (S.ne nt x hx)) S.ho⟩
  rcases List.mem_cons.mp hx with z | z
  · rw [z, upd_same]
    unfold kput
    rw [if_pos rfl]
    rfl
  · unfold kput
    rw [if_neg (S.ne nt x z)]
    exact e _ _ (S.hk x z)
theorem HS.put {ad : Ad} {H : Hp} {hp hl : Addr} {ts us : List Addr} {k : Addr → List Int} (S : HS ad H hp hl ts k) {t : Addr} (nt : H t = none) {a b : Int} (hu : us.Perm (t :: ts)) (ho : Hok (kput k t a b) us) :
    HS ad (upd (upd H t (.tup [.int a, .int b])) hl (.lst (us.map V.ref))) hp hl us (kput k t a b) := by
  obtain ⟨p1, p2, p3⟩ := S.prep nt a b
  refine ⟨p1.put, p2.put p1.2 fun x hx => hu.mem_iff.mp hx, ho, fun x hx => ?_⟩
  rcases List.mem_cons.mp (hu.mem_iff.mp hx) with z | z
  · exact ⟨a, b, by unfold kput; rw [if_pos z]⟩
  · unfold kput
    rw [if_neg (S.ne nt x z)]
    exact S.two x z
theorem z666 {ad : Ad} {H : Hp} {hp hl : Addr} {ts us : List Addr} {k : Addr → List Int} (S : HS ad H hp hl ts k) {t : Addr} (nt : H t = none) {a b : Int} (hu : us.Perm (t :: ts)) {n c : Int} : Itm (kput k t a b) us n c ↔ Itm k ts n c ∨ (n = a ∧ c = b) := by
  constructor
  · rintro ⟨x, hx, e⟩
    rcases List.mem_cons.mp (hu.mem_iff.mp hx) with z | z
    · unfold kput at e
      rw [if_pos z] at e
      cases e
      exact .inr ⟨rfl, rfl⟩
    · unfold kput at e
      rw [if_neg (S.ne nt x z)] at e
      exact .inl ⟨x, z, e⟩
  · rintro (⟨x, hx, e⟩ | ⟨rfl, rfl⟩)
    · exact ⟨x, hu.mem_iff.mpr (List.mem_cons_of_mem _ hx), by unfold kput; rw [if_neg (S.ne nt x hx)]; exact e⟩
    · exact ⟨t, hu.mem_iff.mpr List.mem_cons_self, by unfold kput; rw [if_pos rfl]⟩
theorem HS.take {ad : Ad} {H : Hp} {hp hl r : Addr} {ts us : List Addr} {k : Addr → List Int} (S : HS ad H hp hl ts k) (hu : (r :: us).Perm ts) (ho : Hok k us) : HS ad (upd H hl (.lst (us.map V.ref))) hp hl us k := by
  have m : ∀ x ∈ us, x ∈ ts := fun x hx => hu.mem_iff.mp (List.mem_cons_of_mem _ hx)
  exact ⟨S.hh.put, S.hk.put S.hh.2 m, ho, fun x hx => S.two x (m x hx)⟩
theorem HS.keep {ad : Ad} {H H' : Hp} {hp hl : Addr} {ts : List Addr} {k : Addr → List Int} (S : HS ad H hp hl ts k) (e : ∀ b o, H b = some o → (∀ kvs, o ≠ .dK kvs) → H' b = some o) : HS ad H' hp hl ts k := by
  obtain ⟨⟨⟨dx, h1⟩, h2⟩, h3, h4, h5⟩ := S
  exact ⟨⟨⟨dx, e _ _ h1 (fun _ z => by cases z)⟩, e _ _ h2 (fun _ z => by cases z)⟩, fun t ht => e _ _ (h3 t ht) (fun _ z => by cases z), h4, h5⟩
theorem z724 {n c m x : Int} (h : Le [n, c] [m, x]) : n ≤ m := by
  unfold Le at h
  rw [HT.lexLt_cons] at h
  by_cases e : m = n
  · omega
  · rw [if_neg e, decide_eq_false_iff_not] at h
    omega
def rem (C : List Int) (kvs : List (Int × Int)) : Nat := (C.filter fun c => !decide (c ∈ kvs.map (·.1))).length
theorem z450 {kvs : List (Int × Int)} {c n : Int} : ∀ {C : List Int}, C.Nodup → c ∈ C → ¬ c ∈ kvs.map (·.1) → rem C (kvs ++ [(c, n)]) + 1 = rem C kvs
  | [], _, h, _ => by cases h
  | x :: C, hn, hm, hc => by
    rw [List.nodup_cons] at hn
    unfold rem
    rw [List.filter_cons, List.filter_cons]
    have same : ∀ y, y ≠ c → (!decide (y ∈ (kvs ++ [(c, n)]).map (·.1))) = !decide (y ∈ kvs.map (·.1)) := fun y hy => by simp [hy]
    by_cases e : x = c
    · subst e
      rw [if_neg (by simp), if_pos (by simpa using hc)]
      rw [List.length_cons]
      congr 2
      exact List.filter_congr fun y hy => same y (fun z => hn.1 (z ▸ hy))
    · have ih := z450 (kvs := kvs) (c := c) (n := n) hn.2 (by
        rcases List.mem_cons.mp hm with z | z
        · exact absurd z.symm e
        · exact z) hc
      unfold rem at ih
      rw [same x e]
      split
      · rw [List.length_cons, List.length_cons]
        omega
      · exact ih
def cvOf (kvs : List (Int × Int)) (c : Int) : Option Int := (kvs.find? fun q => decide (q.1 = c)).map (·.2)
theorem val_cv (kvs : List (Int × Int)) (c : Int) : valV (kvs.map fun q => ((Sum.inl q.1 : Key), V.int q.2)) (.inl c) = (cvOf kvs c).map V.int := by
  induction kvs with
  | nil => rfl
  | cons q kvs ih =>
    rw [List.map_cons]
    unfold cvOf
    by_cases e : q.1 = c
    · rw [valV_pos (p := ((Sum.inl q.1 : Key), V.int q.2)) (by rw [e]), List.find?_cons, decide_eq_true e]
      rfl
    · rw [valV_neg (p := ((Sum.inl q.1 : Key), V.int q.2)) (fun z => e (Sum.inl.inj z)), List.find?_cons, decide_eq_false e]
      exact ih
theorem z243 {kvs : List (Int × Int)} {c : Int} : cvOf kvs c = none ↔ ¬ c ∈ kvs.map (·.1) := by
  induction kvs with
  | nil => simp [cvOf]
  | cons q kvs ih =>
    unfold cvOf at ih ⊢
    rw [List.find?_cons, List.map_cons, List.mem_cons]
    by_cases e : q.1 = c
    · rw [decide_eq_true e]
      simp [e]
    · rw [decide_eq_false e]
      simp only [ih]
      constructor
      · rintro h (z | z)
        · exact e z.symm
        · exact h z
      · exact fun h z => h (.inr z)
theorem cv_mem {kvs : List (Int × Int)} {c n : Int} (h : cvOf kvs c = some n) : (c, n) ∈ kvs := by
  unfold cvOf at h
  obtain ⟨q, hq, rfl⟩ := Option.map_eq_some_iff.mp h
  have h1 := List.find?_some hq
  have h2 := List.mem_of_find?_eq_some hq
  rw [decide_eq_true_eq] at h1
  rw [← h1]
  exact h2
theorem mem_cv {kvs : List (Int × Int)} (nd : (kvs.map (·.1)).Nodup) {c n : Int} (h : (c, n) ∈ kvs) : cvOf kvs c = some n := by
  cases e : cvOf kvs c with
  | none => exact absurd (List.mem_map.mpr ⟨_, h, rfl⟩) (z243.mp e)
  | some m =>
    have := nd_inj (f := fun q : Int × Int => q.1) nd (cv_mem e) h rfl
    cases this
    rfl
theorem z715 {kvs : List (Int × Int)} {c n : Int} (h : cvOf kvs c = none) (x : Int) : cvOf (kvs ++ [(c, n)]) x = if x = c then some n else cvOf kvs x := by
  have h' := h
  unfold cvOf at h ⊢
  rw [List.find?_append]
  by_cases e : x = c
  · subst e
    rw [if_pos rfl]
    have : kvs.find? (fun q => decide (q.1 = x)) = none := Option.map_eq_none_iff.mp h
    rw [this]
    simp
  · rw [if_neg e]
    cases hf : kvs.find? (fun q => decide (q.1 = x)) with
    | none => simp [Ne.symm e]
    | some q => rfl
theorem z681 {i w : Nat} {sg : List Nat} {c o k : Int} (h : fareOf i w sg c o = some k) : 1 ≤ k := by
  unfold fareOf at h
  split at h
  · cases h; split <;> decide
  · split at h
    · cases h; decide
    · split at h
      · cases h; decide
      · cases h
  · cases h; decide
theorem z265 (i w : Nat) (sg : List Nat) : Pos (z12 i w sg) := fun c o k h => by
  unfold z12 pairsOf at h
  obtain ⟨x, hx, e⟩ := List.mem_filterMap.mp h
  obtain ⟨y, hy, e2⟩ := Option.map_eq_some_iff.mp e
  cases e2
  unfold costOf at hy
  split at hy
  · exact z681 hy
  · cases hy
theorem z371 {i w : Nat} {sg : List Nat} {cs : List Int} {o c k : Int} : (c, k) ∈ intoL i w sg cs o ↔ c ∈ cs ∧ (o, k) ∈ z12 i w sg c := by
  unfold intoL into1
  rw [List.mem_flatMap]
  constructor
  · rintro ⟨x, hx, h⟩
    obtain ⟨q, hq, e⟩ := List.mem_filterMap.mp h
    by_cases z : q.1 = o
    · rw [if_pos z] at e
      cases e
      exact ⟨hx, by rw [← z]; exact hq⟩
    · rw [if_neg z] at e
      cases e
  · rintro ⟨h1, h2⟩
    exact ⟨c, h1, List.mem_filterMap.mpr ⟨(o, k), h2, by rw [if_pos rfl]⟩⟩
theorem z284 (i : Nat) (sg : List Nat) : (v1 i sg).Nodup := ((z300 sg).filter _).imp fun h => by omega
def SameC (a b : Addr) (H H' : Hp) : Prop := ∀ x o, H x = some o → x ≠ a → x ≠ b → H' x = some o
theorem IntoAt.keep {H H' : Hp} {d a b : Addr} {sg : List Nat} {ls : List (Int × Addr)} {F : Int → List (Int × Int)} (h : IntoAt H d sg ls F) (s : SameC a b H H') (na : ∀ x ks, H x = some (.dK ks) → x ≠ d → True) (da : d ≠ a) (db : d ≠ b) (la : ∀ q ∈ ls, q.2 ≠ a ∧ q.2 ≠ b) (ta : ∀ x ys, H x = some (.tup ys) → x ≠ a ∧ x ≠ b) : IntoAt H' d sg ls F :=
  ⟨s _ _ h.at_ da db, h.keys, h.nd, fun q hq => by
    obtain ⟨ts, e, pr⟩ := h.lists q hq
    exact ⟨ts, s _ _ e (la q hq).1 (la q hq).2, Paired.mapP pr fun t _ z => s _ _ z (ta _ _ z).1 (ta _ _ z).2⟩⟩
structure CS (ad : Ad) (i w : Nat) (sg : List Nat) (gs : List Int) (H3 H' : Hp) (cd hp hl : Addr) (ts : List Addr) (k : Addr → List Int) (kvs : List (Int × Int)) : Prop where
  same : SameC hl cd H3 H'
  cd_ : H' cd = some (costsD kvs)
  hs : HS ad H' hp hl ts k
  nd : (kvs.map (·.1)).Nodup
  cnt : kvs.length + rem (v1 i sg) kvs = (v1 i sg).length
  room : ts.length + 401 * rem (v1 i sg) kvs ≤ 40400
  inv : Dj.Inv (z12 i w sg) (v1 i sg) gs (cvOf kvs) (Itm k ts)
  inC : ∀ m c, Itm k ts m c → c ∈ v1 i sg
def CW (ad : Ad) (i w : Nat) (sg : List Nat) (gs : List Int) (H3 : Hp) (fl p l d cd hp hl : Addr) (m : Nat) (σ : St) (H' : Hp) : Prop := ∃ (ts : List Addr) (k : Addr → List Int) (kvs : List (Int × Int)) (x6 x7 x8 x9 x10 : Option V), m = ts.length + 401 * rem (v1 i sg) kvs ∧ CS ad i w sg gs H3 H' cd hp hl ts k kvs ∧ σ = [some (V.ref fl), some (V.ref p), some (V.ref l), some (V.ref d), some (V.ref cd), some (V.ref hp), x6, x7, x8, x9, x10]
theorem z632 {ad : Ad} {i w h : Nat} {sg : List Nat} {gs : List Int} {H3 H' : Hp} {cd hp hl : Addr} {k : Addr → List Int} {kvs : List (Int × Int)} (g : Good w h sg) (c : CS ad i w sg gs H3 H' cd hp hl [] k kvs) : z55 i w sg gs kvs := by
  have l1 := z76 g i
  have l2 := c.cnt
  refine ⟨c.nd, by omega, fun x n => ⟨fun hm => c.inv.d1 x n (mem_cv c.nd hm), fun hl => ?_⟩⟩
  obtain ⟨m, hm⟩ := c.inv.done (z265 i w sg) (fun m x ⟨t, ht, _⟩ => by cases ht) hl.1
  have := (c.inv.d1 x m hm).uniq hl
  rw [← this]
  exact cv_mem hm
theorem z580 (C : List Int) : rem C [] = C.length := by
  unfold rem
  rw [List.filter_eq_self.mpr (fun _ _ => by simp)]
def putI (kvs : List (Int × Int)) (c n : Int) : List (Int × Int) := if (cvOf kvs c).isSome = true then kvs.map (fun q => if q.1 = c then (q.1, n) else q) else kvs ++ [(c, n)]
theorem z361 (kvs : List (Int × Int)) (c n : Int) : putK (kvs.map fun q => ((Sum.inl q.1 : Key), V.int q.2)) (.inl c) (.int n) = (putI kvs c n).map fun q => ((Sum.inl q.1 : Key), V.int q.2) := by
  unfold putI
  cases e : cvOf kvs c with
  | none =>
    rw [if_neg (by simp), putK_new _ (by rw [val_cv, e]; rfl), List.map_append]
    rfl
  | some m =>
    rw [if_pos (show (some m).isSome = true from rfl)]
    unfold putK
    rw [if_pos (by rw [valV_any, val_cv, e]; rfl), List.map_map, List.map_map]
    refine List.map_congr_left fun q _ => ?_
    simp only [Function.comp]
    by_cases h : q.1 = c
    · rw [if_pos (by rw [h]), if_pos h]
    · rw [if_neg (fun z => h (Sum.inl.inj z)), if_neg h]
theorem z187 (kvs : List (Int × Int)) (c n x : Int) : cvOf (putI kvs c n) x = if x = c then some n else cvOf kvs x := by
  have h := val_cv (putI kvs c n) x
  rw [← z361, valV_put, val_cv] at h
  by_cases e : x = c
  · rw [if_pos e]
    rw [if_pos (by rw [e])] at h
    cases h2 : cvOf (putI kvs c n) x with
    | none => rw [h2] at h; cases h
    | some m => rw [h2] at h; cases h; rfl
  · rw [if_neg e]
    rw [if_neg (fun z => e (Sum.inl.inj z))] at h
    cases h2 : cvOf (putI kvs c n) x with
    | none =>
      cases h3 : cvOf kvs x with
      | none => rfl
      | some m => rw [h2, h3] at h; cases h
    | some m =>
      cases h3 : cvOf kvs x with
      | none => rw [h2, h3] at h; cases h
      | some m' => rw [h2, h3] at h; cases h; rfl
theorem z34 {kvs : List (Int × Int)} {c n : Int} (h : (cvOf kvs c).isSome = true) : (putI kvs c n).map (·.1) = kvs.map (·.1) := by
  unfold putI
  rw [if_pos h, List.map_map]
  refine List.map_congr_left fun q _ => ?_
  simp only [Function.comp]
  split <;> rfl
theorem z195 {kvs : List (Int × Int)} {c n : Int} (h : (cvOf kvs c).isSome = true) : (putI kvs c n).length = kvs.length := by
  have := congrArg List.length (z34 (n := n) h)
  simpa using this
theorem z438 {kvs : List (Int × Int)} {c n : Int} (h : cvOf kvs c = none) : putI kvs c n = kvs ++ [(c, n)] := by
  unfold putI
  rw [if_neg (by rw [h]; simp)]
theorem z697 {i w : Nat} {sg : List Nat} {c o k : Int} (h : fareOf i w sg c o = some k) : k ≤ 3 := by
  unfold fareOf at h
  split at h
  · cases h; split <;> decide
  · split at h
    · cases h; decide
    · split at h
      · cases h; decide
      · cases h
  · cases h; decide
theorem z635 {i w : Nat} {sg : List Nat} {c o k : Int} (h : (o, k) ∈ z12 i w sg c) : k ≤ 3 := by
  unfold z12 pairsOf at h
  obtain ⟨x, hx, e⟩ := List.mem_filterMap.mp h
  obtain ⟨y, hy, e2⟩ := Option.map_eq_some_iff.mp e
  cases e2
  unfold costOf at hy
  split at hy
  · exact z697 hy
  · cases hy
structure FS (i w : Nat) (sg : List Nat) (gs : List Int) (kvs : List (Int × Int)) : Prop where
  nd : (kvs.map (·.1)).Nodup
  cnt : kvs.length + rem (v1 i sg) kvs = (v1 i sg).length
  j1 : ∀ c n, cvOf kvs c = some n → Reach (z12 i w sg) (v1 i sg) gs c n
  bd : ∀ c n, cvOf kvs c = some n → n ≤ 3 * kvs.length
  jg : ∀ g ∈ gs, cvOf kvs g = some 0
def phi1 (kvs : List (Int × Int)) (c : Int) : Nat := ((cvOf kvs c).getD 1000).toNat
def phi (C : List Int) (kvs : List (Int × Int)) : Nat := (C.map (phi1 kvs)).sum
theorem phi_lt {kvs : List (Int × Int)} {c n : Int} : ∀ {C : List Int}, C.Nodup → c ∈ C → n.toNat < phi1 kvs c → phi C (putI kvs c n) < phi C kvs
  | [], _, h, _ => by cases h
  | x :: C, hn, hm, hl => by
    rw [List.nodup_cons] at hn
    have p1 : ∀ y, phi1 (putI kvs c n) y = if y = c then n.toNat else phi1 kvs y := fun y => by
      unfold phi1
      rw [z187]
      split <;> rfl
    unfold phi
    rw [List.map_cons, List.map_cons, List.sum_cons, List.sum_cons, p1]
    by_cases e : x = c
    · subst e
      rw [if_pos rfl]
      have : C.map (phi1 (putI kvs x n)) = C.map (phi1 kvs) := List.map_congr_left fun y hy => by rw [p1, if_neg (fun z => hn.1 (by rw [← z]; exact hy))]
      rw [this]
      omega
    · rw [if_neg e]
      have ih := phi_lt (kvs := kvs) (c := c) (n := n) hn.2 (by
        rcases List.mem_cons.mp hm with z | z
        · exact absurd z.symm e
        · exact z) hl
      unfold phi at ih
      omega
theorem FS.put {i w h : Nat} {sg : List Nat} {gs : List Int} {kvs : List (Int × Int)} (g : Good w h sg) (F : FS i w sg gs kvs) (hg : ∀ g ∈ gs, g ∈ v1 i sg) {c o k n : Int} (hc : c ∈ v1 i sg) (ho : (o, k) ∈ z12 i w sg c) (hn : cvOf kvs o = some n) (hl : ∀ m, cvOf kvs c = some m → k + n < m) :
    FS i w sg gs (putI kvs c (k + n)) ∧ phi (v1 i sg) (putI kvs c (k + n)) < phi (v1 i sg) kvs := by
  have r0 := (F.j1 o n hn).nn (z265 i w sg)
  have k1 := z265 i w sg c o k ho
  have k3 := z635 ho
  have b0 := F.bd o n hn
  have cl := z76 g i
  have cn := F.cnt
  have hr : Reach (z12 i w sg) (v1 i sg) gs c (k + n) := .step hc ho (F.j1 o n hn)
  cases e : cvOf kvs c with
  | none =>
    have en := z438 (n := k + n) e
    refine ⟨⟨?_, ?_, fun x m hx => ?_, fun x m hx => ?_, fun x hx => ?_⟩, phi_lt (z284 i sg) hc ?_⟩
    · rw [en, List.map_append]
      exact nd_snoc F.nd (z243.mp e)
    · rw [en, List.length_append, List.length_cons, List.length_nil]
      have := z450 (n := k + n) (z284 i sg) hc (z243.mp e)
      omega
    · rw [z187] at hx
      by_cases z : x = c
      · rw [if_pos z] at hx
        cases hx
        rw [z]
        exact hr
      · rw [if_neg z] at hx
        exact F.j1 x m hx
    · rw [en, List.length_append, List.length_cons, List.length_nil]
      rw [z187] at hx
      by_cases z : x = c
      · rw [if_pos z] at hx
        cases hx
        omega
      · rw [if_neg z] at hx
        have := F.bd x m hx
        omega
    · rw [z187, if_neg (fun z => by have := F.jg x hx; rw [z, e] at this; cases this)]
      exact F.jg x hx
    · unfold phi1
      rw [e]
      show (k + n).toNat < (1000 : Int).toNat
      omega
  | some m0 =>
    have hs : (cvOf kvs c).isSome = true := by rw [e]; rfl
    have lt := hl m0 e
    refine ⟨⟨?_, ?_, fun x m hx => ?_, fun x m hx => ?_, fun x hx => ?_⟩, phi_lt (z284 i sg) hc ?_⟩
    · rw [z34 hs]
      exact F.nd
    · rw [z195 hs]
      unfold rem
      rw [z34 hs]
      exact cn
    · rw [z187] at hx
      by_cases z : x = c
      · rw [if_pos z] at hx
        cases hx
        rw [z]
        exact hr
      · rw [if_neg z] at hx
        exact F.j1 x m hx
    · rw [z195 hs]
      rw [z187] at hx
      by_cases z : x = c
      · rw [if_pos z] at hx
        cases hx
        have := F.bd c m0 e
        omega
      · rw [if_neg z] at hx
        exact F.bd x m hx
    · rw [z187, if_neg (fun z => by have := F.jg x hx; rw [z, e] at this; cases this; omega)]
      exact F.jg x hx
    · unfold phi1
      rw [e]
      show (k + n).toNat < m0.toNat
      omega
def fixAt (i w : Nat) (sg : List Nat) (kvs : List (Int × Int)) (cs : List Int) : Prop := ∀ c ∈ cs, ∀ o k n, (o, k) ∈ z12 i w sg c → cvOf kvs o = some n → ∃ m, cvOf kvs c = some m ∧ m ≤ k + n
theorem FS.are {i w h : Nat} {sg : List Nat} {gs : List Int} {kvs : List (Int × Int)} (g : Good w h sg) (F : FS i w sg gs kvs) (fx : fixAt i w sg kvs (v1 i sg)) : z55 i w sg gs kvs := by
  have cl := z76 g i
  have cn := F.cnt
  have R := fun {c m : Int} (h : Reach (z12 i w sg) (v1 i sg) gs c m) => rounds (cv := cvOf kvs) (fun x hx => ⟨0, F.jg x hx, Int.le_refl _⟩) (fun c hc o k n ho hn => fx c hc o k n ho hn) h
  have L : ∀ c n, cvOf kvs c = some n → Least (z12 i w sg) (v1 i sg) gs c n := fun c n e => ⟨F.j1 c n e, fun m hr => by
    obtain ⟨n', h1, h2⟩ := R hr
    rw [e] at h1
    cases h1
    exact h2⟩
  refine ⟨F.nd, by omega, fun c n => ⟨fun hm => L c n (mem_cv F.nd hm), fun hl => ?_⟩⟩
  obtain ⟨n', h1, h2⟩ := R hl.1
  have := (L c n' h1).uniq hl
  rw [← this]
  exact cv_mem h1
def allIn (kb ka : List (Int × Int)) : Bool := ka.all fun q => decide (cvOf kb q.1 = some q.2)
theorem khits (K : PySem.W.Frag) (H : Hp) (kb : List (Int × Int)) : ∀ ka : List (Int × Int), KHits K H (kb.map fun q => ((Sum.inl q.1 : Key), V.int q.2)) (ka.map fun q => ((Sum.inl q.1 : Key), V.int q.2)) (allIn kb ka)
  | [] => .nil
  | q :: ka => by
    have ih := khits K H kb ka
    have ev : ∀ m, cvOf kb q.1 = some m → allIn kb (q :: ka) = (PyData.eqv (.int q.2) (.int m) && allIn kb ka) := fun m e => by
      unfold allIn
      rw [List.all_cons, e]
      congr 1
      rw [Bool.eq_iff_iff, decide_eq_true_eq]
      simp only [PyData.eqv, Option.some.injEq, beq_iff_eq]
      exact eq_comm
    rw [List.map_cons]
    cases e : cvOf kb q.1 with
    | none =>
      have : allIn kb (q :: ka) = false := by unfold allIn; rw [List.all_cons, e]; rfl
      rw [this]
      exact .miss (by rw [val_cv, e]; rfl)
    | some m =>
      rw [ev m e]
      exact .hit (by rw [val_cv, e]; rfl) (.int _) (.int _) rfl rfl ih
theorem z392 {ka : List (Int × Int)} (nd : (ka.map (·.1)).Nodup) : allIn ka ka = true := List.all_eq_true.mpr fun q hq => decide_eq_true (mem_cv nd hq)
theorem rem_lt {C : List Int} {ka kb : List (Int × Int)} (hs : ∀ x, x ∈ ka.map (·.1) → x ∈ kb.map (·.1)) {c : Int} (hc : c ∈ C) (h1 : ¬ c ∈ ka.map (·.1)) (h2 : c ∈ kb.map (·.1)) : rem C kb < rem C ka := by
  have le : ∀ C : List Int, rem C kb ≤ rem C ka := fun C => by
    unfold rem
    rw [← List.countP_eq_length_filter, ← List.countP_eq_length_filter]
    refine List.countP_mono_left fun x _ h => ?_
    simp only [Bool.not_eq_true', decide_eq_false_iff_not] at h ⊢
    exact fun z => h (hs x z)
  induction C with
  | nil => cases hc
  | cons x C ih =>
    have lc := le C
    unfold rem at ih lc ⊢
    rw [List.filter_cons, List.filter_cons]
    rcases List.mem_cons.mp hc with z | z
    · subst z
      rw [if_neg (by simpa using h2), if_pos (by simpa using h1), List.length_cons]
      omega
    · have := ih z
      split <;> split
      · rw [List.length_cons, List.length_cons]; omega
      · rename_i a b
        simp only [Bool.not_eq_true', decide_eq_false_iff_not] at a b
        exact absurd (fun y => a (hs x y)) b
      · rw [List.length_cons]; omega
      · exact this
theorem eq_phi {i w : Nat} {sg : List Nat} {gs : List Int} {ka kb : List (Int × Int)} (hg : ∀ g ∈ gs, g ∈ v1 i sg) (Fa : FS i w sg gs ka) (Fb : FS i w sg gs kb) (hl : ka.length = kb.length) (ha : allIn kb ka = true) : phi (v1 i sg) kb = phi (v1 i sg) ka := by
  have sub : ∀ q ∈ ka, cvOf kb q.1 = some q.2 := fun q hq => of_decide_eq_true (List.all_eq_true.mp ha q hq)
  have ks : ∀ x, x ∈ ka.map (·.1) → x ∈ kb.map (·.1) := fun x hx => by
    obtain ⟨q, hq, rfl⟩ := List.mem_map.mp hx
    exact List.mem_map.mpr ⟨_, cv_mem (sub q hq), rfl⟩
  unfold phi
  congr 1
  refine List.map_congr_left fun c hc => ?_
  unfold phi1
  cases e : cvOf ka c with
  | some n => rw [sub _ (cv_mem e)]
  | none =>
    cases e2 : cvOf kb c with
    | none => rfl
    | some m =>
      have := rem_lt ks hc (z243.mp e) (List.mem_map.mpr ⟨_, cv_mem e2, rfl⟩)
      have := Fa.cnt
      have := Fb.cnt
      omega
theorem z600 {i : Nat} {sg : List Nat} {gs : List Int} (hg : ∀ g ∈ gs, g ∈ v1 i sg) : ∀ (ds : List Int) (kvs : List (Int × Int)), (∀ d ∈ ds, d ∈ gs) → (kvs.map (·.1)).Nodup → kvs.length + rem (v1 i sg) kvs = (v1 i sg).length → (∀ c n, cvOf kvs c = some n → n = 0 ∧ c ∈ gs) → ∃ kvs', mergeK (kvs.map fun q => ((Sum.inl q.1 : Key), V.int q.2)) (ds.map fun d => ((Sum.inl d : Key), V.int 0)) = (kvs'.map fun q => ((Sum.inl q.1 : Key), V.int q.2)) ∧ (kvs'.map (·.1)).Nodup ∧ kvs'.length + rem (v1 i sg) kvs' = (v1 i sg).length ∧ (∀ c n, cvOf kvs' c = some n → n = 0 ∧ c ∈ gs) ∧ (∀ d ∈ ds, cvOf kvs' d = some 0) ∧ ∀ c, cvOf kvs c = some 0 → cvOf kvs' c = some 0
  | [], kvs, _, nd, cn, h => ⟨kvs, rfl, nd, cn, h, (by simp), fun _ h => h⟩
  | d :: ds, kvs, hd, nd, cn, h => by
    have hd0 := hd d List.mem_cons_self
    have all : ∀ c n, cvOf (putI kvs d 0) c = some n → n = 0 ∧ c ∈ gs := fun c n e => by
      rw [z187] at e
      by_cases z : c = d
      · rw [if_pos z] at e
        cases e
        exact ⟨rfl, by rw [z]; exact hd0⟩
      · rw [if_neg z] at e
        exact h c n e
    have fact : ((putI kvs d 0).map (·.1)).Nodup ∧ (putI kvs d 0).length + rem (v1 i sg) (putI kvs d 0) = (v1 i sg).length := by
      cases e : cvOf kvs d with
      | none =>
        rw [z438 e, List.map_append, List.length_append]
        have := z450 (n := 0) (z284 i sg) (hg d hd0) (z243.mp e)
        exact ⟨nd_snoc nd (z243.mp e), by rw [List.length_cons, List.length_nil]; omega⟩
      | some m =>
        have hs : (cvOf kvs d).isSome = true := by rw [e]; rfl
        refine ⟨by rw [z34 hs]; exact nd, ?_⟩
        rw [z195 hs]
        unfold rem
        rw [z34 hs]
        exact cn
    obtain ⟨k', m1, m2, m3, m4, m5, m6⟩ := z600 hg ds (putI kvs d 0) (fun x hx => hd x (List.mem_cons_of_mem _ hx)) fact.1 fact.2 all
    refine ⟨k', ?_, m2, m3, m4, fun x hx => ?_, fun c e => m6 c ?_⟩
    · rw [← m1, ← z361]
      rfl
    · rcases List.mem_cons.mp hx with z | z
      · rw [z]
        exact m6 d (by rw [z187, if_pos rfl])
      · exact m5 x z
    · rw [z187]
      split
      · rfl
      · exact e
theorem z696 {i w : Nat} {sg : List Nat} {gs : List Int} (hg : ∀ g ∈ gs, g ∈ v1 i sg) : ∃ kvs, mergeK [] (gs.map fun d => ((Sum.inl d : Key), V.int 0)) = (kvs.map fun q => ((Sum.inl q.1 : Key), V.int q.2)) ∧ FS i w sg gs kvs := by
  obtain ⟨k, m1, m2, m3, m4, m5, _⟩ := z600 hg gs [] (fun _ h => h) List.nodup_nil (by rw [z580]; simp) (fun c n e => by cases e)
  refine ⟨k, m1, m2, m3, fun c n e => ?_, fun c n e => ?_, m5⟩
  · obtain ⟨rfl, hc⟩ := m4 c n e
    exact .goal hc
  · obtain ⟨rfl, hc⟩ := m4 c n e
    omega
def z432 : Sp := fun vs H Q _ => ∃ (x : Str) (i : Nat) (l gl : Addr) (w h : Nat) (sg : List Nat) (gs : List Int), vs = [.str x, .ref l, .ref gl] ∧ kindsL[i]? = some x ∧ z50 H l w h sg ∧ Good w h sg ∧ H gl = some (.lst (gs.map V.int)) ∧ gs.length ≤ 200 ∧ (∀ g ∈ gs, g ∈ v1 i sg) ∧
  ∀ (r : Addr) (kvs : List (Int × Int)) H', H r = none → Same H H' → H' r = some (costsD kvs) → z55 i w sg gs kvs → Q (.ref r) H'
def z527 : Sp := fun vs H Q _ => ∃ (a b : Addr) (i w : Nat) (sg : List Nat) (gs : List Int) (ka kb : List (Int × Int)), vs = [.ref a, .ref b] ∧ H a = some (costsD ka) ∧ H b = some (costsD kb) ∧ z55 i w sg gs ka ∧ z55 i w sg gs kb ∧ ∀ H', Same H H' → Q (.bl true) H'
def spLaw (K : PySem.W.Frag) : Sp := fun vs H Q _ => ∃ (a : Addr) (ns : List Int), vs = [.ref a] ∧ SqL K H a (ns.map V.int) ∧ ns.length ≤ 63 ∧ ∀ H', Q (.bl true) H'
theorem z533 {H : Hp} : ∀ {ts : List Addr} {ps : List (Int × Int)}, Paired (PairAt H) ts ps → Paired (fun t (kv : Key × V) => H t = some (.tup [kV kv.1, kv.2])) ts (ps.map fun q => (.inl q.1, .int q.2))
  | _, _, .nil => .nil
  | _, _, .cons h r => .cons h (z533 r)
def RowAt (i w : Nat) (sg : List Nat) (H : Hp) (t : Addr) (c : Int) : Prop := ∃ a, H t = some (.tup [.int c, .ref a]) ∧ PairsL H a (z12 i w sg c)
theorem z695 {fd : Addr} {H H' : Hp} {a : Addr} {ps : List (Int × Int)} (s : SameB fd H H') {kv : List (Key × V)} (hf : H fd = some (.dK kv)) (h : PairsL H a ps) : PairsL H' a ps := by
  obtain ⟨ts, e, pr⟩ := h
  exact ⟨ts, s _ _ e (ne_of e hf (fun z => by cases z)), Paired.mapP pr fun _ _ z => s _ _ z (ne_of z hf (fun z => by cases z))⟩
theorem RowAt.b {i w : Nat} {sg : List Nat} {fd : Addr} {H H' : Hp} {t : Addr} {c : Int} (s : SameB fd H H') {kv : List (Key × V)} (hf : H fd = some (.dK kv)) (h : RowAt i w sg H t c) : RowAt i w sg H' t c := by
  obtain ⟨a, e, p⟩ := h
  exact ⟨a, s _ _ e (ne_of e hf (fun z => by cases z)), z695 s hf p⟩
def someOf (kvs : List (Int × Int)) (ps : List (Int × Int)) : List Int := ps.filterMap fun q => (cvOf kvs q.1).map fun n => q.2 + n
def i0 (H : Hp) (t : Addr) : Int := match H t with
  | some (.tup [.int a, .int _]) => a
  | _ => 0
def i1 (H : Hp) (t : Addr) : Int := match H t with
  | some (.tup [.int _, .int b]) => b
  | _ => 0
theorem z461 {H : Hp} (kvs : List (Int × Int)) : ∀ {ts : List Addr} {ps : List (Int × Int)}, Paired (PairAt H) ts ps → (ts.filter fun t => (cvOf kvs (i0 H t)).isSome).map (fun t => V.int (i1 H t + (cvOf kvs (i0 H t)).getD 0)) = (someOf kvs ps).map V.int
  | _, _, .nil => rfl
  | t :: ts, q :: ps, .cons h r => by
    have ih := z461 kvs r
    have h : H t = some (.tup [.int q.1, .int q.2]) := h
    have a0 : i0 H t = q.1 := by unfold i0; rw [h]
    have a1 : i1 H t = q.2 := by unfold i1; rw [h]
    unfold someOf at ih ⊢
    rw [List.filter_cons, List.filterMap_cons, a0]
    cases e : cvOf kvs q.1 with
    | none =>
      rw [if_neg (by simp)]
      exact ih
    | some n =>
      rw [if_pos (by simp), List.map_cons, ih, a0, a1, e]
      rfl
theorem z433 {kvs ps : List (Int × Int)} {m : Int} : m ∈ someOf kvs ps ↔ ∃ o k n, (o, k) ∈ ps ∧ cvOf kvs o = some n ∧ m = k + n := by
  unfold someOf
  rw [List.mem_filterMap]
  constructor
  · rintro ⟨q, hq, e⟩
    obtain ⟨n, hn, e2⟩ := Option.map_eq_some_iff.mp e
    exact ⟨q.1, q.2, n, hq, hn, e2.symm⟩
  · rintro ⟨o, k, n, h1, h2, rfl⟩
    exact ⟨(o, k), h1, by show (cvOf kvs o).map _ = _; rw [h2]; rfl⟩
structure LS (i w : Nat) (sg : List Nat) (gs : List Int) (fd : Addr) (H H' : Hp) (kvs : List (Int × Int)) : Prop where
  same : SameB fd H H'
  at_ : H' fd = some (costsD kvs)
  fs : FS i w sg gs kvs
def LW (i w : Nat) (sg : List Nat) (gs : List Int) (H : Hp) (x : Str) (l gl fd cl rl : Addr) (m : Nat) (σ : St) (H' : Hp) : Prop := ∃ (kvs : List (Int × Int)) (x6 x7 x8 x9 : Option V), LS i w sg gs fd H H' kvs ∧ σ = [some (V.str x), some (V.ref l), some (V.ref gl), some (V.ref fd), some (V.ref cl), some (V.ref rl), x6, x7, x8, x9] ∧
  ((x6 = some .non ∧ m = 2 * phi (v1 i sg) kvs + 1) ∨ ∃ bd kb, x6 = some (.ref bd) ∧ H' bd = some (costsD kb) ∧ FS i w sg gs kb ∧ ((phi (v1 i sg) kvs < phi (v1 i sg) kb ∧ m = 2 * phi (v1 i sg) kvs + 1) ∨ (kb = kvs ∧ fixAt i w sg kvs (v1 i sg) ∧ m = 2 * phi (v1 i sg) kvs)))
theorem FS.len {i w h : Nat} {sg : List Nat} {gs : List Int} {kvs : List (Int × Int)} (g : Good w h sg) (F : FS i w sg gs kvs) : kvs.length ≤ 100 := by
  have := F.cnt
  have := z76 g i
  omega
theorem z682 {i w : Nat} {sg : List Nat} {kvs : List (Int × Int)} {cs : List Int} {j : Nat} {c : Int} (hj : cs[j]? = some c) (h : fixAt i w sg kvs (cs.take j)) (hc : fixAt i w sg kvs [c]) : fixAt i w sg kvs (cs.take (j + 1)) := fun x hx => by
  rw [List.take_add_one, hj] at hx
  rcases List.mem_append.mp hx with z | z
  · exact h x z
  · exact hc x z
theorem nd_of {kvs : List (Int × Int)} (h : (kvs.map (·.1)).Nodup) : kvs.Nodup := by
  have := List.pairwise_map.mp h
  exact this.imp fun h z => h (by rw [z])
theorem z539 {i w : Nat} {sg : List Nat} {gs : List Int} {ka kb : List (Int × Int)} (ca : z55 i w sg gs ka) (cb : z55 i w sg gs kb) : ka.length = kb.length ∧ allIn kb ka = true := by
  have na : ka.Nodup := nd_of ca.nd
  have nb : kb.Nodup := nd_of cb.nd
  have m : ∀ q : Int × Int, q ∈ ka ↔ q ∈ kb := fun q => (ca.is q.1 q.2).trans (cb.is q.1 q.2).symm
  exact ⟨((List.perm_ext_iff_of_nodup na nb).mpr m).length_eq, List.all_eq_true.mpr fun q hq => decide_eq_true (mem_cv cb.nd ((m q).mp hq))⟩
def chV (sg : List Nat) : V → Bool
  | .int o => decide (at_ sg o = 43)
  | _ => false
theorem z722 (i : Nat) (sg : List Nat) : ((((v1 i sg).map V.int).filter (chV sg)).map fun v => v) = ((z13 sg).filter fun c => stands i (at_ sg c)).map V.int := by
  rw [List.map_id', List.filter_map, z237]
  unfold v1
  rw [List.filter_filter, List.filter_filter]
  congr 1
  refine List.filter_congr fun c _ => ?_
  rw [Bool.and_comm]
  rfl
theorem z688 (cs : List Int) (lo hi : Option Int) : ∃ ys : List Int, cutV (cs.map V.int) lo hi = ys.map V.int ∧ (∀ y ∈ ys, y ∈ cs) ∧ ys.length ≤ cs.length := by
  have e : cutV (cs.map V.int) lo hi = (((cs.drop (HT.sIx (cs.map V.int).length 0 lo)).take (HT.sIx (cs.map V.int).length (cs.map V.int).length hi - HT.sIx (cs.map V.int).length 0 lo))).map V.int := by
    unfold cutV
    rw [List.map_take, List.map_drop]
  refine ⟨_, e, fun y hy => List.mem_of_mem_drop (List.mem_of_mem_take hy), ?_⟩
  rw [List.length_take, List.length_drop]
  omega
def PD (H : Hp) (t : Addr) : Prop := ∃ (a b : Addr) (kvs : List (Int × Int)), H t = some (.tup [.ref a, .ref b]) ∧ H a = some (costsD kvs) ∧ H b = some (costsD kvs) ∧ (kvs.map (·.1)).Nodup
def KeptD (H : Hp) (kp : Addr) (n : Nat) : Prop := ∃ ts : List Addr, ts.length = n ∧ H kp = some (.lst (ts.map V.ref)) ∧ ∀ t ∈ ts, PD H t
theorem PD.keep {H H' : Hp} {t : Addr} (h : PD H t) (s : ∀ b o, H b = some o → (∀ xs, o ≠ .lst xs) → H' b = some o) : PD H' t := by
  obtain ⟨a, b, kvs, h1, h2, h3, h4⟩ := h
  exact ⟨a, b, kvs, s _ _ h1 (fun _ z => by cases z), s _ _ h2 (fun _ z => by unfold costsD at z; cases z), s _ _ h3 (fun _ z => by unfold costsD at z; cases z), h4⟩
theorem PD.same {H H' : Hp} {t : Addr} (h : PD H t) (s : Same H H') : PD H' t := h.keep fun b o e _ => s b o e
theorem KeptD.same {H H' : Hp} {kp : Addr} {n : Nat} (h : KeptD H kp n) (s : Same H H') : KeptD H' kp n := by
  obtain ⟨ts, h1, h2, h3⟩ := h
  exact ⟨ts, h1, s _ _ h2, fun t ht => (h3 t ht).same s⟩
theorem KeptD.put {H : Hp} {kp hd : Addr} {n : Nat} {o : HO} {xs : List V} (h : KeptD H kp n) (e : H hd = some (.lst xs)) (ne : hd ≠ kp) : KeptD (upd H hd o) kp n := by
  obtain ⟨ts, h1, h2, h3⟩ := h
  exact ⟨ts, h1, by rw [upd_ne (Ne.symm ne)]; exact h2, fun t ht => (h3 t ht).keep fun b u eb nl => by rw [upd_ne (fun z => by rw [z, e] at eb; cases eb; exact nl _ rfl)]; exact eb⟩
theorem z718 {kvs : List (Int × Int)} {c n : Int} (h : (kvs.map (·.1)).Nodup) : ((putI kvs c n).map (·.1)).Nodup := by
  cases e : cvOf kvs c with
  | none =>
    rw [z438 e, List.map_append]
    exact nd_snoc h (z243.mp e)
  | some m =>
    rw [z34 (by rw [e]; rfl)]
    exact h
seal PA PE PS PSs PI PG
section
variable {P : Program} {w : World} {K : PySem.W.Frag} {mg : Str → Option Value} {base : Heap} {ad : Ad}
theorem z645 : (("CHARGER" : Str) == ("__debug__" : Str)) = false := by decide +kernel
theorem z203 : (("COMMON_SIGNS" : Str) == ("__debug__" : Str)) = false := by decide +kernel
theorem d_Cart : (("Cart" : Str) == ("__debug__" : Str)) = false := by decide +kernel
theorem z636 : (("Crawler" : Str) == ("__debug__" : Str)) = false := by decide +kernel
theorem z704 : (("Floor" : Str) == ("__debug__" : Str)) = false := by decide +kernel
theorem d_Heap : (("Heap" : Str) == ("__debug__" : Str)) = false := by decide +kernel
theorem z716 : (("KINDS" : Str) == ("__debug__" : Str)) = false := by decide +kernel
theorem d_LANE : (("LANE" : Str) == ("__debug__" : Str)) = false := by decide +kernel
theorem z504 : (("MOST_FULL" : Str) == ("__debug__" : Str)) = false := by decide +kernel
theorem z491 : (("MOST_ROWS" : Str) == ("__debug__" : Str)) = false := by decide +kernel
theorem z430 : (("MOST_SIGNS" : Str) == ("__debug__" : Str)) = false := by decide +kernel
theorem z671 : (("ROUGH" : Str) == ("__debug__" : Str)) = false := by decide +kernel
theorem z676 : (("Runner" : Str) == ("__debug__" : Str)) = false := by decide +kernel
theorem z717 : (("SIGNS" : Str) == ("__debug__" : Str)) = false := by decide +kernel
theorem d_WALL : (("WALL" : Str) == ("__debug__" : Str)) = false := by decide +kernel
theorem z154 : (("_law_able" : Str) == ("__debug__" : Str)) = false := by decide +kernel
theorem z152 : (("_law_able" : Str) == ("__classdict__" : Str)) = false := by decide +kernel
theorem z238 : (("_law_across" : Str) == ("__debug__" : Str)) = false := by decide +kernel
theorem z239 : (("_law_across" : Str) == ("__classdict__" : Str)) = false := by decide +kernel
theorem z159 : (("_law_at" : Str) == ("__debug__" : Str)) = false := by decide +kernel
theorem z417 : (("_law_before" : Str) == ("__debug__" : Str)) = false := by decide +kernel
theorem z404 : (("_law_before" : Str) == ("__classdict__" : Str)) = false := by decide +kernel
theorem z415 : (("_law_beside" : Str) == ("__debug__" : Str)) = false := by decide +kernel
theorem z65 : (("_law_carrier" : Str) == ("__debug__" : Str)) = false := by decide +kernel
theorem z66 : (("_law_carrier" : Str) == ("__classdict__" : Str)) = false := by decide +kernel
theorem z11 : (("_law_cell" : Str) == ("__debug__" : Str)) = false := by decide +kernel
theorem z10 : (("_law_cell" : Str) == ("__classdict__" : Str)) = false := by decide +kernel
theorem z193 : (("_law_cells" : Str) == ("__debug__" : Str)) = false := by decide +kernel
theorem z250 : (("_law_cells_here" : Str) == ("__debug__" : Str)) = false := by decide +kernel
theorem z256 : (("_law_cells_here" : Str) == ("__classdict__" : Str)) = false := by decide +kernel
theorem z327 : (("_law_chargers" : Str) == ("__debug__" : Str)) = false := by decide +kernel
theorem z320 : (("_law_chargers" : Str) == ("__classdict__" : Str)) = false := by decide +kernel
theorem z484 : (("_law_cost" : Str) == ("__debug__" : Str)) = false := by decide +kernel
theorem z272 : (("_law_costs" : Str) == ("__debug__" : Str)) = false := by decide +kernel
theorem z336 : (("_law_down" : Str) == ("__debug__" : Str)) = false := by decide +kernel
theorem z358 : (("_law_down" : Str) == ("__classdict__" : Str)) = false := by decide +kernel
theorem z211 : (("_law_due" : Str) == ("__debug__" : Str)) = false := by decide +kernel
theorem z209 : (("_law_due" : Str) == ("__classdict__" : Str)) = false := by decide +kernel
theorem z191 : (("_law_first" : Str) == ("__debug__" : Str)) = false := by decide +kernel
theorem z197 : (("_law_first" : Str) == ("__classdict__" : Str)) = false := by decide +kernel
theorem z107 : (("_law_floor" : Str) == ("__debug__" : Str)) = false := by decide +kernel
theorem z101 : (("_law_floor" : Str) == ("__classdict__" : Str)) = false := by decide +kernel
theorem z7 : (("_law_found" : Str) == ("__debug__" : Str)) = false := by decide +kernel
theorem z6 : (("_law_found" : Str) == ("__classdict__" : Str)) = false := by decide +kernel
theorem z99 : (("_law_goals" : Str) == ("__debug__" : Str)) = false := by decide +kernel
theorem z103 : (("_law_goals" : Str) == ("__classdict__" : Str)) = false := by decide +kernel
theorem z74 : (("_law_handed" : Str) == ("__debug__" : Str)) = false := by decide +kernel
theorem z75 : (("_law_handed" : Str) == ("__classdict__" : Str)) = false := by decide +kernel
theorem z352 : (("_law_high" : Str) == ("__debug__" : Str)) = false := by decide +kernel
theorem z354 : (("_law_high" : Str) == ("__classdict__" : Str)) = false := by decide +kernel
theorem z569 : (("_law_j" : Str) == ("__debug__" : Str)) = false := by decide +kernel
theorem z564 : (("_law_j" : Str) == ("__classdict__" : Str)) = false := by decide +kernel
theorem z88 : (("_law_k" : Str) == ("__debug__" : Str)) = false := by decide +kernel
theorem z83 : (("_law_k" : Str) == ("__classdict__" : Str)) = false := by decide +kernel
theorem z232 : (("_law_kept" : Str) == ("__debug__" : Str)) = false := by decide +kernel
theorem z228 : (("_law_kept" : Str) == ("__classdict__" : Str)) = false := by decide +kernel
theorem z36 : (("_law_kind" : Str) == ("__debug__" : Str)) = false := by decide +kernel
theorem z35 : (("_law_kind" : Str) == ("__classdict__" : Str)) = false := by decide +kernel
theorem z427 : (("_law_lines" : Str) == ("__debug__" : Str)) = false := by decide +kernel
theorem y2 : (("_law_lines_here" : Str) == ("__debug__" : Str)) = false := by decide +kernel
theorem y3 : (("_law_lines_here" : Str) == ("__classdict__" : Str)) = false := by decide +kernel
theorem z442 : (("_law_mixed" : Str) == ("__debug__" : Str)) = false := by decide +kernel
theorem z338 : (("_law_most" : Str) == ("__debug__" : Str)) = false := by decide +kernel
theorem z334 : (("_law_most" : Str) == ("__classdict__" : Str)) = false := by decide +kernel
theorem z21 : (("_law_other" : Str) == ("__debug__" : Str)) = false := by decide +kernel
theorem z23 : (("_law_other" : Str) == ("__classdict__" : Str)) = false := by decide +kernel
theorem z387 : (("_law_others" : Str) == ("__debug__" : Str)) = false := by decide +kernel
theorem z411 : (("_law_others" : Str) == ("__classdict__" : Str)) = false := by decide +kernel
theorem z294 : (("_law_row" : Str) == ("__debug__" : Str)) = false := by decide +kernel
theorem z305 : (("_law_row" : Str) == ("__classdict__" : Str)) = false := by decide +kernel
theorem z481 : (("_law_rows" : Str) == ("__debug__" : Str)) = false := by decide +kernel
theorem z486 : (("_law_rows" : Str) == ("__classdict__" : Str)) = false := by decide +kernel
theorem z150 : (("_law_same" : Str) == ("__debug__" : Str)) = false := by decide +kernel
theorem z18 : (("_law_script" : Str) == ("__debug__" : Str)) = false := by decide +kernel
theorem z19 : (("_law_script" : Str) == ("__classdict__" : Str)) = false := by decide +kernel
theorem z37 : (("_law_sign" : Str) == ("__debug__" : Str)) = false := by decide +kernel
theorem z134 : (("_law_sign_here" : Str) == ("__debug__" : Str)) = false := by decide +kernel
theorem z131 : (("_law_sign_here" : Str) == ("__classdict__" : Str)) = false := by decide +kernel
theorem z282 : (("_law_signs" : Str) == ("__debug__" : Str)) = false := by decide +kernel
theorem z308 : (("_law_signs" : Str) == ("__classdict__" : Str)) = false := by decide +kernel
theorem z233 : (("_law_some" : Str) == ("__debug__" : Str)) = false := by decide +kernel
theorem z230 : (("_law_some" : Str) == ("__classdict__" : Str)) = false := by decide +kernel
theorem z149 : (("_law_stands" : Str) == ("__debug__" : Str)) = false := by decide +kernel
theorem z423 : (("_law_steps" : Str) == ("__debug__" : Str)) = false := by decide +kernel
theorem z247 : (("_law_steps_here" : Str) == ("__debug__" : Str)) = false := by decide +kernel
theorem z251 : (("_law_steps_here" : Str) == ("__classdict__" : Str)) = false := by decide +kernel
theorem z304 : (("_law_taken" : Str) == ("__debug__" : Str)) = false := by decide +kernel
theorem z296 : (("_law_taken" : Str) == ("__classdict__" : Str)) = false := by decide +kernel
theorem z153 : (("_law_text" : Str) == ("__debug__" : Str)) = false := by decide +kernel
theorem z158 : (("_law_text" : Str) == ("__classdict__" : Str)) = false := by decide +kernel
theorem z290 : (("_law_thing" : Str) == ("__debug__" : Str)) = false := by decide +kernel
theorem z280 : (("_law_thing" : Str) == ("__classdict__" : Str)) = false := by decide +kernel
theorem z221 : (("_law_told" : Str) == ("__debug__" : Str)) = false := by decide +kernel
theorem z225 : (("_law_told" : Str) == ("__classdict__" : Str)) = false := by decide +kernel
theorem z289 : (("_law_whole" : Str) == ("__debug__" : Str)) = false := by decide +kernel
theorem z92 : (("_law_wide" : Str) == ("__debug__" : Str)) = false := by decide +kernel
theorem z96 : (("_law_wide" : Str) == ("__classdict__" : Str)) = false := by decide +kernel
theorem z567 : (("above" : Str) == ("__debug__" : Str)) = false := by decide +kernel
theorem z568 : (("above" : Str) == ("__classdict__" : Str)) = false := by decide +kernel
theorem d_all : (("all" : Str) == ("__debug__" : Str)) = false := by decide +kernel
theorem n_all : ("all" : Str) ≠ "__name__" := by decide +kernel
theorem z177 : (("below" : Str) == ("__debug__" : Str)) = false := by decide +kernel
theorem z176 : (("below" : Str) == ("__classdict__" : Str)) = false := by decide +kernel
theorem d_bool : (("bool" : Str) == ("__debug__" : Str)) = false := by decide +kernel
theorem n_bool : ("bool" : Str) ≠ "__name__" := by decide +kernel
theorem z260 : (("carrier" : Str) == ("__debug__" : Str)) = false := by decide +kernel
theorem z261 : (("carrier" : Str) == ("__classdict__" : Str)) = false := by decide +kernel
theorem d_q21 : (("carrier_of" : Str) == ("__debug__" : Str)) = false := by decide +kernel
theorem d_cell : (("cell" : Str) == ("__debug__" : Str)) = false := by decide +kernel
theorem e_cell : (("cell" : Str) == ("__classdict__" : Str)) = false := by decide +kernel
theorem z587 : (("chargers" : Str) == ("__debug__" : Str)) = false := by decide +kernel
theorem z518 : (("chargers" : Str) == ("__classdict__" : Str)) = false := by decide +kernel
theorem d_q14 : (("check_floor" : Str) == ("__debug__" : Str)) = false := by decide +kernel
theorem d_q26 : (("check_row" : Str) == ("__debug__" : Str)) = false := by decide +kernel
theorem d_cost : (("cost" : Str) == ("__debug__" : Str)) = false := by decide +kernel
theorem e_cost : (("cost" : Str) == ("__classdict__" : Str)) = false := by decide +kernel
theorem z559 : (("costs" : Str) == ("__debug__" : Str)) = false := by decide +kernel
theorem z590 : (("costs" : Str) == ("__classdict__" : Str)) = false := by decide +kernel
theorem d_q30 : (("costs_to" : Str) == ("__debug__" : Str)) = false := by decide +kernel
theorem d_dict : (("dict" : Str) == ("__debug__" : Str)) = false := by decide +kernel
theorem n_dict : ("dict" : Str) ≠ "__name__" := by decide +kernel
theorem z708 : (("first" : Str) == ("__debug__" : Str)) = false := by decide +kernel
theorem z702 : (("first" : Str) == ("__classdict__" : Str)) = false := by decide +kernel
theorem z62 : (("floor" : Str) == ("__debug__" : Str)) = false := by decide +kernel
theorem z59 : (("floor" : Str) == ("__classdict__" : Str)) = false := by decide +kernel
theorem d_full : (("full" : Str) == ("__debug__" : Str)) = false := by decide +kernel
theorem e_full : (("full" : Str) == ("__classdict__" : Str)) = false := by decide +kernel
theorem d_goal : (("goal" : Str) == ("__debug__" : Str)) = false := by decide +kernel
theorem e_goal : (("goal" : Str) == ("__classdict__" : Str)) = false := by decide +kernel
theorem z721 : (("goals" : Str) == ("__debug__" : Str)) = false := by decide +kernel
theorem z723 : (("goals" : Str) == ("__classdict__" : Str)) = false := by decide +kernel
theorem d_heap : (("heap" : Str) == ("__debug__" : Str)) = false := by decide +kernel
theorem e_heap : (("heap" : Str) == ("__classdict__" : Str)) = false := by decide +kernel
theorem d_int : (("int" : Str) == ("__debug__" : Str)) = false := by decide +kernel
theorem n_int : ("int" : Str) ≠ "__name__" := by decide +kernel
theorem d_into : (("into" : Str) == ("__debug__" : Str)) = false := by decide +kernel
theorem e_into : (("into" : Str) == ("__classdict__" : Str)) = false := by decide +kernel
theorem d_q33 : (("is_among" : Str) == ("__debug__" : Str)) = false := by decide +kernel
theorem d_q32 : (("is_whole" : Str) == ("__debug__" : Str)) = false := by decide +kernel
theorem z24 : (("isinstance" : Str) == ("__debug__" : Str)) = false := by decide +kernel
theorem z20 : ("isinstance" : Str) ≠ "__name__" := by decide +kernel
theorem d_kept : (("kept" : Str) == ("__debug__" : Str)) = false := by decide +kernel
theorem e_kept : (("kept" : Str) == ("__classdict__" : Str)) = false := by decide +kernel
theorem d_kind : (("kind" : Str) == ("__debug__" : Str)) = false := by decide +kernel
theorem e_kind : (("kind" : Str) == ("__classdict__" : Str)) = false := by decide +kernel
theorem d_last : (("last" : Str) == ("__debug__" : Str)) = false := by decide +kernel
theorem e_last : (("last" : Str) == ("__classdict__" : Str)) = false := by decide +kernel
theorem z713 : (("least" : Str) == ("__debug__" : Str)) = false := by decide +kernel
theorem z714 : (("least" : Str) == ("__classdict__" : Str)) = false := by decide +kernel
theorem d_len : (("len" : Str) == ("__debug__" : Str)) = false := by decide +kernel
theorem n_len : ("len" : Str) ≠ "__name__" := by decide +kernel
theorem d_line : (("line" : Str) == ("__debug__" : Str)) = false := by decide +kernel
theorem e_line : (("line" : Str) == ("__classdict__" : Str)) = false := by decide +kernel
theorem z109 : (("lines" : Str) == ("__debug__" : Str)) = false := by decide +kernel
theorem z113 : (("lines" : Str) == ("__classdict__" : Str)) = false := by decide +kernel
theorem d_list : (("list" : Str) == ("__debug__" : Str)) = false := by decide +kernel
theorem n_list : ("list" : Str) ≠ "__name__" := by decide +kernel
theorem d_min : (("min" : Str) == ("__debug__" : Str)) = false := by decide +kernel
theorem n_min : ("min" : Str) ≠ "__name__" := by decide +kernel
theorem d_most : (("most" : Str) == ("__debug__" : Str)) = false := by decide +kernel
theorem e_most : (("most" : Str) == ("__classdict__" : Str)) = false := by decide +kernel
theorem d_near : (("near" : Str) == ("__debug__" : Str)) = false := by decide +kernel
theorem e_near : (("near" : Str) == ("__classdict__" : Str)) = false := by decide +kernel
theorem d_q31 : (("needs_of" : Str) == ("__debug__" : Str)) = false := by decide +kernel
theorem z215 : (("other" : Str) == ("__debug__" : Str)) = false := by decide +kernel
theorem z200 : (("other" : Str) == ("__classdict__" : Str)) = false := by decide +kernel
theorem z726 : (("pairs" : Str) == ("__debug__" : Str)) = false := by decide +kernel
theorem z720 : (("pairs" : Str) == ("__classdict__" : Str)) = false := by decide +kernel
theorem z116 : (("place" : Str) == ("__debug__" : Str)) = false := by decide +kernel
theorem z108 : (("place" : Str) == ("__classdict__" : Str)) = false := by decide +kernel
theorem d_self : (("self" : Str) == ("__debug__" : Str)) = false := by decide +kernel
theorem e_self : (("self" : Str) == ("__classdict__" : Str)) = false := by decide +kernel
theorem d_sign : (("sign" : Str) == ("__debug__" : Str)) = false := by decide +kernel
theorem e_sign : (("sign" : Str) == ("__classdict__" : Str)) = false := by decide +kernel
theorem d_q6 : (("standing_cells" : Str) == ("__debug__" : Str)) = false := by decide +kernel
theorem d_q18 : (("steps_into" : Str) == ("__debug__" : Str)) = false := by decide +kernel
theorem d_str : (("str" : Str) == ("__debug__" : Str)) = false := by decide +kernel
theorem n_str : ("str" : Str) ≠ "__name__" := by decide +kernel
theorem z566 : (("taken" : Str) == ("__debug__" : Str)) = false := by decide +kernel
theorem z514 : (("taken" : Str) == ("__classdict__" : Str)) = false := by decide +kernel
theorem z381 : (("thing" : Str) == ("__debug__" : Str)) = false := by decide +kernel
theorem z409 : (("thing" : Str) == ("__classdict__" : Str)) = false := by decide +kernel
theorem d_wide : (("wide" : Str) == ("__debug__" : Str)) = false := by decide +kernel
theorem e_wide : (("wide" : Str) == ("__classdict__" : Str)) = false := by decide +kernel
theorem z480 : (defScope s_q32).names.lookup ("thing" : Str) = some .local := by decide +kernel
theorem z333 : Vis (defScope s_q32) "thing" := Or.inl z480
theorem z496 : (defScope s_q33).names.lookup ("thing" : Str) = some .local := by decide +kernel
theorem z335 : Vis (defScope s_q33) "thing" := Or.inl z496
theorem z498 : (defScope s_q33).names.lookup ("least" : Str) = some .local := by decide +kernel
theorem z493 : Vis (defScope s_q33) "least" := Or.inl z498
theorem z529 : (defScope s_q33).names.lookup ("most" : Str) = some .local := by decide +kernel
theorem z543 : Vis (defScope s_q33) "most" := Or.inl z529
theorem z585 : (defScope s_q26).names.lookup ("line" : Str) = some .local := by decide +kernel
theorem z292 : Vis (defScope s_q26) "line" := Or.inl z585
theorem z570 : (defScope s_q26).names.lookup ("wide" : Str) = some .local := by decide +kernel
theorem z532 : Vis (defScope s_q26) "wide" := Or.inl z570
theorem z501 : (defScope s_q14).names.lookup ("lines" : Str) = some .local := by decide +kernel
theorem z41 : Vis (defScope s_q14) "lines" := Or.inl z501
theorem z422 : (defScope s_q14).names.lookup ("line" : Str) = some .local := by decide +kernel
theorem z537 : Vis (defScope s_q14) "line" := Or.inl z422
theorem z573 : (defScope s_q19).names.lookup ("self" : Str) = some .local := by decide +kernel
theorem z201 : Vis (defScope s_q19) "self" := Or.inl z573
theorem z505 : (defScope s_q19).names.lookup ("lines" : Str) = some .local := by decide +kernel
theorem z89 : Vis (defScope s_q19) "lines" := Or.inl z505
theorem z599 : (defScope s_q27).names.lookup ("self" : Str) = some .local := by decide +kernel
theorem z391 : Vis (defScope s_q27) "self" := Or.inl z599
theorem z535 : (defScope s_q27).names.lookup ("cell" : Str) = some .local := by decide +kernel
theorem z390 : Vis (defScope s_q27) "cell" := Or.inl z535
theorem z591 : (defScope s_q20).names.lookup ("self" : Str) = some .local := by decide +kernel
theorem z579 : Vis (defScope s_q20) "self" := Or.inl z591
theorem z598 : (defScope s_q20).names.lookup ("cell" : Str) = some .local := by decide +kernel
theorem z551 : Vis (defScope s_q20) "cell" := Or.inl z598
theorem z623 : (defScope s_q9).names.lookup ("self" : Str) = some .local := by decide +kernel
theorem z620 : Vis (defScope s_q9) "self" := Or.inl z623
theorem z658 : (defScope s_q9).names.lookup ("cell" : Str) = some .local := by decide +kernel
theorem z622 : Vis (defScope s_q9) "cell" := Or.inl z658
theorem z586 : (defScope s_q28).names.lookup ("self" : Str) = some .local := by decide +kernel
theorem z512 : Vis (defScope s_q28) "self" := Or.inl z586
theorem z592 : (defScope s_q28).names.lookup ("cell" : Str) = some .local := by decide +kernel
theorem z562 : Vis (defScope s_q28) "cell" := Or.inl z592
theorem z589 : (defScope s_q10).names.lookup ("self" : Str) = some .cell := by decide +kernel
theorem z129 : Vis (defScope s_q10) "self" := Or.inr (Or.inl z589)
theorem z601 : (defScope s_q10).names.lookup ("cell" : Str) = some .local := by decide +kernel
theorem z91 : Vis (defScope s_q10) "cell" := Or.inl z601
theorem z410 : (defScope s_q10).names.lookup ("near" : Str) = some .local := by decide +kernel
theorem z199 : Vis (defScope s_q10) "near" := Or.inl z410
theorem z594 : (defScope s_q15).names.lookup ("self" : Str) = some .cell := by decide +kernel
theorem z565 : Vis (defScope s_q15) "self" := Or.inr (Or.inl z594)
theorem z661 : (defScope s_q7).names.lookup ("self" : Str) = some .cell := by decide +kernel
theorem z651 : Vis (defScope s_q7) "self" := Or.inr (Or.inl z661)
theorem z596 : (defScope s_q11).names.lookup ("self" : Str) = some .local := by decide +kernel
theorem z520 : Vis (defScope s_q11) "self" := Or.inl z596
theorem z521 : (defScope s_q11).names.lookup ("full" : Str) = some .local := by decide +kernel
theorem z530 : Vis (defScope s_q11) "full" := Or.inl z521
theorem z650 : (defScope s_q2).names.lookup ("sign" : Str) = some .local := by decide +kernel
theorem z641 : Vis (defScope s_q2) "sign" := Or.inl z650
theorem z626 : (defScope s_q3).names.lookup ("sign" : Str) = some .local := by decide +kernel
theorem z466 : Vis (defScope s_q3) "sign" := Or.inl z626
theorem z509 : (defScope s_q13).names.lookup ("floor" : Str) = some .local := by decide +kernel
theorem z506 : Vis (defScope s_q13) "floor" := Or.inl z509
theorem z488 : (defScope s_q13).names.lookup ("other" : Str) = some .local := by decide +kernel
theorem z483 : Vis (defScope s_q13) "other" := Or.inl z488
theorem z503 : (defScope s_q16).names.lookup ("floor" : Str) = some .local := by decide +kernel
theorem z157 : Vis (defScope s_q16) "floor" := Or.inl z503
theorem z572 : (defScope s_q16).names.lookup ("cell" : Str) = some .local := by decide +kernel
theorem z384 : Vis (defScope s_q16) "cell" := Or.inl z572
theorem z474 : (defScope s_q16).names.lookup ("other" : Str) = some .local := by decide +kernel
theorem z345 : Vis (defScope s_q16) "other" := Or.inl z474
theorem z653 : (defScope s_q0).names.lookup ("self" : Str) = some .local := by decide +kernel
theorem z368 : Vis (defScope s_q0) "self" := Or.inl z653
theorem z522 : (defScope s_q0).names.lookup ("floor" : Str) = some .local := by decide +kernel
theorem z273 : Vis (defScope s_q0) "floor" := Or.inl z522
theorem z629 : (defScope s_q0).names.lookup ("cell" : Str) = some .local := by decide +kernel
theorem z448 : Vis (defScope s_q0) "cell" := Or.inl z629
theorem z613 : (defScope s_q0).names.lookup ("other" : Str) = some .local := by decide +kernel
theorem z376 : Vis (defScope s_q0) "other" := Or.inl z613
theorem z577 : (defScope s_q8).names.lookup ("floor" : Str) = some .cell := by decide +kernel
theorem z560 : Vis (defScope s_q8) "floor" := Or.inr (Or.inl z577)
theorem z618 : (defScope s_q8).names.lookup ("cell" : Str) = some .cell := by decide +kernel
theorem z642 : Vis (defScope s_q8) "cell" := Or.inr (Or.inl z618)
theorem z402 : (defScope s_q8).names.lookup ("pairs" : Str) = some .local := by decide +kernel
theorem z554 : Vis (defScope s_q8) "pairs" := Or.inl z402
theorem z547 : (defScope s_q21).names.lookup ("kind" : Str) = some .local := by decide +kernel
theorem z216 : Vis (defScope s_q21) "kind" := Or.inl z547
theorem z561 : (defScope s_q21).names.lookup ("full" : Str) = some .local := by decide +kernel
theorem z214 : Vis (defScope s_q21) "full" := Or.inl z561
theorem z258 : (defScope s_Lat).names.lookup ("_law_script" : Str) = some .local := by decide +kernel
theorem z114 : Vis (defScope s_Lat) "_law_script" := Or.inl z258
theorem z439 : (defScope s_Lat).names.lookup ("_law_k" : Str) = some .local := by decide +kernel
theorem z71 : Vis (defScope s_Lat) "_law_k" := Or.inl z439
theorem z82 : (defScope s_Lat).names.lookup ("_law_cell" : Str) = some .local := by decide +kernel
theorem z323 : Vis (defScope s_Lat) "_law_cell" := Or.inl z82
theorem z321 : (defScope s_q36).names.lookup ("_law_cell" : Str) = some .local := by decide +kernel
theorem z325 : Vis (defScope s_q36) "_law_cell" := Or.inl z321
theorem z431 : (defScope s_q36).names.lookup ("_law_k" : Str) = some .local := by decide +kernel
theorem z190 : Vis (defScope s_q36) "_law_k" := Or.inl z431
theorem z291 : (defScope s_q37).names.lookup ("_law_thing" : Str) = some .local := by decide +kernel
theorem z135 : Vis (defScope s_q37) "_law_thing" := Or.inl z291
theorem z257 : (defScope s_q38).names.lookup ("_law_script" : Str) = some .local := by decide +kernel
theorem z111 : Vis (defScope s_q38) "_law_script" := Or.inl z257
theorem z426 : (defScope s_q38).names.lookup ("_law_k" : Str) = some .local := by decide +kernel
theorem z306 : Vis (defScope s_q38) "_law_k" := Or.inl z426
theorem z319 : (defScope s_q38).names.lookup ("_law_most" : Str) = some .local := by decide +kernel
theorem z186 : Vis (defScope s_q38) "_law_most" := Or.inl z319
theorem z147 : (defScope s_q38).names.lookup ("_law_first" : Str) = some .local := by decide +kernel
theorem z73 : Vis (defScope s_q38) "_law_first" := Or.inl z147
theorem z181 : (defScope s_q38).names.lookup ("_law_wide" : Str) = some .cell := by decide +kernel
theorem z314 : Vis (defScope s_q38) "_law_wide" := Or.inr (Or.inl z181)
theorem z175 : (defScope s_q38).names.lookup ("_law_high" : Str) = some .local := by decide +kernel
theorem z174 : Vis (defScope s_q38) "_law_high" := Or.inl z175
theorem z140 : (defScope s_q38).names.lookup ("_law_signs" : Str) = some .local := by decide +kernel
theorem z142 : Vis (defScope s_q38) "_law_signs" := Or.inl z140
theorem z45 : (defScope s_q38).names.lookup ("_law_text" : Str) = some .cell := by decide +kernel
theorem z46 : Vis (defScope s_q38) "_law_text" := Or.inr (Or.inl z45)
theorem z275 : (defScope s_q38).names.lookup ("_law_j" : Str) = some .local := by decide +kernel
theorem z285 : Vis (defScope s_q38) "_law_j" := Or.inl z275
theorem z119 : (defScope z141).names.lookup ("_law_lines_here" : Str) = some .local := by decide +kernel
theorem z25 : Vis (defScope z141) "_law_lines_here" := Or.inl z119
theorem z259 : (defScope z141).names.lookup ("_law_cell" : Str) = some .local := by decide +kernel
theorem z115 : Vis (defScope z141) "_law_cell" := Or.inl z259
theorem z165 : (defScope s_q39).names.lookup ("_law_lines_here" : Str) = some .cell := by decide +kernel
theorem z58 : Vis (defScope s_q39) "_law_lines_here" := Or.inr (Or.inl z165)
theorem z164 : (defScope s_q34).names.lookup ("_law_lines_here" : Str) = some .local := by decide +kernel
theorem z60 : Vis (defScope s_q34) "_law_lines_here" := Or.inl z164
theorem z317 : (defScope s_q34).names.lookup ("_law_cell" : Str) = some .local := by decide +kernel
theorem z183 : Vis (defScope s_q34) "_law_cell" := Or.inl z317
theorem z185 : (defScope s_q34).names.lookup ("_law_wide" : Str) = some .local := by decide +kernel
theorem z47 : Vis (defScope s_q34) "_law_wide" := Or.inl z185
theorem z144 : (defScope s_q34).names.lookup ("_law_found" : Str) = some .local := by decide +kernel
theorem z146 : Vis (defScope s_q34) "_law_found" := Or.inl z144
theorem z123 : (defScope s_q34).names.lookup ("_law_other" : Str) = some .local := by decide +kernel
theorem z70 : Vis (defScope s_q34) "_law_other" := Or.inl z123
theorem z184 : (defScope s_q34).names.lookup ("_law_down" : Str) = some .local := by decide +kernel
theorem z167 : Vis (defScope s_q34) "_law_down" := Or.inl z184
theorem z112 : (defScope s_q34).names.lookup ("_law_across" : Str) = some .local := by decide +kernel
theorem z117 : Vis (defScope s_q34) "_law_across" := Or.inl z112
theorem z329 : (defScope s_q35).names.lookup ("_law_kind" : Str) = some .local := by decide +kernel
theorem z316 : Vis (defScope s_q35) "_law_kind" := Or.inl z329
theorem z192 : (defScope s_q35).names.lookup ("_law_sign_here" : Str) = some .local := by decide +kernel
theorem z68 : Vis (defScope s_q35) "_law_sign_here" := Or.inl z192
theorem z249 : (defScope z49).names.lookup ("_law_kind" : Str) = some .local := by decide +kernel
theorem z52 : Vis (defScope z49) "_law_kind" := Or.inl z249
theorem z120 : (defScope z49).names.lookup ("_law_lines_here" : Str) = some .local := by decide +kernel
theorem z9 : Vis (defScope z49) "_law_lines_here" := Or.inl z120
theorem z254 : (defScope z49).names.lookup ("_law_cell" : Str) = some .local := by decide +kernel
theorem z118 : Vis (defScope z49) "_law_cell" := Or.inl z254
theorem z226 : (defScope z49).names.lookup ("_law_other" : Str) = some .local := by decide +kernel
theorem z29 : Vis (defScope z49) "_law_other" := Or.inl z226
theorem z318 : (defScope s_q40).names.lookup ("_law_kind" : Str) = some .local := by decide +kernel
theorem z324 : Vis (defScope s_q40) "_law_kind" := Or.inl z318
theorem z161 : (defScope s_q40).names.lookup ("_law_lines_here" : Str) = some .local := by decide +kernel
theorem z63 : Vis (defScope s_q40) "_law_lines_here" := Or.inl z161
theorem z326 : (defScope s_q40).names.lookup ("_law_cell" : Str) = some .local := by decide +kernel
theorem z168 : Vis (defScope s_q40) "_law_cell" := Or.inl z326
theorem z127 : (defScope s_q40).names.lookup ("_law_found" : Str) = some .local := by decide +kernel
theorem z133 : Vis (defScope s_q40) "_law_found" := Or.inl z127
theorem z128 : (defScope s_q40).names.lookup ("_law_other" : Str) = some .local := by decide +kernel
theorem z122 : Vis (defScope s_q40) "_law_other" := Or.inl z128
theorem z137 : (defScope s_q40).names.lookup ("_law_taken" : Str) = some .local := by decide +kernel
theorem z132 : Vis (defScope s_q40) "_law_taken" := Or.inl z137
theorem z610 : (defScope s_q22).names.lookup ("self" : Str) = some .local := by decide +kernel
theorem z545 : Vis (defScope s_q22) "self" := Or.inl z610
theorem z588 : (defScope s_q25).names.lookup ("self" : Str) = some .local := by decide +kernel
theorem z219 : Vis (defScope s_q25) "self" := Or.inl z588
theorem z510 : (defScope s_q25).names.lookup ("place" : Str) = some .local := by decide +kernel
theorem z347 : Vis (defScope s_q25) "place" := Or.inl z510
theorem z487 : (defScope s_q25).names.lookup ("other" : Str) = some .local := by decide +kernel
theorem z337 : Vis (defScope s_q25) "other" := Or.inl z487
theorem z407 : (defScope s_q25).names.lookup ("kept" : Str) = some .local := by decide +kernel
theorem z526 : Vis (defScope s_q25) "kept" := Or.inl z407
theorem z652 : (defScope s_q1).names.lookup ("self" : Str) = some .local := by decide +kernel
theorem z266 : Vis (defScope s_q1) "self" := Or.inl z652
theorem z605 : (defScope s_q1).names.lookup ("place" : Str) = some .local := by decide +kernel
theorem z544 : Vis (defScope s_q1) "place" := Or.inl z605
theorem z403 : (defScope s_q1).names.lookup ("below" : Str) = some .local := by decide +kernel
theorem z90 : Vis (defScope s_q1) "below" := Or.inl z403
theorem z655 : (defScope s_q5).names.lookup ("self" : Str) = some .local := by decide +kernel
theorem z262 : Vis (defScope s_q5) "self" := Or.inl z655
theorem z297 : (defScope s_q5).names.lookup ("place" : Str) = some .local := by decide +kernel
theorem z126 : Vis (defScope s_q5) "place" := Or.inl z297
theorem z268 : (defScope s_q5).names.lookup ("above" : Str) = some .local := by decide +kernel
theorem z283 : Vis (defScope s_q5) "above" := Or.inl z268
theorem z657 : (defScope s_q4).names.lookup ("self" : Str) = some .local := by decide +kernel
theorem z218 : Vis (defScope s_q4) "self" := Or.inl z657
theorem z302 : (defScope s_q4).names.lookup ("place" : Str) = some .local := by decide +kernel
theorem z210 : Vis (defScope s_q4) "place" := Or.inl z302
theorem z311 : (defScope s_q4).names.lookup ("below" : Str) = some .local := by decide +kernel
theorem z206 : Vis (defScope s_q4) "below" := Or.inl z311
theorem z614 : (defScope s_q17).names.lookup ("self" : Str) = some .local := by decide +kernel
theorem z396 : Vis (defScope s_q17) "self" := Or.inl z614
theorem z516 : (defScope s_q29).names.lookup ("self" : Str) = some .local := by decide +kernel
theorem z414 : Vis (defScope s_q29) "self" := Or.inl z516
theorem z502 : (defScope s_q29).names.lookup ("thing" : Str) = some .local := by decide +kernel
theorem z500 : Vis (defScope s_q29) "thing" := Or.inl z502
theorem z549 : (defScope s_q23).names.lookup ("self" : Str) = some .local := by decide +kernel
theorem z138 : Vis (defScope s_q23) "self" := Or.inl z549
theorem z343 : (defScope s_q23).names.lookup ("first" : Str) = some .local := by decide +kernel
theorem z477 : Vis (defScope s_q23) "first" := Or.inl z343
theorem z419 : (defScope s_q23).names.lookup ("last" : Str) = some .local := by decide +kernel
theorem z574 : Vis (defScope s_q23) "last" := Or.inl z419
theorem z571 : (defScope s_q24).names.lookup ("self" : Str) = some .local := by decide +kernel
theorem z581 : Vis (defScope s_q24) "self" := Or.inl z571
theorem z525 : (defScope s_q6).names.lookup ("floor" : Str) = some .cell := by decide +kernel
theorem z557 : Vis (defScope s_q6) "floor" := Or.inr (Or.inl z525)
theorem z492 : (defScope s_q18).names.lookup ("floor" : Str) = some .local := by decide +kernel
theorem z231 : Vis (defScope s_q18) "floor" := Or.inl z492
theorem z397 : (defScope s_q18).names.lookup ("carrier" : Str) = some .local := by decide +kernel
theorem z244 : Vis (defScope s_q18) "carrier" := Or.inl z397
theorem z399 : (defScope s_q18).names.lookup ("into" : Str) = some .local := by decide +kernel
theorem z276 : Vis (defScope s_q18) "into" := Or.inl z399
theorem z301 : (defScope s_q18).names.lookup ("cell" : Str) = some .local := by decide +kernel
theorem z313 : Vis (defScope s_q18) "cell" := Or.inl z301
theorem z342 : (defScope s_q18).names.lookup ("other" : Str) = some .local := by decide +kernel
theorem z482 : Vis (defScope s_q18) "other" := Or.inl z342
theorem z388 : (defScope s_q18).names.lookup ("cost" : Str) = some .local := by decide +kernel
theorem z583 : Vis (defScope s_q18) "cost" := Or.inl z388
theorem z499 : (defScope s_q30).names.lookup ("floor" : Str) = some .local := by decide +kernel
theorem z473 : Vis (defScope s_q30) "floor" := Or.inl z499
theorem z412 : (defScope s_q30).names.lookup ("carrier" : Str) = some .local := by decide +kernel
theorem z386 : Vis (defScope s_q30) "carrier" := Or.inl z412
theorem z490 : (defScope s_q30).names.lookup ("goals" : Str) = some .local := by decide +kernel
theorem z507 : Vis (defScope s_q30) "goals" := Or.inl z490
theorem z380 : (defScope s_q30).names.lookup ("into" : Str) = some .local := by decide +kernel
theorem z541 : Vis (defScope s_q30) "into" := Or.inl z380
theorem z346 : (defScope s_q30).names.lookup ("costs" : Str) = some .local := by decide +kernel
theorem z227 : Vis (defScope s_q30) "costs" := Or.inl z346
theorem z383 : (defScope s_q30).names.lookup ("heap" : Str) = some .local := by decide +kernel
theorem z213 : Vis (defScope s_q30) "heap" := Or.inl z383
theorem z379 : (defScope s_q30).names.lookup ("goal" : Str) = some .local := by decide +kernel
theorem z609 : Vis (defScope s_q30) "goal" := Or.inl z379
theorem z353 : (defScope s_q30).names.lookup ("taken" : Str) = some .local := by decide +kernel
theorem z236 : Vis (defScope s_q30) "taken" := Or.inl z353
theorem z405 : (defScope s_q30).names.lookup ("cell" : Str) = some .local := by decide +kernel
theorem z278 : Vis (defScope s_q30) "cell" := Or.inl z405
theorem z331 : (defScope s_q30).names.lookup ("other" : Str) = some .local := by decide +kernel
theorem z494 : Vis (defScope s_q30) "other" := Or.inl z331
theorem z421 : (defScope s_q30).names.lookup ("cost" : Str) = some .local := by decide +kernel
theorem z607 : Vis (defScope s_q30) "cost" := Or.inl z421
theorem z478 : (defScope s_q31).names.lookup ("floor" : Str) = some .cell := by decide +kernel
theorem z348 : Vis (defScope s_q31) "floor" := Or.inr (Or.inl z478)
theorem z420 : (defScope s_q31).names.lookup ("carrier" : Str) = some .cell := by decide +kernel
theorem z394 : Vis (defScope s_q31) "carrier" := Or.inr (Or.inl z420)
theorem z208 : (defScope s_q31).names.lookup ("chargers" : Str) = some .local := by decide +kernel
theorem z365 : Vis (defScope s_q31) "chargers" := Or.inl z208
theorem z162 : (defScope s_q41).names.lookup ("_law_lines_here" : Str) = some .cell := by decide +kernel
theorem z163 : Vis (defScope s_q41) "_law_lines_here" := Or.inr (Or.inl z162)
theorem z299 : (defScope s_q41).names.lookup ("_law_goals" : Str) = some .local := by decide +kernel
theorem z271 : Vis (defScope s_q41) "_law_goals" := Or.inl z299
theorem z125 : (defScope s_q41).names.lookup ("_law_found" : Str) = some .cell := by decide +kernel
theorem z17 : Vis (defScope s_q41) "_law_found" := Or.inr (Or.inl z125)
theorem z57 : (defScope s_q41).names.lookup ("_law_cells_here" : Str) = some .local := by decide +kernel
theorem z160 : Vis (defScope s_q41) "_law_cells_here" := Or.inl z57
theorem z178 : (defScope s_q41).names.lookup ("_law_rows" : Str) = some .local := by decide +kernel
theorem z322 : Vis (defScope s_q41) "_law_rows" := Or.inl z178
theorem z53 : (defScope s_q41).names.lookup ("_law_before" : Str) = some .local := by decide +kernel
theorem z252 : Vis (defScope s_q41) "_law_before" := Or.inl z53
theorem z179 : (defScope s_q41).names.lookup ("_law_cell" : Str) = some .local := by decide +kernel
theorem z84 : Vis (defScope s_q41) "_law_cell" := Or.inl z179
theorem z61 : (defScope s_q41).names.lookup ("_law_steps_here" : Str) = some .local := by decide +kernel
theorem z166 : Vis (defScope s_q41) "_law_steps_here" := Or.inl z61
theorem z173 : (defScope s_q41).names.lookup ("_law_some" : Str) = some .local := by decide +kernel
theorem z85 : Vis (defScope s_q41) "_law_some" := Or.inl z173
theorem z224 : (defScope z93).names.lookup ("_law_found" : Str) = some .cell := by decide +kernel
theorem z42 : Vis (defScope z93) "_law_found" := Or.inr (Or.inl z224)
theorem z307 : (defScope z93).names.lookup ("_law_due" : Str) = some .local := by decide +kernel
theorem z277 : Vis (defScope z93) "_law_due" := Or.inl z307
theorem z255 : (defScope s_law).names.lookup ("_law_script" : Str) = some .cell := by decide +kernel
theorem z31 : Vis (defScope s_law) "_law_script" := Or.inr (Or.inl z255)
theorem z56 : (defScope s_law).names.lookup ("_law_lines_here" : Str) = some .cell := by decide +kernel
theorem z15 : Vis (defScope s_law) "_law_lines_here" := Or.inr (Or.inl z56)
theorem z148 : (defScope s_law).names.lookup ("_law_floor" : Str) = some .local := by decide +kernel
theorem z38 : Vis (defScope s_law) "_law_floor" := Or.inl z148
theorem z180 : (defScope s_law).names.lookup ("_law_cell" : Str) = some .local := by decide +kernel
theorem z48 : Vis (defScope s_law) "_law_cell" := Or.inl z180
theorem z169 : (defScope s_law).names.lookup ("_law_kind" : Str) = some .cell := by decide +kernel
theorem z81 : Vis (defScope s_law) "_law_kind" := Or.inr (Or.inl z169)
theorem z97 : (defScope s_law).names.lookup ("_law_carrier" : Str) = some .local := by decide +kernel
theorem z27 : Vis (defScope s_law) "_law_carrier" := Or.inl z97
theorem z182 : (defScope s_law).names.lookup ("_law_able" : Str) = some .cell := by decide +kernel
theorem z43 : Vis (defScope s_law) "_law_able" := Or.inr (Or.inl z182)
theorem z69 : (defScope s_law).names.lookup ("_law_goals" : Str) = some .local := by decide +kernel
theorem z72 : Vis (defScope s_law) "_law_goals" := Or.inl z69
theorem z54 : (defScope s_law).names.lookup ("_law_others" : Str) = some .local := by decide +kernel
theorem z246 : Vis (defScope s_law) "_law_others" := Or.inl z54
theorem z77 : (defScope s_law).names.lookup ("_law_chargers" : Str) = some .local := by decide +kernel
theorem z202 : Vis (defScope s_law) "_law_chargers" := Or.inl z77
theorem z212 : (defScope s_law).names.lookup ("_law_due" : Str) = some .local := by decide +kernel
theorem z100 : Vis (defScope s_law) "_law_due" := Or.inl z212
theorem z110 : (defScope s_law).names.lookup ("_law_handed" : Str) = some .local := by decide +kernel
theorem z33 : Vis (defScope s_law) "_law_handed" := Or.inl z110
theorem z170 : (defScope s_law).names.lookup ("_law_kept" : Str) = some .local := by decide +kernel
theorem z87 : Vis (defScope s_law) "_law_kept" := Or.inl z170
theorem z207 : (defScope s_law).names.lookup ("_law_row" : Str) = some .local := by decide +kernel
theorem z102 : Vis (defScope s_law) "_law_row" := Or.inl z207
theorem z145 : (defScope s_law).names.lookup ("_law_found" : Str) = some .local := by decide +kernel
theorem z39 : Vis (defScope s_law) "_law_found" := Or.inl z145
theorem z172 : (defScope s_law).names.lookup ("_law_told" : Str) = some .local := by decide +kernel
theorem z86 : Vis (defScope s_law) "_law_told" := Or.inl z172
theorem z253 : (defScope s_q2).names.lookup ("COMMON_SIGNS" : Str) = some .globalImplicit := by decide +kernel
theorem z508 : (defScope s_q13).names.lookup ("ROUGH" : Str) = some .globalImplicit := by decide +kernel
theorem z245 : (defScope s_q3).names.lookup ("COMMON_SIGNS" : Str) = some .globalImplicit := by decide +kernel
theorem z552 : (defScope s_q3).names.lookup ("ROUGH" : Str) = some .globalImplicit := by decide +kernel
theorem z654 : (defScope s_q19).names.lookup ("check_floor" : Str) = some .globalImplicit := by decide +kernel
theorem z459 : (defScope s_q19).names.lookup ("len" : Str) = some .globalImplicit := by decide +kernel
theorem z602 : (defScope s_q19).names.lookup ("list" : Str) = some .globalImplicit := by decide +kernel
theorem z630 : (defScope s_q15).names.lookup ("len" : Str) = some .globalImplicit := by decide +kernel
theorem z497 : (defScope s_q15).names.lookup ("range" : Str) = some .globalImplicit := by decide +kernel
theorem z686 : (defScope s_q7).names.lookup ("len" : Str) = some .globalImplicit := by decide +kernel
theorem z563 : (defScope s_q7).names.lookup ("range" : Str) = some .globalImplicit := by decide +kernel
theorem z548 : (defScope s_q27).names.lookup ("WALL" : Str) = some .globalImplicit := by decide +kernel
theorem z634 : (defScope s_q27).names.lookup ("is_among" : Str) = some .globalImplicit := by decide +kernel
theorem z648 : (defScope s_q27).names.lookup ("len" : Str) = some .globalImplicit := by decide +kernel
theorem z603 : (defScope s_q1).names.lookup ("len" : Str) = some .globalImplicit := by decide +kernel
theorem z685 : (defScope s_q5).names.lookup ("len" : Str) = some .globalImplicit := by decide +kernel
theorem z662 : (defScope s_q24).names.lookup ("len" : Str) = some .globalImplicit := by decide +kernel
theorem z542 : (defScope s_q16).names.lookup ("LANE" : Str) = some .globalImplicit := by decide +kernel
theorem z625 : (defScope s_Lat).names.lookup ("len" : Str) = some .globalImplicit := by decide +kernel
theorem z267 : (defScope s_q34).names.lookup ("_law_cells" : Str) = some .globalImplicit := by decide +kernel
theorem z617 : (defScope s_q34).names.lookup ("len" : Str) = some .globalImplicit := by decide +kernel
theorem z460 : (defScope s_q39).names.lookup ("len" : Str) = some .globalImplicit := by decide +kernel
theorem z511 : (defScope s_q39).names.lookup ("range" : Str) = some .globalImplicit := by decide +kernel
theorem z32 : (defScope z49).names.lookup ("_law_sign" : Str) = some .globalImplicit := by decide +kernel
theorem z204 : (defScope z49).names.lookup ("_law_stands" : Str) = some .globalImplicit := by decide +kernel
theorem z351 : (defScope z49).names.lookup ("len" : Str) = some .globalImplicit := by decide +kernel
theorem z309 : (defScope s_q41).names.lookup ("_law_cells" : Str) = some .globalImplicit := by decide +kernel
theorem z374 : (defScope s_q41).names.lookup ("dict" : Str) = some .globalImplicit := by decide +kernel
theorem z453 : (defScope s_q41).names.lookup ("min" : Str) = some .globalImplicit := by decide +kernel
theorem z240 : (defScope s_q38).names.lookup ("_law_at" : Str) = some .globalImplicit := by decide +kernel
theorem z288 : (defScope s_q38).names.lookup ("_law_mixed" : Str) = some .globalImplicit := by decide +kernel
theorem z456 : (defScope s_q38).names.lookup ("len" : Str) = some .globalImplicit := by decide +kernel
theorem z350 : (defScope s_q38).names.lookup ("range" : Str) = some .globalImplicit := by decide +kernel
theorem z428 : (defScope z93).names.lookup ("dict" : Str) = some .globalImplicit := by decide +kernel
theorem z235 : (defScope z93).names.lookup ("isinstance" : Str) = some .globalImplicit := by decide +kernel
theorem z341 : (defScope z141).names.lookup ("len" : Str) = some .globalImplicit := by decide +kernel
theorem z248 : (defScope s_q40).names.lookup ("_law_beside" : Str) = some .globalImplicit := by decide +kernel
theorem z315 : (defScope s_q40).names.lookup ("_law_cost" : Str) = some .globalImplicit := by decide +kernel
theorem z578 : (defScope s_q37).names.lookup ("bool" : Str) = some .globalImplicit := by decide +kernel
theorem z631 : (defScope s_q37).names.lookup ("int" : Str) = some .globalImplicit := by decide +kernel
theorem z143 : (defScope s_q37).names.lookup ("isinstance" : Str) = some .globalImplicit := by decide +kernel
theorem z531 : (defScope s_q21).names.lookup ("Cart" : Str) = some .globalImplicit := by decide +kernel
theorem z413 : (defScope s_q21).names.lookup ("Crawler" : Str) = some .globalImplicit := by decide +kernel
theorem z495 : (defScope s_q21).names.lookup ("KINDS" : Str) = some .globalImplicit := by decide +kernel
theorem z328 : (defScope s_q21).names.lookup ("MOST_FULL" : Str) = some .globalImplicit := by decide +kernel
theorem z437 : (defScope s_q21).names.lookup ("Runner" : Str) = some .globalImplicit := by decide +kernel
theorem z639 : (defScope s_q21).names.lookup ("is_among" : Str) = some .globalImplicit := by decide +kernel
theorem z279 : (defScope s_q21).names.lookup ("isinstance" : Str) = some .globalImplicit := by decide +kernel
theorem z621 : (defScope s_q21).names.lookup ("str" : Str) = some .globalImplicit := by decide +kernel
theorem z330 : (defScope s_q14).names.lookup ("MOST_ROWS" : Str) = some .globalImplicit := by decide +kernel
theorem z303 : (defScope s_q14).names.lookup ("MOST_SIGNS" : Str) = some .globalImplicit := by decide +kernel
theorem z643 : (defScope s_q14).names.lookup ("all" : Str) = some .globalImplicit := by decide +kernel
theorem z615 : (defScope s_q14).names.lookup ("check_row" : Str) = some .globalImplicit := by decide +kernel
theorem z446 : (defScope s_q14).names.lookup ("is_among" : Str) = some .globalImplicit := by decide +kernel
theorem z121 : (defScope s_q14).names.lookup ("isinstance" : Str) = some .globalImplicit := by decide +kernel
theorem z367 : (defScope s_q14).names.lookup ("len" : Str) = some .globalImplicit := by decide +kernel
theorem z593 : (defScope s_q14).names.lookup ("list" : Str) = some .globalImplicit := by decide +kernel
theorem z619 : (defScope s_q14).names.lookup ("str" : Str) = some .globalImplicit := by decide +kernel
theorem z627 : (defScope s_q26).names.lookup ("all" : Str) = some .globalImplicit := by decide +kernel
theorem z287 : (defScope s_q26).names.lookup ("isinstance" : Str) = some .globalImplicit := by decide +kernel
theorem z633 : (defScope s_q26).names.lookup ("len" : Str) = some .globalImplicit := by decide +kernel
theorem z638 : (defScope s_q26).names.lookup ("str" : Str) = some .globalImplicit := by decide +kernel
theorem z540 : (defScope s_q30).names.lookup ("Heap" : Str) = some .globalImplicit := by decide +kernel
theorem z624 : (defScope s_q30).names.lookup ("steps_into" : Str) = some .globalImplicit := by decide +kernel
theorem z649 : (defScope s_q33).names.lookup ("is_whole" : Str) = some .globalImplicit := by decide +kernel
theorem z576 : (defScope s_q32).names.lookup ("bool" : Str) = some .globalImplicit := by decide +kernel
theorem z640 : (defScope s_q32).names.lookup ("int" : Str) = some .globalImplicit := by decide +kernel
theorem z139 : (defScope s_q32).names.lookup ("isinstance" : Str) = some .globalImplicit := by decide +kernel
theorem z485 : (defScope s_law).names.lookup ("Floor" : Str) = some .globalImplicit := by decide +kernel
theorem z124 : (defScope s_law).names.lookup ("_law_at" : Str) = some .globalImplicit := by decide +kernel
theorem z295 : (defScope s_law).names.lookup ("_law_cells" : Str) = some .globalImplicit := by decide +kernel
theorem z136 : (defScope s_law).names.lookup ("_law_costs" : Str) = some .globalImplicit := by decide +kernel
theorem z274 : (defScope s_law).names.lookup ("_law_lines" : Str) = some .globalImplicit := by decide +kernel
theorem z44 : (defScope s_law).names.lookup ("_law_same" : Str) = some .globalImplicit := by decide +kernel
theorem z647 : (defScope s_law).names.lookup ("carrier_of" : Str) = some .globalImplicit := by decide +kernel
theorem z644 : (defScope s_law).names.lookup ("costs_to" : Str) = some .globalImplicit := by decide +kernel
theorem z553 : (defScope s_law).names.lookup ("dict" : Str) = some .globalImplicit := by decide +kernel
theorem z452 : (defScope s_law).names.lookup ("len" : Str) = some .globalImplicit := by decide +kernel
theorem z513 : (defScope s_law).names.lookup ("list" : Str) = some .globalImplicit := by decide +kernel
theorem z362 : (defScope s_law).names.lookup ("needs_of" : Str) = some .globalImplicit := by decide +kernel
theorem z479 : (defScope s_law).names.lookup ("range" : Str) = some .globalImplicit := by decide +kernel
theorem z628 : (defScope s_q31).names.lookup ("costs_to" : Str) = some .globalImplicit := by decide +kernel
theorem z684 : (defScope s_q18).names.lookup ("standing_cells" : Str) = some .globalImplicit := by decide +kernel
theorem sc_q32 : FnScope ["thing"] ["thing"] (defScope s_q32) := ⟨rfl, rfl, rfl, by decide +kernel, rfl, by decide +kernel, by decide +kernel⟩
set_option maxHeartbeats 4000000 in
local macro_rules | `(tactic| walk_at "RD") => `(tactic| simp only [tNever, z269, iRng1, iRng2, gTup, gTupL, gCons, gNil, tRevT, rRep01, rCatT, rCat, rRep, rJoin, tLRng2, tMethV, tDisp, tPairs, tYes, tDGet, rClear, rExtend, z241, rNeN, tDIn, tDNotIn, tDNewK, sDPut, tDGet1, tAug, ipI, rLtT, tThawK, tThawE, iDictK, rEqK, tSeq, tCallX, tMethX, tMakeX, tRaise, noW, tAsg, tOp, tUn, tVar, tC, rI0, rI, rU, tTest, tIfS, tNext, tRet, tRetN, tDrop, gName, tCB, tCons, tNil, tAndV, tOrV, tNotV, tAnd, tOr, tNot, tB, tIf, tChain, tCall, tBM, tBM0, tLst, tTup, tNoPart, tPart, tSlS, tSl, tBreak, tCont, rSlA, rSlL, rPopAt, rIn, rIxL, rIxT, rIxS, rEq, rNe, scal, rAppend, rPop, rIndex, tFld, sFld, tMeth, tMake, tDNewK, gSub, rSetL, z188, tComp, sComp, capσ, iStr, iList, iTup, rEqD, cxK, cxA, cxKc, cxAc, L2.start, List.map_cons, List.map_nil, List.length_cons, List.length_nil, List.replicate_succ, List.replicate_zero, List.cons_append, List.nil_append, List.append_nil, Nat.reduceAdd, Nat.reduceSub, List.set_cons_zero, List.set_cons_succ, List.getElem?_cons_zero, List.getElem?_cons_succ, Option.getD_some, Option.getD_none, Option.some.injEq, V.int.injEq, V.ref.injEq, V.bl.injEq, V.str.injEq, V.ty.injEq, exists_eq_left', exists_eq_left, exists_and_left, and_assoc, List.cons.injEq, and_true, true_and, decide_eq_true_eq, Bool.not_eq_true', decide_eq_false_iff_not, Bool.false_eq_true, if_false, if_true, reduceIte, Bool.not_true, Bool.not_false, beq_self_eq_true])
theorem ok_q32 {fd : FuncData} (F : Fun K "is_whole" "is_whole" s_q32 ad.q32 fd) (T : Txt K mg ad) : FnOk P w K mg base CX0 1 ad.q32 fd ["thing"] (z339 K) := by
  refine F.ok sc_q32 (fun vs H Q E h => ?_) (fun cdv A outer s H vs Q E HR h => ?_)
  · obtain ⟨x, rfl, _⟩ := h
    rfl
  · obtain ⟨x, rfl, ty, hq⟩ := h
    have ND := sc_q32.nd
    have HU0 := HR.units0
    have HU := HR.units
    have hA := HR.hd
    have hz : (100000 : Nat) ≤ sizeLine := by rw [sizeLine_eq]; decide
    refine ⟨_, (pss_one (ps_ret (pe_and (pe_callB z26 (gl_of z139) T.b_isinstance PyProof.Rows.Boot.«isinstance» (pa_cons (pe_var (i := 0) (x := "thing") rfl (vis_of z333) z381 z409) (pa_cons (pe_bltn (v := .ty "int") (gl_of z640) T.b_int PyProof.Rows.Boot.«int» rfl (hn := n_int) (hd := d_int)) pa_nil (stp rfl)) (stp rfl)) (hn := z20) (hdb := z24) (he := stp rfl) (hpl := anp rfl)) (pe_one (pe_not (pe_callB z26 (gl_of z139) T.b_isinstance PyProof.Rows.Boot.«isinstance» (pa_cons (pe_var (i := 0) (x := "thing") rfl (vis_of z333) z381 z409) (pa_cons (pe_bltn (v := .ty "bool") (gl_of z576) T.b_bool PyProof.Rows.Boot.«bool» rfl (hn := n_bool) (hd := d_bool)) pa_nil (stp rfl)) (stp rfl)) (hn := z20) (hdb := z24) (he := stp rfl) (hpl := anp rfl))))))), ?_⟩
    obtain ⟨n, ty⟩ := ty
    have e1 := z665 ty
    have e2 := z597 ty
    walk_at "RD"
    refine ⟨_, ty, _, e1, ?_⟩
    cases hb : isIB x with
    | true =>
      rw [if_pos rfl]
      refine ⟨_, ty, _, e2, ?_⟩
      cases x <;> simp_all [isI, isB, isIB]
    | false =>
      rw [if_neg (by decide)]
      cases x <;> simp_all [isI, isB, isIB]
theorem sc_q33 : FnScope ["thing", "least", "most"] ["thing", "least", "most"] (defScope s_q33) := ⟨rfl, rfl, rfl, by decide +kernel, rfl, by decide +kernel, by decide +kernel⟩
set_option maxHeartbeats 4000000 in
theorem ok_q33 {fd : FuncData} (F : Fun K "is_among" "is_among" s_q33 ad.q33 fd) (T : Txt K mg ad) {fd_q32 : FuncData} (B_q32 : Binds K fd_q32 ["thing"] []) (G_q32 : FnOk P w K mg base CX0 1 ad.q32 fd_q32 ["thing"] (z339 K)) : FnOk P w K mg base CX0 2 ad.q33 fd ["thing", "least", "most"] (z401 K) := by
  refine F.ok sc_q33 (fun vs H Q E h => ?_) (fun cdv A outer s H vs Q E HR h => ?_)
  · obtain ⟨x, lo, hi, rfl, _⟩ := h
    rfl
  · obtain ⟨x, lo, hi, rfl, ty, hq⟩ := h
    have ND := sc_q33.nd
    have HU0 := HR.units0
    have HU := HR.units
    have hA := HR.hd
    have hz : (100000 : Nat) ≤ sizeLine := by rw [sizeLine_eq]; decide
    refine ⟨_, (pss_one (ps_ret (pe_and (pe_call G_q32 (HR.mono (by decide)) (gl_of z649) T.mg_q32 T.k_q32 B_q32 .nil pass0 (pa_cons (pe_var (i := 0) (x := "thing") rfl (vis_of z335) z381 z409) pa_nil (stp rfl)) (hdb := d_q32) (he := stp rfl) (hpl := anp rfl)) (pe_one (pe_chain op_le op_le (pe_var (i := 1) (x := "least") rfl (vis_of z493) z713 z714) (pe_var (i := 0) (x := "thing") rfl (vis_of z335) z381 z409) (pe_var (i := 2) (x := "most") rfl (vis_of z543) d_most e_most)))))), ?_⟩
    walk_at "RD"
    refine ⟨x, rfl, ty, ?_⟩
    walk_at "RD"
    cases x <;> simp_all [isI, amg]
    split <;> simp_all
theorem sc_q26 : FnScope ["line", "wide"] ["line", "wide"] (defScope s_q26) := ⟨rfl, rfl, rfl, by decide +kernel, rfl, by decide +kernel, by decide +kernel⟩
set_option maxHeartbeats 4000000 in
theorem ok_q26 {fd : FuncData} (F : Fun K "check_row" "check_row" s_q26 ad.q26 fd) (T : Txt K mg ad) : FnOk P w K mg base CX0 1 ad.q26 fd ["line", "wide"] (spRow) := by
  refine F.ok sc_q26 (fun vs H Q E h => ?_) (fun cdv A outer s H vs Q E HR h => ?_)
  · obtain ⟨x, n, rfl, _⟩ := h
    rfl
  · obtain ⟨x, n, rfl, hn, n10, ok, hq⟩ := h
    have ND := sc_q26.nd
    have HU0 := HR.units0
    have HU := HR.units
    have hA := HR.hd
    have hz : (100000 : Nat) ≤ sizeLine := by rw [sizeLine_eq]; decide
    obtain ⟨u_SIGNS, c_SIGNS, r_SIGNS⟩ := T.c_SIGNS
    refine ⟨_, (pss_cons (ps_if (PW.pt (pw_or (pt_not (pt_val (pe_callB z26 (gl_of z287) T.b_isinstance PyProof.Rows.Boot.«isinstance» (pa_cons (pe_var (i := 0) (x := "line") rfl (vis_of z292) d_line e_line) (pa_cons (pe_bltn (v := .ty "str") (gl_of z638) T.b_str PyProof.Rows.Boot.«str» rfl (hn := n_str) (hd := d_str)) pa_nil (stp rfl)) (stp rfl)) (hn := z20) (hdb := z24) (he := stp rfl) (hpl := anp rfl)))) (pw_or1 (pt_cmpR op_ne (pe_callB call_len_str (gl_of z633) T.b_len PyProof.Rows.Boot.«len» (pa_cons (pe_var (i := 0) (x := "line") rfl (vis_of z292) d_line e_line) pa_nil (stp rfl)) (hn := n_len) (hdb := d_len) (he := stp rfl) (hpl := anp rfl)) (pe_var (i := 1) (x := "wide") rfl (vis_of z532) d_wide e_wide) (nomark _)))))
 pss_never
 pss_nil)
 (pss_one (ps_if (pt_not (pt_val (pe_callB z242 (gl_of z627) T.b_all PyProof.Rows.Boot.«all» (pa_cons (z94 (z8.of (osc := defScope s_q26) (tn := ["sign"]) (cn := []) (caps := []) rfl rfl (by decide +kernel) (by decide +kernel) (by decide +kernel) (by decide +kernel) rfl) (calm0 rfl)  (pi_str (pe_var (i := 0) (x := "line") rfl (vis_of z292) d_line e_line))
 (fun _ _ _ _ _ => (pg_name (i := 0) (show (["sign"] : List Str).Nodup by decide +kernel) rfl (Or.inl rfl))) (fun _ _ _ _ _ => z281) (fun _ _ _ _ _ => (pe_cmpR z457 (pv 0) (pe_glob (v := V.str (Str.ofString ".#+~|")) (by rfl) c_SIGNS r_SIGNS (hd := z717)) (by with_unfolding_all rfl)))) pa_nil (stp rfl)) (hn := n_all) (hdb := d_all) (he := stp rfl) (hpl := anp rfl))))
 pss_never
 pss_nil))), ?_⟩
    walk_at "RD"
    refine ⟨_, .str _, true, rfl, ?_⟩
    rw [if_neg (by decide)]
    refine ⟨by omega, ?_⟩
    rw [if_neg (by omega)]
    refine z22 z667 (fun _ => true) inSg (fun y hy Q h => h) (fun y hy _ Q h => ?_) (by rw [List.length_map, z106]; omega) ?_
    · obtain ⟨c, hc, rfl⟩ := List.mem_map.mp hy
      walk_at "RD"
      exact ⟨c, rfl, h⟩
    · intro D hD
      have ey : ((x.cps.toList.map chr1).filter fun _ => true).map inSg = (x.cps.toList.map fun c => decide (c ∈ (Str.ofString ".#+~|").cps.toList)).map V.bl := by
        rw [List.filter_eq_self.mpr (fun _ _ => rfl), List.map_map, List.map_map]
        rfl
      rw [ey]
      refine ⟨hA, _, SqL.of upd_same, ?_⟩
      have e2 : (x.cps.toList.map fun c => decide (c ∈ (Str.ofString ".#+~|").cps.toList)).all id = true := by
        rw [List.all_map, List.all_eq_true]
        intro c hc
        exact decide_eq_true (z701 (ok c hc))
      rw [e2, if_neg (by decide)]
      exact hq _ (zz0 hD)
theorem sc_q14 : FnScope ["lines", "line"] ["lines"] (defScope s_q14) := ⟨rfl, rfl, rfl, by decide +kernel, rfl, by decide +kernel, by decide +kernel⟩
set_option maxHeartbeats 4000000 in
theorem ok_q14 {fd : FuncData} (F : Fun K "check_floor" "check_floor" s_q14 ad.q14 fd) (T : Txt K mg ad) {fd_q33 : FuncData} (B_q33 : Binds K fd_q33 ["thing", "least", "most"] []) (G_q33 : FnOk P w K mg base CX0 2 ad.q33 fd_q33 ["thing", "least", "most"] (z401 K)) {fd_q26 : FuncData} (B_q26 : Binds K fd_q26 ["line", "wide"] []) (G_q26 : FnOk P w K mg base CX0 1 ad.q26 fd_q26 ["line", "wide"] (spRow)) : FnOk P w K mg base CX0 3 ad.q14 fd ["lines"] (z524) := by
  refine F.ok sc_q14 (fun vs H Q E h => ?_) (fun cdv A outer s H vs Q E HR h => ?_)
  · obtain ⟨l, w, h, sg, rfl, _⟩ := h
    rfl
  · obtain ⟨l, w, h, sg, rfl, hL, g, hq⟩ := h
    have ND := sc_q14.nd
    have HU0 := HR.units0
    have HU := HR.units
    have hA := HR.hd
    have hz : (100000 : Nat) ≤ sizeLine := by rw [sizeLine_eq]; decide
    obtain ⟨u_WALL, c_WALL, r_WALL⟩ := T.c_WALL
    obtain ⟨u_MOST_ROWS, c_MOST_ROWS, r_MOST_ROWS⟩ := T.c_MOST_ROWS
    obtain ⟨u_MOST_SIGNS, c_MOST_SIGNS, r_MOST_SIGNS⟩ := T.c_MOST_SIGNS
    refine ⟨_, (pss_cons (ps_if (PW.pt (pw_or (pt_not (pt_val (pe_callB z26 (gl_of z121) T.b_isinstance PyProof.Rows.Boot.«isinstance» (pa_cons (pe_var (i := 0) (x := "lines") rfl (vis_of z41) z109 z113) (pa_cons (pe_bltn (v := .ty "list") (gl_of z593) T.b_list PyProof.Rows.Boot.«list» rfl (hn := n_list) (hd := d_list)) pa_nil (stp rfl)) (stp rfl)) (hn := z20) (hdb := z24) (he := stp rfl) (hpl := anp rfl)))) (pw_or1 (pt_not (pt_val (pe_call G_q33 (HR.mono (by decide)) (gl_of z446) T.mg_q33 T.k_q33 B_q33 .nil pass0 (pa_cons (pe_callB call_len_seq (gl_of z367) T.b_len PyProof.Rows.Boot.«len» (pa_cons (pe_var (i := 0) (x := "lines") rfl (vis_of z41) z109 z113) pa_nil (stp rfl)) (hn := n_len) (hdb := d_len) (he := stp rfl) (hpl := anp rfl)) (pa_cons pe_int (pa_cons (pe_glob (v := V.int 10) (gl_of z330) c_MOST_ROWS r_MOST_ROWS (hd := z491)) pa_nil (stp rfl)) (stp rfl)) (stp rfl)) (hdb := d_q33) (he := stp rfl) (hpl := anp rfl)))))))
 pss_never
 pss_nil)
 (pss_cons (ps_if (PW.pt (pw_or (pt_not (pt_val (pe_callB z26 (gl_of z121) T.b_isinstance PyProof.Rows.Boot.«isinstance» (pa_cons (pe_ix ix_list (pe_var (i := 0) (x := "lines") rfl (vis_of z41) z109 z113) pe_int (fun _ _ => rfl)) (pa_cons (pe_bltn (v := .ty "str") (gl_of z619) T.b_str PyProof.Rows.Boot.«str» rfl (hn := n_str) (hd := d_str)) pa_nil (stp rfl)) (stp rfl)) (hn := z20) (hdb := z24) (he := stp rfl) (hpl := anp rfl)))) (pw_or1 (pt_not (pt_val (pe_call G_q33 (HR.mono (by decide)) (gl_of z446) T.mg_q33 T.k_q33 B_q33 .nil pass0 (pa_cons (pe_callB call_len_str (gl_of z367) T.b_len PyProof.Rows.Boot.«len» (pa_cons (pe_ix ix_list (pe_var (i := 0) (x := "lines") rfl (vis_of z41) z109 z113) pe_int (fun _ _ => rfl)) pa_nil (stp rfl)) (hn := n_len) (hdb := d_len) (he := stp rfl) (hpl := anp rfl)) (pa_cons pe_int (pa_cons (pe_glob (v := V.int 10) (gl_of z303) c_MOST_SIGNS r_MOST_SIGNS (hd := z430)) pa_nil (stp rfl)) (stp rfl)) (stp rfl)) (hdb := d_q33) (he := stp rfl) (hpl := anp rfl)))))))
 pss_never
 pss_nil)
 (pss_cons (ps_for PassesOwn.never (calm0 rfl) (pi_list (pe_var (i := 0) (x := "lines") rfl (vis_of z41) z109 z113)) (pg_name (i := 1) ND rfl (loc_of (Or.inl z422)))
 (pss_one (ps_expr (pe_call G_q26 (HR.mono (by decide)) (gl_of z615) T.mg_q26 T.k_q26 B_q26 .nil pass0 (pa_cons (pe_var (i := 1) (x := "line") rfl (vis_of z537) d_line e_line) (pa_cons (pe_callB call_len_str (gl_of z367) T.b_len PyProof.Rows.Boot.«len» (pa_cons (pe_ix ix_list (pe_var (i := 0) (x := "lines") rfl (vis_of z41) z109 z113) pe_int (fun _ _ => rfl)) pa_nil (stp rfl)) (hn := n_len) (hdb := d_len) (he := stp rfl) (hpl := anp rfl)) pa_nil (stp rfl)) (stp rfl)) (hdb := d_q26) (he := stp rfl) (hpl := anp rfl)))))
 (pss_one (ps_if (pt_val (pe_callB z242 (gl_of z643) T.b_all PyProof.Rows.Boot.«all» (pa_cons (z94 (z8.of (osc := defScope s_q14) (tn := ["sign"]) (cn := []) (caps := []) rfl rfl (by decide +kernel) (by decide +kernel) (by decide +kernel) (by decide +kernel) rfl) (calm0 rfl)  (pi_str (pe_bm PySem.F.plainAttrs_str PySem.F.slot_str_join PySem.F.type_str_join z669 pe_str (pa_cons (pe_var (i := 0) (x := "lines") rfl (vis_of z41) z109 z113) pa_nil (stp rfl))))
 (fun _ _ _ _ _ => (pg_name (i := 0) (show (["sign"] : List Str).Nodup by decide +kernel) rfl (Or.inl rfl))) (fun _ _ _ _ _ => z281) (fun _ _ _ _ _ => (pe_cmpR op_eq (pv 0) (pe_glob (v := V.str (Str.ofString "#")) (by rfl) c_WALL r_WALL (hd := d_WALL)) (nomark _)))) pa_nil (stp rfl)) (hn := n_all) (hdb := d_all) (he := stp rfl) (hpl := anp rfl)))
 pss_never
 pss_nil))))), ?_⟩
    have w0 := g.w0
    have w1 := g.w1
    have h0 := g.h0
    have h1 := g.h1
    have l100 := len100 g
    have e0 : atI ((linesOf w h sg).map V.str) 0 = some (V.str (lineOf w sg 0)) := atI_nat (j := 0) (by rw [List.getElem?_map, z79 (by omega)]; rfl)
    have eL := z98 g (show 0 < h by omega)
    refine z4 (fun σ H' => H' = H ∧ σ = [some (V.ref l), none]) (fun nx hk => ?_) ?_
    · walk_at "RD"
      refine ⟨_, .lst hL, true, rfl, ?_⟩
      rw [if_neg (by decide)]
      refine ⟨_, .inl (SqL.of hL), _, _, _, rfl, ⟨_, .int _⟩, _, rfl, ?_⟩
      rw [List.length_map, z264]
      have ea : amg (.int (h : Int)) 1 10 = true := by simp only [amg, Bool.and_eq_true, decide_eq_true_eq]; omega
      rw [ea, if_neg (by decide)]
      exact hk _ _ ⟨rfl, rfl⟩
    rintro σ H1 ⟨rfl, rfl⟩
    refine z4 (fun σ H' => H' = H1 ∧ σ = [some (V.ref l), none]) (fun nx hk => ?_) ?_
    · walk_at "RD"
      refine ⟨_, SqL.of hL, _, e0, _, .str _, true, rfl, ?_⟩
      rw [if_neg (by decide)]
      refine ⟨_, SqL.of hL, _, e0, _, rfl, by rw [eL]; omega, _, _, _, rfl, ⟨_, .int _⟩, _, rfl, ?_⟩
      rw [eL]
      have ea : amg (.int (w : Int)) 1 10 = true := by simp only [amg, Bool.and_eq_true, decide_eq_true_eq]; omega
      rw [ea, if_neg (by decide)]
      exact hk _ _ ⟨rfl, rfl⟩
    rintro σ H2 ⟨rfl, rfl⟩
    refine z4 (fun σ H' => ∃ y, Same H2 H' ∧ σ = [some (V.ref l), y]) (fun nx hk => ?_) ?_
    · walk_at "RD"
      refine ⟨⟨_, SqL.of hL⟩, for_list (K := K) (a := l) (xs := (linesOf w h sg).map V.str) (fun i σ H' => ∃ y, Same H2 H' ∧ σ = [some (V.ref l), y]) ⟨none, Same.refl _, rfl⟩ (fun i σ H' _ ⟨_, sm, _⟩ => SqL.of (sm _ _ hL)) ?_ ?_⟩
      · rintro i y σ H' hi ⟨y0, sm, rfl⟩
        rw [List.getElem?_map] at hi
        obtain ⟨z, hz', rfl⟩ := Option.map_eq_some_iff.mp hi
        have hih : i < h := by
          have := (List.getElem?_eq_some_iff.mp hz').1
          rwa [z264] at this
        rw [z79 hih] at hz'
        cases hz'
        walk_at "RD"
        refine ⟨_, SqL.of (sm _ _ hL), _, e0, _, rfl, by rw [eL]; omega, ?_⟩
        rw [eL]
        exact ⟨_, w, rfl, z98 g hih, w1, z707 g, fun H3 s3 => ⟨sm.trans s3, _, rfl⟩⟩
      · rintro σ H' ⟨y, sm, rfl⟩
        exact hk _ _ ⟨y, sm, rfl⟩
    rintro σ H3 ⟨y, s3, rfl⟩
    walk_at "RD"
    refine ⟨rfl, _, SqL.of (s3 _ _ hL), z462 g, ?_⟩
    rw [z377 g]
    refine z22 z667 (fun _ => true) isWall (fun y hy Q h => h) (fun y hy _ Q hh => ?_) (by rw [List.length_map, z106, z30]; omega) ?_
    · obtain ⟨c, hc, rfl⟩ := List.mem_map.mp hy
      walk_at "RD"
      refine ⟨rfl, ?_⟩
      have e : isWall (chr1 c) = V.bl (decide (chr1 c = V.str (Str.ofString "#"))) := by
        show V.bl _ = V.bl _
        congr 1
        exact decide_eq_decide.mpr ⟨fun z => congrArg V.str z, fun z => V.str.inj z⟩
      rw [e] at hh
      exact hh
    · intro D hD
      have ey : (((txt sg).cps.toList.map chr1).filter fun _ => true).map isWall = (sg.map fun c => decide ((⟨#[c]⟩ : Str) = Str.ofString "#")).map V.bl := by
        rw [List.filter_eq_self.mpr (fun _ _ => rfl), List.map_map, List.map_map, z51]
        rfl
      rw [ey]
      refine ⟨hA, _, SqL.of upd_same, ?_⟩
      have e2 : (sg.map fun c => decide ((⟨#[c]⟩ : Str) = Str.ofString "#")).all id = false := by
        obtain ⟨c, hc, hne⟩ := g.cell
        rw [List.all_map, List.all_eq_false]
        exact ⟨c, hc, by
          show ¬ (decide _ = true)
          rw [decide_eq_true_eq, z455]
          exact hne⟩
      rw [e2, if_neg (by decide)]
      exact hq _ (s3.trans (zz0 hD))
theorem sc_q19 : FnScope ["self", "lines"] ["self", "lines"] (defScope s_q19) := ⟨rfl, rfl, rfl, by decide +kernel, rfl, by decide +kernel, by decide +kernel⟩
set_option maxHeartbeats 4000000 in
theorem ok_q19 {fd : FuncData} (F : Fun K "__init__" "Floor.__init__" s_q19 ad.q19 fd) (T : Txt K mg ad) {fd_q14 : FuncData} (B_q14 : Binds K fd_q14 ["lines"] []) (G_q14 : FnOk P w K mg base CX0 3 ad.q14 fd_q14 ["lines"] (z524)) : FnOk P w K mg base CX0 4 ad.q19 fd ["self", "lines"] (spInit ad.C_Floor) := by
  refine F.ok sc_q19 (fun vs H Q E h => ?_) (fun cdv A outer s H vs Q E HR h => ?_)
  · obtain ⟨p, dx, l, w, h, sg, rfl, _⟩ := h
    rfl
  · obtain ⟨p, dx, l, w, h, sg, rfl, hp, hL, g, hq⟩ := h
    have ND := sc_q19.nd
    have HU0 := HR.units0
    have HU := HR.units
    have hA := HR.hd
    have hz : (100000 : Nat) ≤ sizeLine := by rw [sizeLine_eq]; decide
    refine ⟨_, (pss_cons (ps_expr (pe_call G_q14 (HR.mono (by decide)) (gl_of z654) T.mg_q14 T.k_q14 B_q14 .nil pass0 (pa_cons (pe_var (i := 1) (x := "lines") rfl (vis_of z89) z109 z113) pa_nil (stp rfl)) (hdb := d_q14) (he := stp rfl) (hpl := anp rfl)))
 (pss_cons (ps_fld (pe_var (i := 0) (x := "self") rfl (vis_of z201) d_self e_self) (pe_callB call_len_str (gl_of z459) T.b_len PyProof.Rows.Boot.«len» (pa_cons (pe_ix ix_list (pe_var (i := 1) (x := "lines") rfl (vis_of z89) z109 z113) pe_int (fun _ _ => rfl)) pa_nil (stp rfl)) (hn := n_len) (hdb := d_len) (he := stp rfl) (hpl := anp rfl)) rfl)
 (pss_cons (ps_fld (pe_var (i := 0) (x := "self") rfl (vis_of z201) d_self e_self) (pe_callB call_len_seq (gl_of z459) T.b_len PyProof.Rows.Boot.«len» (pa_cons (pe_var (i := 1) (x := "lines") rfl (vis_of z89) z109 z113) pa_nil (stp rfl)) (hn := n_len) (hdb := d_len) (he := stp rfl) (hpl := anp rfl)) rfl)
 (pss_cons (ps_fld (pe_var (i := 0) (x := "self") rfl (vis_of z201) d_self e_self) (pe_callTy call_list_of (gl_of z602) T.b_list PyProof.Rows.Boot.«list» (pa_cons (pe_var (i := 1) (x := "lines") rfl (vis_of z89) z109 z113) pa_nil (stp rfl)) (hn := n_list) (hdb := d_list) (he := stp rfl) (hpl := anp rfl)) rfl)
 (pss_one (ps_fld (pe_var (i := 0) (x := "self") rfl (vis_of z201) d_self e_self) (pe_bm PySem.F.plainAttrs_str PySem.F.slot_str_join PySem.F.type_str_join z669 pe_str (pa_cons (pe_var (i := 1) (x := "lines") rfl (vis_of z89) z109 z113) pa_nil (stp rfl))) rfl)))))), ?_⟩
    have w0 := g.w0
    have h0 := g.h0
    have l100 := len100 g
    have e0 : atI ((linesOf w h sg).map V.str) 0 = some (V.str (lineOf w sg 0)) := atI_nat (j := 0) (by rw [List.getElem?_map, z79 (by omega)]; rfl)
    have eL := z98 g (show 0 < h by omega)
    have w1 := g.w1
    have npl : l ≠ p := ne_of hL hp (by intro z; cases z)
    walk_at "RD"
    refine ⟨l, w, h, sg, rfl, hL, g, fun H1 s1 => ?_⟩
    have hL1 := s1 _ _ hL
    have hp1 := s1 _ _ hp
    dsimp only
    refine ⟨_, SqL.of hL1, _, e0, _, rfl, by rw [eL]; omega, _, _, _, hp1, T.cl_Floor, T.n_Floor_wide, by show 0 < 1000; decide, ?_⟩
    rw [eL]
    refine ⟨_, .inl (SqL.of (by rw [upd_ne npl]; exact hL1)), _, _, _, upd_same, T.cl_Floor, T.n_Floor_high, by show 1 < 1000; decide, ?_⟩
    rw [List.length_map, z264]
    refine ⟨_, .inl (SqL.of (by rw [upd_ne npl, upd_ne npl]; exact hL1)), fun l2 n2 => ?_⟩
    have np2 : l2 ≠ p := fun z => by rw [z, upd_same] at n2; cases n2
    have n20 : H1 l2 = none := by rw [upd_ne np2, upd_ne np2] at n2; exact n2
    have nl2 : l ≠ l2 := ne_of_none hL1 n20
    refine ⟨_, _, _, by rw [upd_ne np2.symm, upd_same], T.cl_Floor, T.n_Floor_lines, by show 2 < 1000; decide, rfl, _, SqL.of (by rw [upd_ne npl, upd_ne nl2, upd_ne npl, upd_ne npl]; exact hL1), z462 g, _, _, _, upd_same, T.cl_Floor, T.n_Floor_signs, by show 3 < 1000; decide, ?_⟩
    rw [z377 g]
    refine hq _ dx l2 (s1.free n20) upd_same ?_ fun b o hb nb => ?_
    · unfold z50
      rw [upd_ne np2, upd_ne np2, upd_same]
    · have hb1 := s1 _ _ hb
      rw [upd_ne nb, upd_ne nb, upd_ne (ne_of_none hb1 n20), upd_ne nb, upd_ne nb]
      exact hb1
theorem sc_q27 : FnScope ["self", "cell"] ["self", "cell"] (defScope s_q27) := ⟨rfl, rfl, rfl, by decide +kernel, rfl, by decide +kernel, by decide +kernel⟩
set_option maxHeartbeats 4000000 in
theorem ok_q27 {fd : FuncData} (F : Fun K "has" "Floor.has" s_q27 ad.q27 fd) (T : Txt K mg ad) {fd_q33 : FuncData} (B_q33 : Binds K fd_q33 ["thing", "least", "most"] []) (G_q33 : FnOk P w K mg base CX0 2 ad.q33 fd_q33 ["thing", "least", "most"] (z401 K)) : FnOk P w K mg base CX0 3 ad.q27 fd ["self", "cell"] (spHas K ad.C_Floor) := by
  refine F.ok sc_q27 (fun vs H Q E h => ?_) (fun cdv A outer s H vs Q E HR h => ?_)
  · obtain ⟨p, w, h, sg, x, rfl, _⟩ := h
    rfl
  · obtain ⟨p, w, h, sg, x, rfl, F0, g, ty, hq⟩ := h
    have ND := sc_q27.nd
    have HU0 := HR.units0
    have HU := HR.units
    have hA := HR.hd
    have hz : (100000 : Nat) ≤ sizeLine := by rw [sizeLine_eq]; decide
    obtain ⟨u_WALL, c_WALL, r_WALL⟩ := T.c_WALL
    refine ⟨_, (pss_one (ps_ret (pe_and (pe_call G_q33 (HR.mono (by decide)) (gl_of z634) T.mg_q33 T.k_q33 B_q33 .nil pass0 (pa_cons (pe_var (i := 1) (x := "cell") rfl (vis_of z390) d_cell e_cell) (pa_cons pe_int (pa_cons (pe_op op_sub (pe_callB call_len_str (gl_of z648) T.b_len PyProof.Rows.Boot.«len» (pa_cons (pe_fld (pe_var (i := 0) (x := "self") rfl (vis_of z391) d_self e_self) (by rfl)) pa_nil (stp rfl)) (hn := n_len) (hdb := d_len) (he := stp rfl) (hpl := anp rfl)) pe_int) pa_nil (stp rfl)) (stp rfl)) (stp rfl)) (hdb := d_q33) (he := stp rfl) (hpl := anp rfl)) (pe_one (pe_cmpR op_ne (pe_ix ix_str (pe_fld (pe_var (i := 0) (x := "self") rfl (vis_of z391) d_self e_self) (by rfl)) (pe_var (i := 1) (x := "cell") rfl (vis_of z390) d_cell e_cell) (fun _ _ => rfl)) (pe_glob (v := V.str (Str.ofString "#")) (gl_of z548) c_WALL r_WALL (hd := d_WALL)) (nomark _)))))), ?_⟩
    obtain ⟨dx, l, h1, h2⟩ := F0.ob
    have l100 := len100 g
    walk_at "RD"
    refine ⟨_, _, _, h1, T.cl_Floor, T.n_Floor_signs, _, z344 _ _ _ _, _, rfl, by rw [z30]; omega, x, _, _, rfl, ty, _, rfl, ?_⟩
    rw [z30]
    cases x with
    | int i =>
      by_cases hi : 0 ≤ i ∧ i < sg.length
      · have ea : amg (.int i) 0 ((sg.length : Int) - 1) = true := by
          simp only [amg, Bool.and_eq_true, decide_eq_true_eq]; omega
        rw [ea, if_pos rfl]
        refine ⟨_, _, _, h1, T.cl_Floor, T.n_Floor_signs, _, z344 _ _ _ _, _, rfl, _, rfl, by rw [z30]; omega, _, at_txt hi.1 hi.2, ?_⟩
        have e : hasV sg (.int i) = !decide ((⟨#[at_ sg i]⟩ : Str) = Str.ofString "#") := by
          show hasI sg i = _
          unfold hasI
          rw [decide_eq_true hi.1, decide_eq_true hi.2]
          simp only [Bool.true_and]
          congr 1
          exact decide_eq_decide.mpr (z455 _).symm
        rw [e] at hq
        exact hq
      · have ea : amg (.int i) 0 ((sg.length : Int) - 1) = false := by
          rw [← Bool.not_eq_true]
          simp only [amg, Bool.and_eq_true, decide_eq_true_eq]; omega
        rw [ea, if_neg (by decide)]
        have e : hasV sg (.int i) = false := by
          rw [← Bool.not_eq_true]
          show ¬ (hasI sg i = true)
          unfold hasI
          simp only [Bool.and_eq_true, decide_eq_true_eq]
          intro z
          exact hi ⟨z.1.1, z.1.2⟩
        rw [e] at hq
        exact hq
    | _ =>
      rw [show amg _ 0 ((sg.length : Int) - 1) = false from rfl, if_neg (by decide)]
      exact hq
theorem sc_q20 : FnScope ["self", "cell"] ["self", "cell"] (defScope s_q20) := ⟨rfl, rfl, rfl, by decide +kernel, rfl, by decide +kernel, by decide +kernel⟩
set_option maxHeartbeats 4000000 in
theorem ok_q20 {fd : FuncData} (F : Fun K "sign" "Floor.sign" s_q20 ad.q20 fd) (T : Txt K mg ad) : FnOk P w K mg base CX0 1 ad.q20 fd ["self", "cell"] (spSign ad.C_Floor) := by
  refine F.ok sc_q20 (fun vs H Q E h => ?_) (fun cdv A outer s H vs Q E HR h => ?_)
  · obtain ⟨p, w, h, sg, c, rfl, _⟩ := h
    rfl
  · obtain ⟨p, w, h, sg, c, rfl, F0, g, c0, c1, hq⟩ := h
    have ND := sc_q20.nd
    have HU0 := HR.units0
    have HU := HR.units
    have hA := HR.hd
    have hz : (100000 : Nat) ≤ sizeLine := by rw [sizeLine_eq]; decide
    refine ⟨_, (pss_one (ps_ret (pe_ix ix_str (pe_fld (pe_var (i := 0) (x := "self") rfl (vis_of z579) d_self e_self) (by rfl)) (pe_var (i := 1) (x := "cell") rfl (vis_of z551) d_cell e_cell) (fun _ _ => rfl)))), ?_⟩
    obtain ⟨dx, l, h1, h2⟩ := F0.ob
    have l100 := len100 g
    walk_at "RD"
    exact ⟨_, _, _, h1, T.cl_Floor, T.n_Floor_signs, _, z344 _ _ _ _, _, rfl, by rw [z30]; omega, _, at_txt c0 c1, hq⟩
theorem sc_q9 : FnScope ["self", "cell"] ["self", "cell"] (defScope s_q9) := ⟨rfl, rfl, rfl, by decide +kernel, rfl, by decide +kernel, by decide +kernel⟩
set_option maxHeartbeats 4000000 in
theorem ok_q9 {fd : FuncData} (F : Fun K "column" "Floor.column" s_q9 ad.q9 fd) (T : Txt K mg ad) : FnOk P w K mg base CX0 1 ad.q9 fd ["self", "cell"] (spCol ad.C_Floor) := by
  refine F.ok sc_q9 (fun vs H Q E h => ?_) (fun cdv A outer s H vs Q E HR h => ?_)
  · obtain ⟨p, w, h, sg, c, rfl, _⟩ := h
    rfl
  · obtain ⟨p, w, h, sg, c, rfl, F0, g, hq⟩ := h
    have ND := sc_q9.nd
    have HU0 := HR.units0
    have HU := HR.units
    have hA := HR.hd
    have hz : (100000 : Nat) ≤ sizeLine := by rw [sizeLine_eq]; decide
    refine ⟨_, (pss_one (ps_ret (pe_op op_mod (pe_var (i := 1) (x := "cell") rfl (vis_of z622) d_cell e_cell) (pe_fld (pe_var (i := 0) (x := "self") rfl (vis_of z620) d_self e_self) (by rfl))))), ?_⟩
    obtain ⟨dx, l, h1, h2⟩ := F0.ob
    have w0 := g.w0
    walk_at "RD"
    exact ⟨_, _, _, h1, T.cl_Floor, T.n_Floor_wide, _, f_wide _ _ _ _, _, rfl, by omega, hq⟩
theorem sc_q28 : FnScope ["self", "cell"] ["self", "cell"] (defScope s_q28) := ⟨rfl, rfl, rfl, by decide +kernel, rfl, by decide +kernel, by decide +kernel⟩
set_option maxHeartbeats 4000000 in
theorem ok_q28 {fd : FuncData} (F : Fun K "row" "Floor.row" s_q28 ad.q28 fd) (T : Txt K mg ad) : FnOk P w K mg base CX0 1 ad.q28 fd ["self", "cell"] (z534 ad.C_Floor) := by
  refine F.ok sc_q28 (fun vs H Q E h => ?_) (fun cdv A outer s H vs Q E HR h => ?_)
  · obtain ⟨p, w, h, sg, c, rfl, _⟩ := h
    rfl
  · obtain ⟨p, w, h, sg, c, rfl, F0, g, hq⟩ := h
    have ND := sc_q28.nd
    have HU0 := HR.units0
    have HU := HR.units
    have hA := HR.hd
    have hz : (100000 : Nat) ≤ sizeLine := by rw [sizeLine_eq]; decide
    refine ⟨_, (pss_one (ps_ret (pe_op op_fdiv (pe_var (i := 1) (x := "cell") rfl (vis_of z562) d_cell e_cell) (pe_fld (pe_var (i := 0) (x := "self") rfl (vis_of z512) d_self e_self) (by rfl))))), ?_⟩
    obtain ⟨dx, l, h1, h2⟩ := F0.ob
    have w0 := g.w0
    have w1 := g.w1
    walk_at "RD"
    exact ⟨_, _, _, h1, T.cl_Floor, T.n_Floor_wide, _, f_wide _ _ _ _, _, rfl, ⟨by omega, by omega⟩, hq⟩
theorem sc_q10 : FnScope ["self", "cell", "near"] ["self", "cell"] (defScope s_q10) := ⟨rfl, rfl, rfl, by decide +kernel, rfl, by decide +kernel, by decide +kernel⟩
set_option maxHeartbeats 4000000 in
theorem ok_q10 {fd : FuncData} (F : Fun K "beside" "Floor.beside" s_q10 ad.q10 fd) (T : Txt K mg ad) {fd_q9 : FuncData} (B_q9 : Binds K fd_q9 ["self", "cell"] []) (G_q9 : FnOk P w K mg base CX0 1 ad.q9 fd_q9 ["self", "cell"] (spCol ad.C_Floor)) {fd_q27 : FuncData} (B_q27 : Binds K fd_q27 ["self", "cell"] []) (G_q27 : FnOk P w K mg base CX0 3 ad.q27 fd_q27 ["self", "cell"] (spHas K ad.C_Floor)) : FnOk P w K mg base CX0 4 ad.q10 fd ["self", "cell"] (z436 ad.C_Floor) := by
  refine F.ok sc_q10 (fun vs H Q E h => ?_) (fun cdv A outer s H vs Q E HR h => ?_)
  · obtain ⟨p, w, h, sg, c, rfl, _⟩ := h
    rfl
  · obtain ⟨p, w, h, sg, c, rfl, F0, g, hq⟩ := h
    have ND := sc_q10.nd
    have HU0 := HR.units0
    have HU := HR.units
    have hA := HR.hd
    have hz : (100000 : Nat) ≤ sizeLine := by rw [sizeLine_eq]; decide
    refine ⟨_, (pss_cons (ps_set (i := 2) ND rfl (loc_of (Or.inl z410)) (pe_lst (pa_cons (pe_op op_sub (pe_var (i := 1) (x := "cell") rfl (vis_of z91) d_cell e_cell) (pe_fld (pe_var (i := 0) (x := "self") rfl (vis_of z129) d_self e_self) (by rfl))) pa_nil (stp rfl))))
 (pss_cons (ps_if (pt_cmpR op_gt (pe_meth (pe_var (i := 0) (x := "self") rfl (vis_of z129) d_self e_self) T.cl_Floor T.m_q9 G_q9 (HR.mono (by decide)) B_q9 .nil pass0 (pa_cons (pe_var (i := 1) (x := "cell") rfl (vis_of z91) d_cell e_cell) pa_nil (stp rfl)) (hst := stp rfl) (hpl := anp rfl)) pe_int (nomark _))
 (pss_one (ps_expr (pe_bm PySem.F.plainAttrs_list PySem.F.slot_list_append PySem.F.type_list_append mt_append (pe_var (i := 2) (x := "near") rfl (vis_of z199) d_near e_near) (pa_cons (pe_op op_sub (pe_var (i := 1) (x := "cell") rfl (vis_of z91) d_cell e_cell) pe_int) pa_nil (stp rfl)))))
 pss_nil)
 (pss_cons (ps_if (pt_cmpR op_lt (pe_meth (pe_var (i := 0) (x := "self") rfl (vis_of z129) d_self e_self) T.cl_Floor T.m_q9 G_q9 (HR.mono (by decide)) B_q9 .nil pass0 (pa_cons (pe_var (i := 1) (x := "cell") rfl (vis_of z91) d_cell e_cell) pa_nil (stp rfl)) (hst := stp rfl) (hpl := anp rfl)) (pe_op op_sub (pe_fld (pe_var (i := 0) (x := "self") rfl (vis_of z129) d_self e_self) (by rfl)) pe_int) (nomark _))
 (pss_one (ps_expr (pe_bm PySem.F.plainAttrs_list PySem.F.slot_list_append PySem.F.type_list_append mt_append (pe_var (i := 2) (x := "near") rfl (vis_of z199) d_near e_near) (pa_cons (pe_op op_add (pe_var (i := 1) (x := "cell") rfl (vis_of z91) d_cell e_cell) pe_int) pa_nil (stp rfl)))))
 pss_nil)
 (pss_cons (ps_expr (pe_bm PySem.F.plainAttrs_list PySem.F.slot_list_append PySem.F.type_list_append mt_append (pe_var (i := 2) (x := "near") rfl (vis_of z199) d_near e_near) (pa_cons (pe_op op_add (pe_var (i := 1) (x := "cell") rfl (vis_of z91) d_cell e_cell) (pe_fld (pe_var (i := 0) (x := "self") rfl (vis_of z129) d_self e_self) (by rfl))) pa_nil (stp rfl))))
 (pss_one (ps_ret (z94 (z8.of (osc := defScope s_q10) (tn := ["place"]) (cn := ["self"]) (caps := [0]) rfl rfl (by decide +kernel) (by decide +kernel) (by decide +kernel) (by decide +kernel) rfl) (calm0 rfl)  (pi_list (pe_var (i := 2) (x := "near") rfl (vis_of z199) d_near e_near))
 (fun _ _ _ _ _ => (pg_name (i := 0) (show (["place", "self"] : List Str).Nodup by decide +kernel) rfl (Or.inl rfl))) (fun _ _ _ _ _ => (z95 (pt_val (pe_meth (pv 1) T.cl_Floor T.m_q27 G_q27 (HR.mono (by decide)) B_q27 .nil pass0 (pa_cons (pv 0) pa_nil (stp rfl)) (hst := stp rfl) (hpl := anp rfl))))) (fun _ _ _ _ _ => (pv 0))))))))), ?_⟩
    obtain ⟨dx, l, h1, h2⟩ := F0.ob
    have w0 := g.w0
    have w1 := g.w1
    have nocol : (flds w h l sg).lookup ("column" : Str) = none := f_no _ _ _ _ (by decide +kernel) (by decide +kernel) (by decide +kernel) (by decide +kernel)
    have nohas : (flds w h l sg).lookup ("has" : Str) = none := f_no _ _ _ _ (by decide +kernel) (by decide +kernel) (by decide +kernel) (by decide +kernel)
    refine z4 (fun σ H' => ∃ n, H n = none ∧ Same H H' ∧ H' n = some (.lst ([c - (w : Int)].map V.int)) ∧ σ = [some (V.ref p), some (V.int c), some (V.ref n)]) (fun nx hk => ?_) ?_
    · walk_at "RD"
      exact ⟨_, _, _, h1, T.cl_Floor, T.n_Floor_wide, _, f_wide _ _ _ _, _, rfl, by omega, fun n nn => hk _ _ ⟨n, nn, zz0 nn, upd_same, rfl⟩⟩
    rintro σ H1 ⟨n, nn, s1, hn, rfl⟩
    refine z4 (fun σ H' => Same H H' ∧ H' n = some (.lst (([c - (w : Int)] ++ (if c % w > 0 then [c - 1] else [])).map V.int)) ∧ σ = [some (V.ref p), some (V.int c), some (V.ref n)]) (fun nx hk => ?_) ?_
    · walk_at "RD"
      refine ⟨_, _, s1 _ _ h1, nocol, p, w, h, sg, c, rfl, F0.same s1, g, _, rfl, ?_⟩
      split
      · rename_i hc
        refine ⟨.inl ⟨rfl, _, SqL.of hn⟩, _, hn, by simp only [List.map_cons, List.map_nil, List.length_cons, List.length_nil]; omega, hk _ _ ⟨z359 s1 nn, ?_, rfl⟩⟩
        rw [upd_same, if_pos hc]
        rfl
      · rename_i hc
        refine hk _ _ ⟨s1, ?_, rfl⟩
        rw [hn, if_neg hc]
        rfl
    rintro σ H2 ⟨s2, hn2, rfl⟩
    refine z4 (fun σ H' => Same H H' ∧ H' n = some (.lst (([c - (w : Int)] ++ (if c % w > 0 then [c - 1] else []) ++ (if c % w < (w : Int) - 1 then [c + 1] else [])).map V.int)) ∧ σ = [some (V.ref p), some (V.int c), some (V.ref n)]) (fun nx hk => ?_) ?_
    · walk_at "RD"
      refine ⟨_, _, s2 _ _ h1, nocol, p, w, h, sg, c, rfl, F0.same s2, g, _, _, _, s2 _ _ h1, T.cl_Floor, T.n_Floor_wide, _, f_wide _ _ _ _, _, rfl, _, rfl, ?_⟩
      split
      · rename_i hc
        refine ⟨.inl ⟨rfl, _, SqL.of hn2⟩, _, hn2, ?_, hk _ _ ⟨z359 s2 nn, ?_, rfl⟩⟩
        · rw [List.length_map, List.length_append]
          split <;> simp only [List.length_cons, List.length_nil] <;> omega
        · rw [upd_same, if_pos hc]
          simp only [List.map_append, List.map_cons, List.map_nil]
      · rename_i hc
        refine hk _ _ ⟨s2, ?_, rfl⟩
        rw [hn2, if_neg hc, List.append_nil]
    rintro σ H3 ⟨s3, hn3, rfl⟩
    refine z4 (fun σ H' => Same H H' ∧ H' n = some (.lst ((nearOf w c).map V.int)) ∧ σ = [some (V.ref p), some (V.int c), some (V.ref n)]) (fun nx hk => ?_) ?_
    · walk_at "RD"
      refine ⟨.inl ⟨rfl, _, SqL.of hn3⟩, _, _, _, s3 _ _ h1, T.cl_Floor, T.n_Floor_wide, _, f_wide _ _ _ _, _, rfl, _, hn3, ?_, hk _ _ ⟨z359 s3 nn, ?_, rfl⟩⟩
      · rw [List.length_map, List.length_append, List.length_append]
        split <;> split <;> simp only [List.length_cons, List.length_nil] <;> omega
      · rw [upd_same]
        unfold nearOf
        simp only [List.map_append, List.map_cons, List.map_nil]
    rintro σ H4 ⟨s4, hn4, rfl⟩
    have F4 := F0.same s4
    walk_at "RD"
    refine ⟨⟨_, SqL.of hn4⟩, z22 (src_list (SqL.of hn4)) (hasV sg) (fun v => v) (fun y hy Q hh => ?_) (fun y hy _ Q hh => ?_) ?_ ?_⟩
    · obtain ⟨z, _, rfl⟩ := List.mem_map.mp hy
      walk_at "RD"
      exact ⟨_, _, s4 _ _ h1, nohas, p, w, h, sg, _, rfl, F4, g, ⟨_, .int _⟩, _, rfl, hh⟩
    · walk_at "RD"
      exact hh
    · unfold nearOf
      rw [List.length_map, List.length_append, List.length_append, List.length_append]
      split <;> split <;> simp only [List.length_cons, List.length_nil] <;> omega
    · intro D hD
      have e : ((((nearOf w c).map V.int).filter (hasV sg)).map fun v => v) = (z14 w sg c).map V.int := by
        rw [List.map_id', z14, List.filter_map]
        rfl
      rw [e]
      exact hq D _ (s4.free hD) (s4.trans (zz0 hD)) upd_same
theorem sc_q15 : FnScope ["self"] ["self"] (defScope s_q15) := ⟨rfl, rfl, rfl, by decide +kernel, rfl, by decide +kernel, by decide +kernel⟩
set_option maxHeartbeats 4000000 in
theorem ok_q15 {fd : FuncData} (F : Fun K "cells" "Floor.cells" s_q15 ad.q15 fd) (T : Txt K mg ad) {fd_q27 : FuncData} (B_q27 : Binds K fd_q27 ["self", "cell"] []) (G_q27 : FnOk P w K mg base CX0 3 ad.q27 fd_q27 ["self", "cell"] (spHas K ad.C_Floor)) : FnOk P w K mg base CX0 4 ad.q15 fd ["self"] (z447 ad.C_Floor) := by
  refine F.ok sc_q15 (fun vs H Q E h => ?_) (fun cdv A outer s H vs Q E HR h => ?_)
  · obtain ⟨p, w, h, sg, rfl, _⟩ := h
    rfl
  · obtain ⟨p, w, h, sg, rfl, F0, g, hq⟩ := h
    have ND := sc_q15.nd
    have HU0 := HR.units0
    have HU := HR.units
    have hA := HR.hd
    have hz : (100000 : Nat) ≤ sizeLine := by rw [sizeLine_eq]; decide
    refine ⟨_, (pss_one (ps_ret (z94 (z8.of (osc := defScope s_q15) (tn := ["place"]) (cn := ["self"]) (caps := [0]) rfl rfl (by decide +kernel) (by decide +kernel) (by decide +kernel) (by decide +kernel) rfl) (calm0 rfl)  (pi_range1 (gl_of z497) T.b_range (pa_cons (pe_callB call_len_str (gl_of z630) T.b_len PyProof.Rows.Boot.«len» (pa_cons (pe_fld (pe_var (i := 0) (x := "self") rfl (vis_of z565) d_self e_self) (by rfl)) pa_nil (stp rfl)) (hn := n_len) (hdb := d_len) (he := stp rfl) (hpl := anp rfl)) pa_nil (stp rfl)) (st1 rfl))
 (fun _ _ _ _ _ => (pg_name (i := 0) (show (["place", "self"] : List Str).Nodup by decide +kernel) rfl (Or.inl rfl))) (fun _ _ _ _ _ => (z95 (pt_val (pe_meth (pv 1) T.cl_Floor T.m_q27 G_q27 (HR.mono (by decide)) B_q27 .nil pass0 (pa_cons (pv 0) pa_nil (stp rfl)) (hst := stp rfl) (hpl := anp rfl))))) (fun _ _ _ _ _ => (pv 0))))), ?_⟩
    obtain ⟨dx, l, h1, h2⟩ := F0.ob
    have l100 := len100 g
    walk_at "RD"
    refine ⟨_, _, _, h1, T.cl_Floor, T.n_Floor_signs, _, z344 _ _ _ _, _, rfl, by rw [z30]; omega, by omega, by rw [z30]; omega, ?_⟩
    rw [z30, Int.toNat_natCast]
    refine z22 src_range (hasV sg) (fun v => v) (fun y hy Q hh => ?_) (fun y hy _ Q hh => ?_) (by rw [List.length_map, List.length_range]; omega) ?_
    · obtain ⟨i, hi, rfl⟩ := List.mem_map.mp hy
      walk_at "RD"
      exact ⟨_, _, h1, f_no _ _ _ _ (by decide +kernel) (by decide +kernel) (by decide +kernel) (by decide +kernel), p, w, h, sg, _, rfl, F0, g, ⟨_, .int _⟩, _, rfl, hh⟩
    · walk_at "RD"
      exact hh
    · intro D hD
      have e : ((((List.range sg.length).map fun i => V.int (0 + ((i : Nat) : Int))).filter (hasV sg)).map fun v => v) = (cellsOf sg).map V.int := by
        rw [List.map_id', z465, places]
        have : ((List.range sg.length).map fun i => V.int (0 + ((i : Nat) : Int))) = ((List.range sg.length).map fun i => ((i : Nat) : Int)).map V.int := by
          rw [List.map_map]
          refine List.map_congr_left fun i _ => ?_
          simp
        rw [this, List.filter_map]
        rfl
      rw [e]
      exact hq D _ hD (zz0 hD) upd_same
theorem sc_q7 : FnScope ["self"] ["self"] (defScope s_q7) := ⟨rfl, rfl, rfl, by decide +kernel, rfl, by decide +kernel, by decide +kernel⟩
set_option maxHeartbeats 4000000 in
theorem ok_q7 {fd : FuncData} (F : Fun K "chargers" "Floor.chargers" s_q7 ad.q7 fd) (T : Txt K mg ad) : FnOk P w K mg base CX0 1 ad.q7 fd ["self"] (z286 ad.C_Floor) := by
  refine F.ok sc_q7 (fun vs H Q E h => ?_) (fun cdv A outer s H vs Q E HR h => ?_)
  · obtain ⟨p, w, h, sg, rfl, _⟩ := h
    rfl
  · obtain ⟨p, w, h, sg, rfl, F0, g, hq⟩ := h
    have ND := sc_q7.nd
    have HU0 := HR.units0
    have HU := HR.units
    have hA := HR.hd
    have hz : (100000 : Nat) ≤ sizeLine := by rw [sizeLine_eq]; decide
    obtain ⟨u_CHARGER, c_CHARGER, r_CHARGER⟩ := T.c_CHARGER
    refine ⟨_, (pss_one (ps_ret (z94 (z8.of (osc := defScope s_q7) (tn := ["place"]) (cn := ["self"]) (caps := [0]) rfl rfl (by decide +kernel) (by decide +kernel) (by decide +kernel) (by decide +kernel) rfl) (calm0 rfl)  (pi_range1 (gl_of z563) T.b_range (pa_cons (pe_callB call_len_str (gl_of z686) T.b_len PyProof.Rows.Boot.«len» (pa_cons (pe_fld (pe_var (i := 0) (x := "self") rfl (vis_of z651) d_self e_self) (by rfl)) pa_nil (stp rfl)) (hn := n_len) (hdb := d_len) (he := stp rfl) (hpl := anp rfl)) pa_nil (stp rfl)) (st1 rfl))
 (fun _ _ _ _ _ => (pg_name (i := 0) (show (["place", "self"] : List Str).Nodup by decide +kernel) rfl (Or.inl rfl))) (fun _ _ _ _ _ => (z95 (pt_cmpR op_eq (pe_ix ix_str (z700 (K := K) rfl (pv 1) (by rfl)) (pv 0) (fun _ _ => rfl)) (pe_glob (v := V.str (Str.ofString "+")) (by rfl) c_CHARGER r_CHARGER (hd := z645)) (nomark _)))) (fun _ _ _ _ _ => (pv 0))))), ?_⟩
    obtain ⟨dx, l, h1, h2⟩ := F0.ob
    have l100 := len100 g
    walk_at "RD"
    refine ⟨_, _, _, h1, T.cl_Floor, T.n_Floor_signs, _, z344 _ _ _ _, _, rfl, by rw [z30]; omega, by omega, by rw [z30]; omega, ?_⟩
    rw [z30, Int.toNat_natCast]
    refine z22 src_range (isCh sg) (fun v => v) (fun y hy Q hh => ?_) (fun y hy _ Q hh => ?_) (by rw [List.length_map, List.length_range]; omega) ?_
    · obtain ⟨i, hi, rfl⟩ := List.mem_map.mp hy
      have hi' := List.mem_range.mp hi
      walk_at "RD"
      refine ⟨_, _, _, h1, T.cl_Floor, T.n_Floor_signs, _, z344 _ _ _ _, _, rfl, by rw [z30]; omega, _, at_txt (by omega) (by omega), ?_⟩
      have e : isCh sg (V.int (0 + ((i : Nat) : Int))) = decide ((⟨#[at_ sg (0 + ((i : Nat) : Int))]⟩ : Str) = Str.ofString "+") := decide_eq_decide.mpr (z699 _).symm
      rw [e] at hh
      exact hh
    · walk_at "RD"
      exact hh
    · intro D hD
      have e : ((((List.range sg.length).map fun i => V.int (0 + ((i : Nat) : Int))).filter (isCh sg)).map fun v => v) = (z13 sg).map V.int := by
        rw [List.map_id', z13, places]
        have : ((List.range sg.length).map fun i => V.int (0 + ((i : Nat) : Int))) = ((List.range sg.length).map fun i => ((i : Nat) : Int)).map V.int := by
          rw [List.map_map]
          refine List.map_congr_left fun i _ => ?_
          simp
        rw [this, List.filter_map]
        rfl
      rw [e]
      exact hq D _ hD (zz0 hD) upd_same
theorem sc_q11 : FnScope ["self", "full"] ["self", "full"] (defScope s_q11) := ⟨rfl, rfl, rfl, by decide +kernel, rfl, by decide +kernel, by decide +kernel⟩
set_option maxHeartbeats 4000000 in
theorem ok_q11 {fd : FuncData} (F : Fun K "__init__" "Carrier.__init__" s_q11 ad.q11 fd) (T : Txt K mg ad) : FnOk P w K mg base CX0 1 ad.q11 fd ["self", "full"] (z463 ad) := by
  refine F.ok sc_q11 (fun vs H Q E h => ?_) (fun cdv A outer s H vs Q E HR h => ?_)
  · obtain ⟨p, dx, n, i, rfl, _⟩ := h
    rfl
  · obtain ⟨p, dx, n, i, rfl, hp, hq⟩ := h
    have ND := sc_q11.nd
    have HU0 := HR.units0
    have HU := HR.units
    have hA := HR.hd
    have hz : (100000 : Nat) ≤ sizeLine := by rw [sizeLine_eq]; decide
    refine ⟨_, (pss_one (ps_fld (pe_var (i := 0) (x := "self") rfl (vis_of z520) d_self e_self) (pe_var (i := 1) (x := "full") rfl (vis_of z530) d_full e_full) rfl)), ?_⟩
    walk_at "RD"
    exact ⟨_, _, _, hp, cls_of T i, nof_of T i, by simp, hq⟩
theorem sc_q2 : FnScope ["self", "sign"] ["self", "sign"] (defScope s_q2) := ⟨rfl, rfl, rfl, by decide +kernel, rfl, by decide +kernel, by decide +kernel⟩
set_option maxHeartbeats 4000000 in
theorem ok_q2 {fd : FuncData} (F : Fun K "may_stand" "Carrier.may_stand" s_q2 ad.q2 fd) (T : Txt K mg ad) : FnOk P w K mg base CX0 1 ad.q2 fd ["self", "sign"] (spMay 0) := by
  refine F.ok sc_q2 (fun vs H Q E h => ?_) (fun cdv A outer s H vs Q E HR h => ?_)
  · obtain ⟨x, c, rfl, _⟩ := h
    rfl
  · obtain ⟨x, c, rfl, hq⟩ := h
    have ND := sc_q2.nd
    have HU0 := HR.units0
    have HU := HR.units
    have hA := HR.hd
    have hz : (100000 : Nat) ≤ sizeLine := by rw [sizeLine_eq]; decide
    obtain ⟨u_COMMON_SIGNS, c_COMMON_SIGNS, r_COMMON_SIGNS⟩ := T.c_COMMON_SIGNS
    refine ⟨_, (pss_one (ps_ret (pe_cmpR op_in_seq (pe_var (i := 1) (x := "sign") rfl (vis_of z641) d_sign e_sign) (pe_glob (v := .ref ad.K_COMMON_SIGNS) (gl_of z253) c_COMMON_SIGNS r_COMMON_SIGNS (hd := z203)) (by with_unfolding_all rfl)))), ?_⟩
    walk_at "RD"
    refine ⟨_, .inr (T.kt_COMMON_SIGNS H), rfl, rfl, ?_⟩
    rw [z445]
    have e : stands 0 c = common c := by simp [stands]
    rw [← e]
    exact hq
theorem sc_q3 : FnScope ["self", "sign"] ["self", "sign"] (defScope s_q3) := ⟨rfl, rfl, rfl, by decide +kernel, rfl, by decide +kernel, by decide +kernel⟩
set_option maxHeartbeats 4000000 in
theorem ok_q3 {fd : FuncData} (F : Fun K "may_stand" "Crawler.may_stand" s_q3 ad.q3 fd) (T : Txt K mg ad) : FnOk P w K mg base CX0 1 ad.q3 fd ["self", "sign"] (spMay 1) := by
  refine F.ok sc_q3 (fun vs H Q E h => ?_) (fun cdv A outer s H vs Q E HR h => ?_)
  · obtain ⟨x, c, rfl, _⟩ := h
    rfl
  · obtain ⟨x, c, rfl, hq⟩ := h
    have ND := sc_q3.nd
    have HU0 := HR.units0
    have HU := HR.units
    have hA := HR.hd
    have hz : (100000 : Nat) ≤ sizeLine := by rw [sizeLine_eq]; decide
    obtain ⟨u_ROUGH, c_ROUGH, r_ROUGH⟩ := T.c_ROUGH
    obtain ⟨u_COMMON_SIGNS, c_COMMON_SIGNS, r_COMMON_SIGNS⟩ := T.c_COMMON_SIGNS
    refine ⟨_, (pss_one (ps_ret (pe_or (pe_cmpR op_eq (pe_var (i := 1) (x := "sign") rfl (vis_of z466) d_sign e_sign) (pe_glob (v := V.str (Str.ofString "~")) (gl_of z552) c_ROUGH r_ROUGH (hd := z671)) (nomark _)) (pe_one (pe_cmpR op_in_seq (pe_var (i := 1) (x := "sign") rfl (vis_of z466) d_sign e_sign) (pe_glob (v := .ref ad.K_COMMON_SIGNS) (gl_of z245) c_COMMON_SIGNS r_COMMON_SIGNS (hd := z203)) (by with_unfolding_all rfl)))))), ?_⟩
    walk_at "RD"
    refine ⟨rfl, ?_⟩
    by_cases e : c = 126
    · rw [if_pos (q126.mpr e)]
      have e2 : stands 1 c = true := by simp [stands, e]
      rw [← e2]
      exact hq
    · rw [if_neg (fun z => e (q126.mp z))]
      refine ⟨_, .inr (T.kt_COMMON_SIGNS H), rfl, rfl, ?_⟩
      rw [z445]
      have e2 : stands 1 c = common c := by simp [stands, e]
      rw [← e2]
      exact hq
theorem sc_q12 : FnScope ["self", "floor", "cell", "other"] ["self", "floor", "cell", "other"] (defScope s_q12) := ⟨rfl, rfl, rfl, by decide +kernel, rfl, by decide +kernel, by decide +kernel⟩
set_option maxHeartbeats 4000000 in
theorem ok_q12 {fd : FuncData} (F : Fun K "fare" "Carrier.fare" s_q12 ad.q12 fd) (T : Txt K mg ad) : FnOk P w K mg base CX0 1 ad.q12 fd ["self", "floor", "cell", "other"] (spFare ad.C_Floor 0) := by
  refine F.ok sc_q12 (fun vs H Q E h => ?_) (fun cdv A outer s H vs Q E HR h => ?_)
  · obtain ⟨x, fl, w, h, sg, cell, other, rfl, _⟩ := h
    rfl
  · obtain ⟨x, fl, w, h, sg, cell, other, rfl, F0, g, c01, o01, hq⟩ := h
    have ND := sc_q12.nd
    have HU0 := HR.units0
    have HU := HR.units
    have hA := HR.hd
    have hz : (100000 : Nat) ≤ sizeLine := by rw [sizeLine_eq]; decide
    refine ⟨_, (pss_one (ps_ret pe_int)), ?_⟩
    walk_at "RD"
    exact hq _ (Same.refl _)
theorem sc_q13 : FnScope ["self", "floor", "cell", "other"] ["self", "floor", "cell", "other"] (defScope s_q13) := ⟨rfl, rfl, rfl, by decide +kernel, rfl, by decide +kernel, by decide +kernel⟩
set_option maxHeartbeats 4000000 in
theorem ok_q13 {fd : FuncData} (F : Fun K "fare" "Crawler.fare" s_q13 ad.q13 fd) (T : Txt K mg ad) {fd_q20 : FuncData} (B_q20 : Binds K fd_q20 ["self", "cell"] []) (G_q20 : FnOk P w K mg base CX0 1 ad.q20 fd_q20 ["self", "cell"] (spSign ad.C_Floor)) : FnOk P w K mg base CX0 2 ad.q13 fd ["self", "floor", "cell", "other"] (spFare ad.C_Floor 1) := by
  refine F.ok sc_q13 (fun vs H Q E h => ?_) (fun cdv A outer s H vs Q E HR h => ?_)
  · obtain ⟨x, fl, w, h, sg, cell, other, rfl, _⟩ := h
    rfl
  · obtain ⟨x, fl, w, h, sg, cell, other, rfl, F0, g, c01, o01, hq⟩ := h
    have ND := sc_q13.nd
    have HU0 := HR.units0
    have HU := HR.units
    have hA := HR.hd
    have hz : (100000 : Nat) ≤ sizeLine := by rw [sizeLine_eq]; decide
    obtain ⟨u_ROUGH, c_ROUGH, r_ROUGH⟩ := T.c_ROUGH
    refine ⟨_, (pss_one (ps_ret (pe_ifExp (pt_cmpR op_eq (pe_meth (pe_var (i := 1) (x := "floor") rfl (vis_of z506) z62 z59) T.cl_Floor T.m_q20 G_q20 (HR.mono (by decide)) B_q20 .nil pass0 (pa_cons (pe_var (i := 3) (x := "other") rfl (vis_of z483) z215 z200) pa_nil (stp rfl)) (hst := stp rfl) (hpl := anp rfl)) (pe_glob (v := V.str (Str.ofString "~")) (gl_of z508) c_ROUGH r_ROUGH (hd := z671)) (nomark _)) pe_int pe_int))), ?_⟩
    obtain ⟨dx, l, h1, h2⟩ := id F0.ob
    walk_at "RD"
    refine ⟨_, _, h1, nofl (by decide +kernel) (by decide +kernel) (by decide +kernel) (by decide +kernel), fl, w, h, sg, other, rfl, F0, g, o01.1, o01.2, rfl, ?_⟩
    simp only [fareOf] at hq
    by_cases e : at_ sg other = 126
    · rw [if_pos (q126.mpr e)]
      rw [if_pos e] at hq
      exact hq _ (Same.refl _)
    · rw [if_neg (fun z => e (q126.mp z))]
      rw [if_neg e] at hq
      exact hq _ (Same.refl _)
theorem sc_q16 : FnScope ["self", "floor", "cell", "other"] ["self", "floor", "cell", "other"] (defScope s_q16) := ⟨rfl, rfl, rfl, by decide +kernel, rfl, by decide +kernel, by decide +kernel⟩
set_option maxHeartbeats 4000000 in
theorem ok_q16 {fd : FuncData} (F : Fun K "fare" "Runner.fare" s_q16 ad.q16 fd) (T : Txt K mg ad) {fd_q28 : FuncData} (B_q28 : Binds K fd_q28 ["self", "cell"] []) (G_q28 : FnOk P w K mg base CX0 1 ad.q28 fd_q28 ["self", "cell"] (z534 ad.C_Floor)) {fd_q20 : FuncData} (B_q20 : Binds K fd_q20 ["self", "cell"] []) (G_q20 : FnOk P w K mg base CX0 1 ad.q20 fd_q20 ["self", "cell"] (spSign ad.C_Floor)) : FnOk P w K mg base CX0 2 ad.q16 fd ["self", "floor", "cell", "other"] (spFare ad.C_Floor 2) := by
  refine F.ok sc_q16 (fun vs H Q E h => ?_) (fun cdv A outer s H vs Q E HR h => ?_)
  · obtain ⟨x, fl, w, h, sg, cell, other, rfl, _⟩ := h
    rfl
  · obtain ⟨x, fl, w, h, sg, cell, other, rfl, F0, g, c01, o01, hq⟩ := h
    have ND := sc_q16.nd
    have HU0 := HR.units0
    have HU := HR.units
    have hA := HR.hd
    have hz : (100000 : Nat) ≤ sizeLine := by rw [sizeLine_eq]; decide
    obtain ⟨u_LANE, c_LANE, r_LANE⟩ := T.c_LANE
    refine ⟨_, (pss_cons (ps_if (pt_cmpR op_eq (pe_meth (pe_var (i := 1) (x := "floor") rfl (vis_of z157) z62 z59) T.cl_Floor T.m_q28 G_q28 (HR.mono (by decide)) B_q28 .nil pass0 (pa_cons (pe_var (i := 2) (x := "cell") rfl (vis_of z384) d_cell e_cell) pa_nil (stp rfl)) (hst := stp rfl) (hpl := anp rfl)) (pe_meth (pe_var (i := 1) (x := "floor") rfl (vis_of z157) z62 z59) T.cl_Floor T.m_q28 G_q28 (HR.mono (by decide)) B_q28 .nil pass0 (pa_cons (pe_var (i := 3) (x := "other") rfl (vis_of z345) z215 z200) pa_nil (stp rfl)) (hst := stp rfl) (hpl := anp rfl)) (nomark _))
 (pss_one (ps_ret pe_int))
 pss_nil)
 (pss_cons (ps_if (pt_cmpR op_in_seq (pe_glob (v := V.str (Str.ofString "|")) (gl_of z542) c_LANE r_LANE (hd := d_LANE)) (pe_tup (pa_cons (pe_meth (pe_var (i := 1) (x := "floor") rfl (vis_of z157) z62 z59) T.cl_Floor T.m_q20 G_q20 (HR.mono (by decide)) B_q20 .nil pass0 (pa_cons (pe_var (i := 2) (x := "cell") rfl (vis_of z384) d_cell e_cell) pa_nil (stp rfl)) (hst := stp rfl) (hpl := anp rfl)) (pa_cons (pe_meth (pe_var (i := 1) (x := "floor") rfl (vis_of z157) z62 z59) T.cl_Floor T.m_q20 G_q20 (HR.mono (by decide)) B_q20 .nil pass0 (pa_cons (pe_var (i := 3) (x := "other") rfl (vis_of z345) z215 z200) pa_nil (stp rfl)) (hst := stp rfl) (hpl := anp rfl)) pa_nil (stp rfl)) (stp rfl))) (by with_unfolding_all rfl))
 (pss_one (ps_ret pe_int))
 pss_nil)
 (pss_one (ps_ret pe_non)))), ?_⟩
    obtain ⟨dx, l, h1, h2⟩ := id F0.ob
    have nr : (flds w h l sg).lookup ("row" : Str) = none := nofl (by decide +kernel) (by decide +kernel) (by decide +kernel) (by decide +kernel)
    have ns : (flds w h l sg).lookup ("sign" : Str) = none := nofl (by decide +kernel) (by decide +kernel) (by decide +kernel) (by decide +kernel)
    walk_at "RD"
    refine ⟨_, _, h1, nr, fl, w, h, sg, cell, rfl, F0, g, _, _, h1, nr, fl, w, h, sg, other, rfl, F0, g, rfl, ?_⟩
    simp only [fareOf] at hq
    by_cases e : cell / (w : Int) = other / (w : Int)
    · rw [if_pos (congrArg V.int e)]
      rw [if_pos e] at hq
      exact hq _ (Same.refl _)
    · rw [if_neg (fun z => e (V.int.inj z))]
      rw [if_neg e] at hq
      refine ⟨_, _, h1, ns, fl, w, h, sg, cell, rfl, F0, g, c01.1, c01.2, _, _, h1, ns, fl, w, h, sg, other, rfl, F0, g, o01.1, o01.2, ?_⟩
      show 2 ≤ sizeLine ∧ _
      refine ⟨by omega, fun p hp => ⟨_, .inr (SqT.of upd_same), rfl, rfl, ?_⟩⟩
      have e2 : inV (V.str (Str.ofString "|")) [chr1 (at_ sg cell), chr1 (at_ sg other)] = decide (at_ sg cell = 124 ∨ at_ sg other = 124) := by
        have q : ∀ c : Nat, eqV (chr1 c) (V.str (Str.ofString "|")) = decide (c = 124) := fun c => by
          have e : eqV (chr1 c) (V.str (Str.ofString "|")) = ((⟨#[c]⟩ : Str) == Str.ofString "|") := rfl
          rw [e, Bool.eq_iff_iff, beq_iff_eq, decide_eq_true_iff]
          exact ⟨fun z => q124.mp (congrArg V.str z), fun z => V.str.inj (q124.mpr z)⟩
        simp only [inV, List.any_cons, List.any_nil, Bool.or_false]
        rw [q, q, Bool.decide_or]
      rw [e2]
      by_cases e3 : at_ sg cell = 124 ∨ at_ sg other = 124
      · rw [if_pos (decide_eq_true e3)]
        rw [if_pos e3] at hq
        exact hq _ (zz0 hp)
      · rw [if_neg (fun z => e3 (of_decide_eq_true z))]
        rw [if_neg e3] at hq
        exact hq _ (zz0 hp)
theorem sc_q0 : FnScope ["self", "floor", "cell", "other"] ["self", "floor", "cell", "other"] (defScope s_q0) := ⟨rfl, rfl, rfl, by decide +kernel, rfl, by decide +kernel, by decide +kernel⟩
set_option maxHeartbeats 4000000 in
theorem ok_q0 {fd : FuncData} (F : Fun K "fare_if_standing" "Carrier.fare_if_standing" s_q0 ad.q0 fd) (T : Txt K mg ad) {fd_q2 : FuncData} (B_q2 : Binds K fd_q2 ["self", "sign"] []) (G_q2 : FnOk P w K mg base CX0 1 ad.q2 fd_q2 ["self", "sign"] (spMay 0)) {fd_q3 : FuncData} (B_q3 : Binds K fd_q3 ["self", "sign"] []) (G_q3 : FnOk P w K mg base CX0 1 ad.q3 fd_q3 ["self", "sign"] (spMay 1)) {fd_q20 : FuncData} (B_q20 : Binds K fd_q20 ["self", "cell"] []) (G_q20 : FnOk P w K mg base CX0 1 ad.q20 fd_q20 ["self", "cell"] (spSign ad.C_Floor)) {fd_q12 : FuncData} (B_q12 : Binds K fd_q12 ["self", "floor", "cell", "other"] []) (G_q12 : FnOk P w K mg base CX0 1 ad.q12 fd_q12 ["self", "floor", "cell", "other"] (spFare ad.C_Floor 0)) {fd_q13 : FuncData} (B_q13 : Binds K fd_q13 ["self", "floor", "cell", "other"] []) (G_q13 : FnOk P w K mg base CX0 2 ad.q13 fd_q13 ["self", "floor", "cell", "other"] (spFare ad.C_Floor 1)) {fd_q16 : FuncData} (B_q16 : Binds K fd_q16 ["self", "floor", "cell", "other"] []) (G_q16 : FnOk P w K mg base CX0 2 ad.q16 fd_q16 ["self", "floor", "cell", "other"] (spFare ad.C_Floor 2)) : FnOk P w K mg base CX0 3 ad.q0 fd ["self", "floor", "cell", "other"] (z369 ad) := by
  refine F.ok sc_q0 (fun vs H Q E h => ?_) (fun cdv A outer s H vs Q E HR h => ?_)
  · obtain ⟨p, fl, i, n, w, h, sg, cell, other, rfl, _⟩ := h
    rfl
  · obtain ⟨p, fl, i, n, w, h, sg, cell, other, rfl, hc, hi, F0, g, c01, o01, hq⟩ := h
    have ND := sc_q0.nd
    have HU0 := HR.units0
    have HU := HR.units
    have hA := HR.hd
    have hz : (100000 : Nat) ≤ sizeLine := by rw [sizeLine_eq]; decide
    refine ⟨_, (pss_cons (ps_if (PW.pt (pw_and (pt_val (z194 (k := 1) (pe_var (i := 0) (x := "self") rfl (vis_of z368) d_self e_self) (z5 T.cl_Cart T.m_Cart_may_stand G_q2 (by decide) B_q2 (z5 T.cl_Crawler T.m_q3 G_q3 (by decide) B_q3 (z5 T.cl_Runner T.m_Runner_may_stand G_q2 (by decide) B_q2 (z5 T.cl_Carrier T.m_q2 G_q2 (by decide) B_q2 z189)))) (HR.mono (by decide)) (pa_cons (pe_meth (pe_var (i := 1) (x := "floor") rfl (vis_of z273) z62 z59) T.cl_Floor T.m_q20 G_q20 (HR.mono (by decide)) B_q20 .nil pass0 (pa_cons (pe_var (i := 2) (x := "cell") rfl (vis_of z448) d_cell e_cell) pa_nil (stp rfl)) (hst := stp rfl) (hpl := anp rfl)) pa_nil (stp rfl)) (hst := stp rfl) (hpl := anp rfl))) (pw_and1 (pt_val (z194 (k := 1) (pe_var (i := 0) (x := "self") rfl (vis_of z368) d_self e_self) (z5 T.cl_Cart T.m_Cart_may_stand G_q2 (by decide) B_q2 (z5 T.cl_Crawler T.m_q3 G_q3 (by decide) B_q3 (z5 T.cl_Runner T.m_Runner_may_stand G_q2 (by decide) B_q2 (z5 T.cl_Carrier T.m_q2 G_q2 (by decide) B_q2 z189)))) (HR.mono (by decide)) (pa_cons (pe_meth (pe_var (i := 1) (x := "floor") rfl (vis_of z273) z62 z59) T.cl_Floor T.m_q20 G_q20 (HR.mono (by decide)) B_q20 .nil pass0 (pa_cons (pe_var (i := 3) (x := "other") rfl (vis_of z376) z215 z200) pa_nil (stp rfl)) (hst := stp rfl) (hpl := anp rfl)) pa_nil (stp rfl)) (hst := stp rfl) (hpl := anp rfl))))))
 (pss_one (ps_ret (z194 (k := 2) (pe_var (i := 0) (x := "self") rfl (vis_of z368) d_self e_self) (z5 T.cl_Cart T.m_Cart_fare G_q12 (by decide) B_q12 (z5 T.cl_Crawler T.m_q13 G_q13 (by decide) B_q13 (z5 T.cl_Runner T.m_q16 G_q16 (by decide) B_q16 (z5 T.cl_Carrier T.m_q12 G_q12 (by decide) B_q12 z189)))) (HR.mono (by decide)) (pa_cons (pe_var (i := 1) (x := "floor") rfl (vis_of z273) z62 z59) (pa_cons (pe_var (i := 2) (x := "cell") rfl (vis_of z448) d_cell e_cell) (pa_cons (pe_var (i := 3) (x := "other") rfl (vis_of z376) z215 z200) pa_nil (stp rfl)) (stp rfl)) (stp rfl)) (hst := stp rfl) (hpl := anp rfl))))
 pss_nil)
 (pss_one (ps_ret pe_non))), ?_⟩
    obtain ⟨dx, l, h1, h2⟩ := id F0.ob
    obtain ⟨dp, hp⟩ := id hc
    have ns : (flds w h l sg).lookup ("sign" : Str) = none := nofl (by decide +kernel) (by decide +kernel) (by decide +kernel) (by decide +kernel)
    obtain ⟨j, hj, ej⟩ := e_may (ad := ad) i hi
    obtain ⟨k, hk, ek⟩ := e_fare (ad := ad) (C := ad.C_Floor) i hi
    have nm : (putF "full" (V.int n) []).lookup ("may_stand" : Str) = none := l_no n (by decide +kernel)
    have nf : (putF "full" (V.int n) []).lookup ("fare" : Str) = none := l_no n (by decide +kernel)
    have may : ∀ (o : Int) (Q' : VK), InF sg o → Q' (.bl (stands i (at_ sg o))) H → ∃ a dx fs e, e ∈ [(ad.C_Cart, spMay 0), (ad.C_Crawler, spMay 1), (ad.C_Runner, spMay 0), (ad.C_Carrier, spMay 0)] ∧ p = a ∧ H a = some (HO.ins e.fst dx fs) ∧ List.lookup ("may_stand" : Str) fs = none ∧
        ∃ x x_1, H fl = some (HO.ins ad.C_Floor x x_1) ∧ List.lookup ("sign" : Str) x_1 = none ∧ spSign ad.C_Floor [V.ref fl, V.int o] H (fun x H1 => e.snd [V.ref p, x] H1 Q' E0) E0 := fun o Q' ho q =>
      ⟨p, dp, _, (clsOf ad i, spMay j), hj, rfl, hp, nm, _, _, h1, ns, fl, w, h, sg, o, rfl, F0, g, ho.1, ho.2, _, _, rfl, by rw [ej]; exact q⟩
    unfold costOf at hq
    walk_at "RD"
    refine may cell _ c01 ⟨_, rfl, ?_⟩
    by_cases e1 : stands i (at_ sg cell) = true
    · rw [if_pos e1]
      refine may other _ o01 ⟨_, rfl, ?_⟩
      by_cases e2 : stands i (at_ sg other) = true
      · rw [if_pos e2]
        simp only [e1, e2, Bool.and_self, if_true] at hq
        refine ⟨p, dp, _, (clsOf ad i, spFare ad.C_Floor k), hk, rfl, hp, nf, .ref p, fl, w, h, sg, cell, other, rfl, F0, g, c01, o01, ?_⟩
        rw [ek]
        exact hq
      · rw [if_neg e2]
        rw [Bool.not_eq_true] at e2
        rw [e2, Bool.and_false, if_neg (by decide)] at hq
        exact hq _ (Same.refl _)
    · rw [if_neg e1]
      rw [Bool.not_eq_true] at e1
      rw [e1, Bool.false_and, if_neg (by decide)] at hq
      exact hq _ (Same.refl _)
theorem sc_q8 : FnScope ["self", "floor", "cell", "pairs"] ["self", "floor", "cell"] (defScope s_q8) := ⟨rfl, rfl, rfl, by decide +kernel, rfl, by decide +kernel, by decide +kernel⟩
set_option maxHeartbeats 4000000 in
theorem ok_q8 {fd : FuncData} (F : Fun K "steps" "Carrier.steps" s_q8 ad.q8 fd) (T : Txt K mg ad) {fd_q10 : FuncData} (B_q10 : Binds K fd_q10 ["self", "cell"] []) (G_q10 : FnOk P w K mg base CX0 4 ad.q10 fd_q10 ["self", "cell"] (z436 ad.C_Floor)) {fd_q0 : FuncData} (B_q0 : Binds K fd_q0 ["self", "floor", "cell", "other"] []) (G_q0 : FnOk P w K mg base CX0 3 ad.q0 fd_q0 ["self", "floor", "cell", "other"] (z369 ad)) : FnOk P w K mg base CX0 5 ad.q8 fd ["self", "floor", "cell"] (z468 ad) := by
  refine F.ok sc_q8 (fun vs H Q E h => ?_) (fun cdv A outer s H vs Q E HR h => ?_)
  · obtain ⟨p, fl, i, n, w, h, sg, cell, rfl, _⟩ := h
    rfl
  · obtain ⟨p, fl, i, n, w, h, sg, cell, rfl, hc, hi, F0, g, c01, hq⟩ := h
    have ND := sc_q8.nd
    have HU0 := HR.units0
    have HU := HR.units
    have hA := HR.hd
    have hz : (100000 : Nat) ≤ sizeLine := by rw [sizeLine_eq]; decide
    refine ⟨_, (pss_cons (z270 (i := 3) (z8.of (osc := defScope s_q8) (tn := ["other"]) (cn := ["floor", "cell", "self"]) (caps := [1, 2, 0]) rfl rfl (by decide +kernel) (by decide +kernel) (by decide +kernel) (by decide +kernel) rfl) (calm0 rfl) ND rfl z402 (pi_list (pe_meth (pe_var (i := 1) (x := "floor") rfl (vis_of z560) z62 z59) T.cl_Floor T.m_q10 G_q10 (HR.mono (by decide)) B_q10 .nil pass0 (pa_cons (pe_var (i := 2) (x := "cell") rfl (vis_of z642) d_cell e_cell) pa_nil (stp rfl)) (hst := stp rfl) (hpl := anp rfl)))
 (fun _ _ _ _ _ => (pg_name (i := 0) (show (["other", "floor", "cell", "self"] : List Str).Nodup by decide +kernel) rfl (Or.inl rfl))) (fun _ _ _ _ _ => z281) (fun _ _ _ _ _ => (pe_tup (pa_cons (pv 0) (pa_cons (z194 (k := 3) (pv 3) (z5 T.cl_Cart T.m_Cart_fare_if_standing G_q0 (by decide) B_q0 (z5 T.cl_Crawler T.m_q13_if_standing G_q0 (by decide) B_q0 (z5 T.cl_Runner T.m_q16_if_standing G_q0 (by decide) B_q0 (z5 T.cl_Carrier T.m_q0 G_q0 (by decide) B_q0 z189)))) (HR.mono (by decide)) (pa_cons (pv 1) (pa_cons (pv 2) (pa_cons (pv 0) pa_nil (stp rfl)) (stp rfl)) (stp rfl)) (hst := stp rfl) (hpl := anp rfl)) pa_nil (stp rfl)) (stp rfl)))) (hsw := by rfl))
 (pss_one (ps_ret (z94 (z8.of (osc := defScope s_q8) (tn := ["pair"]) (cn := []) (caps := []) rfl rfl (by decide +kernel) (by decide +kernel) (by decide +kernel) (by decide +kernel) rfl) (calm0 rfl)  (pi_list (pe_var (i := 3) (x := "pairs") rfl (vis_of z554) z726 z720))
 (fun _ _ _ _ _ => (pg_name (i := 0) (show (["pair"] : List Str).Nodup by decide +kernel) rfl (Or.inl rfl))) (fun _ _ _ _ _ => (z95 (pt_cmpR op_notN (pe_ix (z582 (K := K) rfl) (pv 0) pe_int (fun _ _ => rfl)) pe_non (nomark _)))) (fun _ _ _ _ _ => (pv 0)))))), ?_⟩
    obtain ⟨dx, l, h1, h2⟩ := id F0.ob
    obtain ⟨dp, hp⟩ := id hc
    have nb : (flds w h l sg).lookup ("beside" : Str) = none := nofl (by decide +kernel) (by decide +kernel) (by decide +kernel) (by decide +kernel)
    have nf : (putF "full" (V.int n) []).lookup ("fare_if_standing" : Str) = none := l_no n (by decide +kernel)
    have bl := z312 (w := w) (sg := sg) (c := cell)
    walk_at "RD"
    refine ⟨_, _, h1, nb, fl, w, h, sg, cell, rfl, F0, g, fun r H1 hr s1 h3 => ⟨r, rfl, ⟨_, SqL.of h3⟩, z363 (K := K) (a := r) (xs := (z14 w sg cell).map V.int) (fun j ys H' => Same H1 H' ∧ ∃ ts : List Addr, ys = ts.map V.ref ∧ Paired (PO (costOf i w sg cell) H') ts ((z14 w sg cell).take j)) ⟨Same.refl _, [], rfl, .nil⟩ ?_ ?_ ?_⟩⟩
    · rintro j ys H' _ ⟨s2, _⟩
      exact SqL.of (s2 _ _ h3)
    · rintro j x ys H' hx ⟨s2, ts, rfl, pr⟩
      rw [List.getElem?_map] at hx
      obtain ⟨o, ho, rfl⟩ := Option.map_eq_some_iff.mp hx
      have hm : o ∈ z14 w sg cell := List.mem_of_getElem? ho
      have lt : ts.length ≤ 4 := by
        have := Paired.length pr
        rw [List.length_take] at this
        omega
      walk_at "RD"
      refine ⟨p, dp, _, (clsOf ad i, z369 ad), e_al4 i hi, rfl, s2 _ _ (s1 _ _ hp), nf, p, fl, i, n, w, h, sg, cell, o, rfl, ⟨dp, s2 _ _ (s1 _ _ hp)⟩, hi, F0.same (s1.trans s2), g, c01, z451 g hm, fun H3 s3 => ⟨by omega, fun t ht => ⟨by simp; omega, (s2.trans s3).trans (zz0 ht), ts ++ [t], by simp, ?_⟩⟩⟩
      rw [List.take_add_one, ho]
      exact Paired.snoc (Paired.mapP pr fun _ _ z => (zz0 ht) _ _ (s3 _ _ z)) upd_same
    · rintro ys H' ⟨s2, ts, rfl, pr⟩
      rw [List.length_map, List.take_length] at pr
      have lt : ts.length ≤ 4 := by
        have := Paired.length pr
        omega
      refine ⟨by simp; omega, fun q hq' => ⟨⟨_, SqL.of upd_same⟩, z22 (src_list (SqL.of upd_same)) (pvv (upd H' q (HO.lst (ts.map V.ref)))) (fun v => v) (fun y hy Q h => ?_) (fun y hy _ Q h => ?_) (by simp; omega) (fun D hD => ?_)⟩⟩
      · obtain ⟨t, ht, rfl⟩ := List.mem_map.mp hy
        obtain ⟨o, e⟩ := z400 pr ht
        have e : upd H' q (HO.lst (ts.map V.ref)) t = some (.tup [.int o, optV (costOf i w sg cell o)]) := (zz0 hq') _ _ e
        walk_at "RD"
        refine ⟨_, SqT.of e, _, rfl, ?_⟩
        simp only [pvv, e] at h
        exact h
      · walk_at "RD"
        exact h
      · obtain ⟨us, e1, e2⟩ := z389 (Paired.mapP pr fun _ _ z => (zz0 (o := HO.lst (ts.map V.ref)) hq') _ _ z)
        rw [List.map_id', e1]
        exact hq D _ ((s1.trans s2).free ((zz0 hq').free hD)) ((s1.trans s2).trans ((zz0 hq').trans (zz0 hD))) ⟨us, upd_same, Paired.mapP e2 fun _ _ z => (zz0 hD) _ _ z⟩
theorem sc_q21 : FnScope ["kind", "full"] ["kind", "full"] (defScope s_q21) := ⟨rfl, rfl, rfl, by decide +kernel, rfl, by decide +kernel, by decide +kernel⟩
set_option maxHeartbeats 4000000 in
theorem ok_q21 {fd : FuncData} {its : Array Value} (F : FunD K "carrier_of" "carrier_of" s_q21 ad.q21 fd its) (T : Txt K mg ad) {fd_q33 : FuncData} (B_q33 : Binds K fd_q33 ["thing", "least", "most"] []) (G_q33 : FnOk P w K mg base CX0 2 ad.q33 fd_q33 ["thing", "least", "most"] (z401 K)) {fd_q11 : FuncData} (B_q11 : Binds K fd_q11 ["self", "full"] []) (G_q11 : FnOk P w K mg base CX0 1 ad.q11 fd_q11 ["self", "full"] (z463 ad)) : FnOk P w K mg base CX0 3 ad.q21 fd ["kind", "full"] (spMake ad) := by
  refine F.ok sc_q21 (fun vs H Q E h => ?_) (fun cdv A outer s H vs Q E HR h => ?_)
  · obtain ⟨i, x, n, rfl, _⟩ := h
    rfl
  · obtain ⟨i, x, n, rfl, i3, hi, n0, n1, hq⟩ := h
    have ND := sc_q21.nd
    have HU0 := HR.units0
    have HU := HR.units
    have hA := HR.hd
    have hz : (100000 : Nat) ≤ sizeLine := by rw [sizeLine_eq]; decide
    obtain ⟨u_KINDS, c_KINDS, r_KINDS⟩ := T.c_KINDS
    obtain ⟨u_MOST_FULL, c_MOST_FULL, r_MOST_FULL⟩ := T.c_MOST_FULL
    refine ⟨_, (pss_cons (ps_if (PW.pt (pw_or (pt_not (pt_val (pe_callB z26 (gl_of z279) T.b_isinstance PyProof.Rows.Boot.«isinstance» (pa_cons (pe_var (i := 0) (x := "kind") rfl (vis_of z216) d_kind e_kind) (pa_cons (pe_bltn (v := .ty "str") (gl_of z621) T.b_str PyProof.Rows.Boot.«str» rfl (hn := n_str) (hd := d_str)) pa_nil (stp rfl)) (stp rfl)) (hn := z20) (hdb := z24) (he := stp rfl) (hpl := anp rfl)))) (pw_or1 (pt_cmpR op_notIn_seq (pe_var (i := 0) (x := "kind") rfl (vis_of z216) d_kind e_kind) (pe_glob (v := .ref ad.K_KINDS) (gl_of z495) c_KINDS r_KINDS (hd := z716)) (by with_unfolding_all rfl)))))
 pss_never
 pss_nil)
 (pss_cons (ps_if (pt_not (pt_val (pe_call G_q33 (HR.mono (by decide)) (gl_of z639) T.mg_q33 T.k_q33 B_q33 .nil pass0 (pa_cons (pe_var (i := 1) (x := "full") rfl (vis_of z214) d_full e_full) (pa_cons pe_int (pa_cons (pe_glob (v := V.int 60) (gl_of z328) c_MOST_FULL r_MOST_FULL (hd := z504)) pa_nil (stp rfl)) (stp rfl)) (stp rfl)) (hdb := d_q33) (he := stp rfl) (hpl := anp rfl))))
 pss_never
 pss_nil)
 (pss_cons (ps_if (pt_cmpR op_eq (pe_var (i := 0) (x := "kind") rfl (vis_of z216) d_kind e_kind) pe_str (nomark _))
 (pss_one (ps_ret (pe_make T.mk_Cart G_q11 (HR.mono (by decide)) (gl_of z531) T.mg_Cart B_q11 .nil pass0 (pa_cons (pe_var (i := 1) (x := "full") rfl (vis_of z214) d_full e_full) pa_nil (stp rfl)) (hdb := d_Cart) (he := stp rfl) (hpl := anp rfl))))
 pss_nil)
 (pss_cons (ps_if (pt_cmpR op_eq (pe_var (i := 0) (x := "kind") rfl (vis_of z216) d_kind e_kind) pe_str (nomark _))
 (pss_one (ps_ret (pe_make T.mk_Crawler G_q11 (HR.mono (by decide)) (gl_of z413) T.mg_Crawler B_q11 .nil pass0 (pa_cons (pe_var (i := 1) (x := "full") rfl (vis_of z214) d_full e_full) pa_nil (stp rfl)) (hdb := z636) (he := stp rfl) (hpl := anp rfl))))
 pss_nil)
 (pss_one (ps_ret (pe_make T.mk_Runner G_q11 (HR.mono (by decide)) (gl_of z437) T.mg_Runner B_q11 .nil pass0 (pa_cons (pe_var (i := 1) (x := "full") rfl (vis_of z214) d_full e_full) pa_nil (stp rfl)) (hdb := z676) (he := stp rfl) (hpl := anp rfl)))))))), ?_⟩
    walk_at "RD"
    have hx : x ∈ kinds3 := by
      match i, hi, i3 with
      | 0, hi, _ => cases hi; decide +kernel
      | 1, hi, _ => cases hi; decide +kernel
      | 2, hi, _ => cases hi; decide +kernel
      | (i + 3), hi, i3 => omega
    refine ⟨_, .str x, _, rfl, ?_⟩
    rw [if_neg (by decide)]
    refine ⟨_, .inr (T.kt_KINDS H), rfl, rfl, ?_⟩
    rw [z675, decide_eq_true hx, if_neg (by decide)]
    refine ⟨.int n, 1, 60, rfl, ⟨_, .int n⟩, true, by simp [amg, n0, n1], ?_⟩
    rw [if_neg (by decide)]
    have mk : ∀ (p dx : Addr), H p = none → H dx = none → dx ≠ p → z463 ad [V.ref p, V.int n] (upd (upd H dx (HO.own p)) p (HO.ins (clsOf ad i) dx [])) (fun v H2 => v = V.non ∧ Q (V.ref p) H2) E0 := fun p dx np nd nn =>
      ⟨p, dx, n, i, rfl, upd_same, rfl, hq p _ (fun b o e => by rw [upd_ne (ne_of_none e np), upd_ne (ne_of_none e np), upd_ne (ne_of_none e nd)]; exact e) np ⟨dx, upd_same⟩⟩
    match i, hi, i3, mk with
    | 0, hi, _, mk => cases hi; rw [if_pos rfl]; exact mk
    | 1, hi, _, mk => cases hi; rw [if_neg (by decide +kernel), if_pos rfl]; exact mk
    | 2, hi, _, mk => cases hi; rw [if_neg (by decide +kernel), if_neg (by decide +kernel)]; exact mk
    | (i + 3), hi, i3, mk => omega
theorem sc_Lat : FnScope ["_law_script", "_law_k", "_law_cell"] ["_law_script", "_law_k"] (defScope s_Lat) := ⟨rfl, rfl, rfl, by decide +kernel, rfl, by decide +kernel, by decide +kernel⟩
set_option maxHeartbeats 4000000 in
theorem ok_Lat {fd : FuncData} (F : Fun K "_law_at" "_law_at" s_Lat ad.Lat fd) (T : Txt K mg ad) : FnOk P w K mg base CX0 1 ad.Lat fd ["_law_script", "_law_k"] (spAt K) := by
  refine F.ok sc_Lat (fun vs H Q E h => ?_) (fun cdv A outer s H vs Q E HR h => ?_)
  · obtain ⟨a, ns, k, rfl, _⟩ := h
    rfl
  · obtain ⟨a, ns, k, rfl, hS, hl, h0, h1, hq⟩ := h
    have ND := sc_Lat.nd
    have HU0 := HR.units0
    have HU := HR.units
    have hA := HR.hd
    have hz : (100000 : Nat) ≤ sizeLine := by rw [sizeLine_eq]; decide
    refine ⟨_, (pss_cons (ps_set (i := 2) ND rfl (loc_of (Or.inl z82)) pe_int)
 (pss_cons (ps_if (pt_cmpR op_lt (pe_var (i := 1) (x := "_law_k") rfl (vis_of z71) z88 z83) (pe_callB call_len_seq (gl_of z625) T.b_len PyProof.Rows.Boot.«len» (pa_cons (pe_var (i := 0) (x := "_law_script") rfl (vis_of z114) z18 z19) pa_nil (stp rfl)) (hn := n_len) (hdb := d_len) (he := stp rfl) (hpl := anp rfl)) (nomark _))
 (pss_one (ps_set (i := 2) ND rfl (loc_of (Or.inl z82)) (pe_ix ix_list (pe_var (i := 0) (x := "_law_script") rfl (vis_of z114) z18 z19) (pe_var (i := 1) (x := "_law_k") rfl (vis_of z71) z88 z83) (fun _ _ => rfl))))
 pss_nil)
 (pss_one (ps_ret (pe_op op_mod (pe_op op_mul (pe_op op_add (pe_op op_add (pe_op op_mod (pe_var (i := 2) (x := "_law_cell") rfl (vis_of z323) z11 z10) pe_int) (pe_op op_mul (pe_op op_mul pe_int (pe_var (i := 1) (x := "_law_k") rfl (vis_of z71) z88 z83)) (pe_var (i := 1) (x := "_law_k") rfl (vis_of z71) z88 z83))) pe_int) (pe_op op_add pe_int (pe_op op_mul pe_int (pe_var (i := 1) (x := "_law_k") rfl (vis_of z71) z88 z83)))) pe_int))))), ?_⟩
    walk_at "RD"
    have fin : ∀ i : Int, 0 < (1000000007 : Int) ∧ CMul 7919 k ∧ CMul (7919 * k) k ∧ CMul 2 k ∧ CMul (i % 1000000007 + 7919 * k * k + 31) (48271 + 2 * k) ∧ 0 < (2147483647 : Int) ∧ Q (V.int ((i % 1000000007 + 7919 * k * k + 31) * (48271 + 2 * k) % 2147483647)) H := fun i =>
      ⟨by decide, (by first | (left; constructor <;> omega) | (right; constructor <;> omega)), (by first | (left; constructor <;> omega) | (right; constructor <;> omega)), (by first | (left; constructor <;> omega) | (right; constructor <;> omega)), (by first | (left; constructor <;> omega) | (right; constructor <;> omega)), by decide, hq _ (Int.emod_nonneg _ (by decide)) (Int.emod_lt_of_pos _ (by decide))⟩
    refine ⟨ns.map V.int, .inl hS, ?_⟩
    split
    · rename_i hk
      have hk' : k.toNat < ns.length := by simp at hk; omega
      obtain ⟨j, rfl⟩ := Int.eq_ofNat_of_zero_le h0
      have hj : j < ns.length := by simpa using hk'
      exact ⟨_, hS, .int ns[j], atI_nat (by simp [hj]), _, rfl, fin _⟩
    · exact fin 0
theorem sc_q36 : FnScope ["_law_cell", "_law_k"] ["_law_cell", "_law_k"] (defScope s_q36) := ⟨rfl, rfl, rfl, by decide +kernel, rfl, by decide +kernel, by decide +kernel⟩
set_option maxHeartbeats 4000000 in
theorem ok_q36 {fd : FuncData} (F : Fun K "_law_mixed" "_law_mixed" s_q36 ad.q36 fd) (T : Txt K mg ad) : FnOk P w K mg base CX0 1 ad.q36 fd ["_law_cell", "_law_k"] (z595) := by
  refine F.ok sc_q36 (fun vs H Q E h => ?_) (fun cdv A outer s H vs Q E HR h => ?_)
  · obtain ⟨c, k, rfl, _⟩ := h
    rfl
  · obtain ⟨c, k, rfl, c0, c1, k0, k1, hq⟩ := h
    have ND := sc_q36.nd
    have HU0 := HR.units0
    have HU := HR.units
    have hA := HR.hd
    have hz : (100000 : Nat) ≤ sizeLine := by rw [sizeLine_eq]; decide
    refine ⟨_, (pss_one (ps_ret (pe_op op_mod (pe_op op_mul (pe_op op_add (pe_op op_add (pe_op op_fdiv (pe_var (i := 0) (x := "_law_cell") rfl (vis_of z325) z11 z10) pe_int) (pe_op op_mul (pe_op op_mul pe_int (pe_var (i := 1) (x := "_law_k") rfl (vis_of z190) z88 z83)) (pe_var (i := 1) (x := "_law_k") rfl (vis_of z190) z88 z83))) pe_int) (pe_op op_add pe_int (pe_op op_mul pe_int (pe_var (i := 1) (x := "_law_k") rfl (vis_of z190) z88 z83)))) pe_int))), ?_⟩
    walk_at "RD"
    exact ⟨⟨by decide, by decide⟩, .inl ⟨by decide, by decide⟩, .inr ⟨by omega, by omega⟩, .inl ⟨by decide, by decide⟩, .inr ⟨by omega, by omega⟩, by decide, hq _ (Int.emod_nonneg _ (by decide)) (Int.emod_lt_of_pos _ (by decide))⟩
theorem sc_q37 : FnScope ["_law_thing"] ["_law_thing"] (defScope s_q37) := ⟨rfl, rfl, rfl, by decide +kernel, rfl, by decide +kernel, by decide +kernel⟩
set_option maxHeartbeats 4000000 in
theorem ok_q37 {fd : FuncData} (F : Fun K "_law_whole" "_law_whole" s_q37 ad.q37 fd) (T : Txt K mg ad) : FnOk P w K mg base CX0 1 ad.q37 fd ["_law_thing"] (z339 K) := by
  refine F.ok sc_q37 (fun vs H Q E h => ?_) (fun cdv A outer s H vs Q E HR h => ?_)
  · obtain ⟨x, rfl, _⟩ := h
    rfl
  · obtain ⟨x, rfl, ty, hq⟩ := h
    have ND := sc_q37.nd
    have HU0 := HR.units0
    have HU := HR.units
    have hA := HR.hd
    have hz : (100000 : Nat) ≤ sizeLine := by rw [sizeLine_eq]; decide
    refine ⟨_, (pss_one (ps_ret (pe_and (pe_callB z26 (gl_of z143) T.b_isinstance PyProof.Rows.Boot.«isinstance» (pa_cons (pe_var (i := 0) (x := "_law_thing") rfl (vis_of z135) z290 z280) (pa_cons (pe_bltn (v := .ty "int") (gl_of z631) T.b_int PyProof.Rows.Boot.«int» rfl (hn := n_int) (hd := d_int)) pa_nil (stp rfl)) (stp rfl)) (hn := z20) (hdb := z24) (he := stp rfl) (hpl := anp rfl)) (pe_one (pe_not (pe_callB z26 (gl_of z143) T.b_isinstance PyProof.Rows.Boot.«isinstance» (pa_cons (pe_var (i := 0) (x := "_law_thing") rfl (vis_of z135) z290 z280) (pa_cons (pe_bltn (v := .ty "bool") (gl_of z578) T.b_bool PyProof.Rows.Boot.«bool» rfl (hn := n_bool) (hd := d_bool)) pa_nil (stp rfl)) (stp rfl)) (hn := z20) (hdb := z24) (he := stp rfl) (hpl := anp rfl))))))), ?_⟩
    obtain ⟨n, ty⟩ := ty
    have e1 := z665 ty
    have e2 := z597 ty
    walk_at "RD"
    refine ⟨_, ty, _, e1, ?_⟩
    cases hb : isIB x with
    | true =>
      rw [if_pos rfl]
      refine ⟨_, ty, _, e2, ?_⟩
      cases x <;> simp_all [isI, isB, isIB]
    | false =>
      rw [if_neg (by decide)]
      cases x <;> simp_all [isI, isB, isIB]
theorem sc_q38 : FnScope ["_law_script", "_law_k", "_law_most", "_law_first", "_law_wide", "_law_high", "_law_signs", "_law_text", "_law_j"] ["_law_script", "_law_k", "_law_most"] (defScope s_q38) := ⟨rfl, rfl, rfl, by decide +kernel, rfl, by decide +kernel, by decide +kernel⟩
set_option maxHeartbeats 4000000 in
theorem ok_q38 {fd : FuncData} (F : Fun K "_law_lines" "_law_lines" s_q38 ad.q38 fd) (T : Txt K mg ad) {fd_Lat : FuncData} (B_Lat : Binds K fd_Lat ["_law_script", "_law_k"] []) (G_Lat : FnOk P w K mg base CX0 1 ad.Lat fd_Lat ["_law_script", "_law_k"] (spAt K)) {fd_q36 : FuncData} (B_q36 : Binds K fd_q36 ["_law_cell", "_law_k"] []) (G_q36 : FnOk P w K mg base CX0 1 ad.q36 fd_q36 ["_law_cell", "_law_k"] (z595)) : FnOk P w K mg base CX0 2 ad.q38 fd ["_law_script", "_law_k", "_law_most"] (z612 K) := by
  refine F.ok sc_q38 (fun vs H Q E h => ?_) (fun cdv A outer s H vs Q E HR h => ?_)
  · obtain ⟨a, ns, k, m, rfl, _⟩ := h
    rfl
  · obtain ⟨a, ns, k, m, rfl, hS, hl, k0, k1, m0, m1, hq⟩ := h
    have ND := sc_q38.nd
    have HU0 := HR.units0
    have HU := HR.units
    have hA := HR.hd
    have hz : (100000 : Nat) ≤ sizeLine := by rw [sizeLine_eq]; decide
    refine ⟨_, (pss_cons (ps_set (i := 3) ND rfl (loc_of (Or.inl z147)) (pe_call G_Lat (HR.mono (by decide)) (gl_of z240) T.mg_Lat T.k_Lat B_Lat .nil pass0 (pa_cons (pe_var (i := 0) (x := "_law_script") rfl (vis_of z111) z18 z19) (pa_cons (pe_var (i := 1) (x := "_law_k") rfl (vis_of z306) z88 z83) pa_nil (stp rfl)) (stp rfl)) (hdb := z159) (he := stp rfl) (hpl := anp rfl)))
 (pss_cons (ps_set (i := 4) ND rfl (loc_of (Or.inr z181)) (pe_op op_add pe_int (pe_op op_mod (pe_op op_fdiv (pe_var (i := 3) (x := "_law_first") rfl (vis_of z73) z191 z197) pe_int) (pe_var (i := 2) (x := "_law_most") rfl (vis_of z186) z338 z334))))
 (pss_cons (ps_set (i := 5) ND rfl (loc_of (Or.inl z175)) (pe_op op_add pe_int (pe_op op_mod (pe_op op_fdiv (pe_var (i := 3) (x := "_law_first") rfl (vis_of z73) z191 z197) pe_int) (pe_var (i := 2) (x := "_law_most") rfl (vis_of z186) z338 z334))))
 (pss_cons (ps_set (i := 6) ND rfl (loc_of (Or.inl z140)) (pe_ix ix_list (pe_lst (pa_cons pe_str (pa_cons pe_str (pa_cons pe_str (pa_cons pe_str (pa_cons pe_str pa_nil (stp rfl)) (stp rfl)) (stp rfl)) (stp rfl)) (stp rfl))) (pe_op op_mod (pe_op op_fdiv (pe_var (i := 3) (x := "_law_first") rfl (vis_of z73) z191 z197) pe_int) pe_int) (fun _ _ => rfl)))
 (pss_cons (ps_set (i := 7) ND rfl (loc_of (Or.inr z45)) pe_str)
 (pss_cons (ps_for PassesOwn.never (calm0 rfl) (pi_range1 (gl_of z350) T.b_range (pa_cons (pe_op op_mul (pe_var (i := 4) (x := "_law_wide") rfl (vis_of z314) z92 z96) (pe_var (i := 5) (x := "_law_high") rfl (vis_of z174) z352 z354)) pa_nil (stp rfl)) (st1 rfl)) (pg_name (i := 8) ND rfl (loc_of (Or.inl z275)))
 (pss_one (ps_set (i := 7) ND rfl (loc_of (Or.inr z45)) (pe_op op_add_str (pe_var (i := 7) (x := "_law_text") rfl (vis_of z46) z153 z158) (pe_ix ix_str (pe_var (i := 6) (x := "_law_signs") rfl (vis_of z142) z282 z308) (pe_op op_mod (pe_op op_fdiv (pe_call G_q36 (HR.mono (by decide)) (gl_of z288) T.mg_q36 T.k_q36 B_q36 .nil pass0 (pa_cons (pe_call G_Lat (HR.mono (by decide)) (gl_of z240) T.mg_Lat T.k_Lat B_Lat .nil pass0 (pa_cons (pe_var (i := 0) (x := "_law_script") rfl (vis_of z111) z18 z19) (pa_cons (pe_op op_add (pe_op op_add (pe_var (i := 1) (x := "_law_k") rfl (vis_of z306) z88 z83) pe_int) (pe_op op_mod (pe_var (i := 8) (x := "_law_j") rfl (vis_of z285) z569 z564) pe_int)) pa_nil (stp rfl)) (stp rfl)) (hdb := z159) (he := stp rfl) (hpl := anp rfl)) (pa_cons (pe_var (i := 8) (x := "_law_j") rfl (vis_of z285) z569 z564) pa_nil (stp rfl)) (stp rfl)) (hdb := z442) (he := stp rfl) (hpl := anp rfl)) pe_int) (pe_callB call_len_str (gl_of z456) T.b_len PyProof.Rows.Boot.«len» (pa_cons (pe_var (i := 6) (x := "_law_signs") rfl (vis_of z142) z282 z308) pa_nil (stp rfl)) (hn := n_len) (hdb := d_len) (he := stp rfl) (hpl := anp rfl))) (fun _ _ => rfl))))))
 (pss_cons (ps_if (pt_cmpR op_eq (pe_var (i := 7) (x := "_law_text") rfl (vis_of z46) z153 z158) (pe_op z611 pe_str (pe_callB call_len_str (gl_of z456) T.b_len PyProof.Rows.Boot.«len» (pa_cons (pe_var (i := 7) (x := "_law_text") rfl (vis_of z46) z153 z158) pa_nil (stp rfl)) (hn := n_len) (hdb := d_len) (he := stp rfl) (hpl := anp rfl))) (nomark _))
 (pss_one (ps_set (i := 7) ND rfl (loc_of (Or.inr z45)) (pe_op op_add_str pe_str (z469 (pe_var (i := 7) (x := "_law_text") rfl (vis_of z46) z153 z158) (po_some pe_int) po_none))))
 pss_nil)
 (pss_one (ps_ret (z94 (z8.of (osc := defScope s_q38) (tn := ["_law_j"]) (cn := ["_law_text", "_law_wide"]) (caps := [7, 4]) rfl rfl (by decide +kernel) (by decide +kernel) (by decide +kernel) (by decide +kernel) rfl) (calm0 rfl)  (pi_range1 (gl_of z350) T.b_range (pa_cons (pe_var (i := 5) (x := "_law_high") rfl (vis_of z174) z352 z354) pa_nil (stp rfl)) (st1 rfl))
 (fun _ _ _ _ _ => (pg_name (i := 0) (show (["_law_j", "_law_text", "_law_wide"] : List Str).Nodup by decide +kernel) rfl (Or.inl rfl))) (fun _ _ _ _ _ => z281) (fun _ _ _ _ _ => (z469 (pv 1) (po_some (pe_op op_mul (pv 2) (pv 0))) (po_some (pe_op op_add (pe_op op_mul (pv 2) (pv 0)) (pv 2))))))))))))))), ?_⟩
    have tab : ∀ i : Int, ∃ z : Str, atI [V.str (Str.ofString ".....+#~|."), V.str (Str.ofString "..+#~|..#."), V.str (Str.ofString "+~|~.|~+.."), V.str (Str.ofString ".#.#.+.|.~"), V.str (Str.ofString "|+.#")] (i / 847 % 5) = some (V.str z) ∧ 1 ≤ z.length ∧ z.length ≤ 10 ∧ (∀ c ∈ z.cps.toList, sgOk c) := fun i => by
      have h5 : i / 847 % 5 = 0 ∨ i / 847 % 5 = 1 ∨ i / 847 % 5 = 2 ∨ i / 847 % 5 = 3 ∨ i / 847 % 5 = 4 := by omega
      unfold sgOk
      rcases h5 with h | h | h | h | h <;> rw [h] <;> exact ⟨_, rfl, by decide +kernel, by decide +kernel, by decide +kernel⟩
    refine z4 (fun σ H' => ∃ c : Int, 0 ≤ c ∧ H' = H ∧ σ = [some (V.ref a), some (V.int k), some (V.int m), some (V.int c), none, none, none, none, none]) (fun nx hk => ?_) ?_
    · walk_at "RD"
      exact ⟨_, _, _, rfl, hS, hl, k0, by omega, fun r r0 r1 => hk _ _ ⟨r, r0, rfl, rfl⟩⟩
    rintro σ H1 ⟨c, c0, rfl, rfl⟩
    refine z4 (fun σ H' => ∃ w : Nat, 1 ≤ w ∧ w ≤ 10 ∧ H' = H1 ∧ σ = [some (V.ref a), some (V.int k), some (V.int m), some (V.int c), some (V.int (w : Int)), none, none, none, none]) (fun nx hk => ?_) ?_
    · walk_at "RD"
      have e1 := Int.emod_nonneg (c / 7) (show m ≠ 0 by omega)
      have e2 := Int.emod_lt_of_pos (c / 7) (show 0 < m by omega)
      exact ⟨⟨by decide, by decide⟩, by omega, hk _ _ ⟨(1 + c / 7 % m).toNat, by omega, by omega, rfl, by rw [Int.toNat_of_nonneg (by omega)]⟩⟩
    rintro σ H2 ⟨w, w0, w1, rfl, rfl⟩
    refine z4 (fun σ H' => ∃ h : Nat, 1 ≤ h ∧ h ≤ 10 ∧ H' = H2 ∧ σ = [some (V.ref a), some (V.int k), some (V.int m), some (V.int c), some (V.int (w : Int)), some (V.int (h : Int)), none, none, none]) (fun nx hk => ?_) ?_
    · walk_at "RD"
      have e1 := Int.emod_nonneg (c / 77) (show m ≠ 0 by omega)
      have e2 := Int.emod_lt_of_pos (c / 77) (show 0 < m by omega)
      exact ⟨⟨by decide, by decide⟩, by omega, hk _ _ ⟨(1 + c / 77 % m).toNat, by omega, by omega, rfl, by rw [Int.toNat_of_nonneg (by omega)]⟩⟩
    rintro σ H3 ⟨h, h0, h1, rfl, rfl⟩
    refine z4 (fun σ H' => ∃ z : Str, 1 ≤ z.length ∧ z.length ≤ 10 ∧ (∀ c ∈ z.cps.toList, sgOk c) ∧ Same H3 H' ∧ σ = [some (V.ref a), some (V.int k), some (V.int m), some (V.int c), some (V.int (w : Int)), some (V.int (h : Int)), some (V.str z), none, none]) (fun nx hk => ?_) ?_
    · walk_at "RD"
      obtain ⟨z, hz1, hz2, hz3, hz4⟩ := tab c
      exact ⟨by omega, fun p np => ⟨⟨by decide, by decide⟩, by decide, _, SqL.of upd_same, _, hz1, hk _ _ ⟨z, hz2, hz3, hz4, zz0 np, rfl⟩⟩⟩
    rintro σ H4 ⟨z, z0, z1, zok, s4, rfl⟩
    have hS4 := s4.seq hS
    have hwh : w * h ≤ 100 := Nat.mul_le_mul w1 h1
    have hwh1 : 1 ≤ w * h := Nat.mul_le_mul w0 h0
    have em : ((w : Int) * (h : Int)) = ((w * h : Nat) : Int) := by simp
    refine z4 (fun σ H' => H' = H4 ∧ σ = [some (V.ref a), some (V.int k), some (V.int m), some (V.int c), some (V.int (w : Int)), some (V.int (h : Int)), some (V.str z), some (V.str (txt [])), none]) (fun nx hk => ?_) ?_
    · walk_at "RD"
      exact hk _ _ ⟨rfl, by rw [show Str.ofString "" = txt [] from z217 (by decide +kernel)]⟩
    rintro σ H5 ⟨rfl, rfl⟩
    refine z4 (fun σ H' => ∃ (cs : List Nat) (j : Option V), cs.length = w * h ∧ (∀ c ∈ cs, sgOk c) ∧ H' = H5 ∧ σ = [some (V.ref a), some (V.int k), some (V.int m), some (V.int c), some (V.int (w : Int)), some (V.int (h : Int)), some (V.str z), some (V.str (txt cs)), j]) (fun nx hk => ?_) ?_
    · walk_at "RD"
      refine ⟨.inl ⟨by omega, by omega⟩, by rw [em]; omega, by rw [em]; omega, for_range (fun i σ H' => ∃ (cs : List Nat) (j : Option V), cs.length = i ∧ (∀ c ∈ cs, sgOk c) ∧ H' = H5 ∧ σ = [some (V.ref a), some (V.int k), some (V.int m), some (V.int c), some (V.int (w : Int)), some (V.int (h : Int)), some (V.str z), some (V.str (txt cs)), j]) ⟨[], none, rfl, by simp, rfl, rfl⟩ ?_ ?_⟩
      · rintro i σ H' hi ⟨cs, j, hcs, cok, rfl, rfl⟩
        have hi' : i < w * h := by rw [em] at hi; omega
        walk_at "RD"
        refine ⟨by decide, _, _, _, rfl, hS4, hl, by omega, by omega, fun r r0 r1 => ⟨_, _, rfl, r0, r1, by omega, by omega, fun q q0 q1 => ⟨_, rfl, ⟨by decide, by decide⟩, by omega, by omega, by omega, ?_⟩⟩⟩
        have e1 := Int.emod_nonneg (q / 11) (show (z.length : Int) ≠ 0 by omega)
        have e2 := Int.emod_lt_of_pos (q / 11) (show (0 : Int) < z.length by omega)
        obtain ⟨t, ht⟩ := Int.eq_ofNat_of_zero_le e1
        rw [ht] at e2 ⊢
        have ht2 : t < z.cps.toList.length := by rw [z106]; omega
        refine ⟨z.cps.toList[t], atI_nat (List.getElem?_eq_getElem ht2), ?_, cs ++ [z.cps.toList[t]], by simp; omega, ?_, rfl, ?_, _, rfl⟩
        · rw [z30]
          show cs.length + 1 ≤ sizeLine
          omega
        · intro c hc
          rcases List.mem_append.mp hc with y | y
          · exact cok c y
          · have : c = z.cps.toList[t] := by simpa using y
            rw [this]
            exact zok _ (List.getElem_mem ht2)
        · refine z217 ?_
          rw [z104, z51, z51]
      · rintro σ H' ⟨cs, j, hcs, cok, rfl, rfl⟩
        exact hk _ _ ⟨cs, j, by rw [hcs, em, Int.toNat_natCast], cok, rfl, rfl⟩
    rintro σ H6 ⟨cs, j, hcs, cok, rfl, rfl⟩
    refine z4 (fun σ H' => ∃ (cs : List Nat), Good w h cs ∧ H' = H6 ∧ σ = [some (V.ref a), some (V.int k), some (V.int m), some (V.int c), some (V.int (w : Int)), some (V.int (h : Int)), some (V.str z), some (V.str (txt cs)), j]) (fun nx hk => ?_) ?_
    · walk_at "RD"
      have eq7 : (Txt.mul (Str.ofString "#") (((txt cs).length : Nat) : Int)).cps.toList = List.replicate cs.length 35 := by
        rw [mul_list, z30]
        have e : (Str.ofString "#").cps.toList = [35] := by decide +kernel
        rw [e]
        generalize cs.length = n
        induction n with
        | zero => rfl
        | succ n ih => rw [List.replicate_succ, List.flatten_cons, ih, List.replicate_succ]; rfl
      have l1 : (Str.ofString "#").length = 1 := by decide +kernel
      have lx : (txt cs).length = w * h := by rw [z30, hcs]
      refine ⟨by omega, mul_ok _ _ (by omega) (by rw [l1, Nat.one_mul]; omega), ?_⟩
      split
      · have ld : (Str.ofString ".").length = 1 := by decide +kernel
        have sl := Txt.slice_le (txt cs) (some 1) none
        refine ⟨by omega, by omega, hk _ _ ⟨46 :: cs.drop 1, ⟨w0, w1, h0, h1, ?_, ?_, 46, by simp, by decide⟩, rfl, ?_⟩⟩
        · rw [List.length_cons, List.length_drop]; omega
        · intro c hc
          rcases List.mem_cons.mp hc with y | y
          · exact .inl y
          · exact cok c (List.mem_of_mem_drop y)
        · have : Str.ofString "." ++ Txt.slice (txt cs) (some 1) none = txt (46 :: cs.drop 1) := by
            refine z217 ?_
            rw [z104, z489, z51]
            have e : (Str.ofString ".").cps.toList = [46] := by decide +kernel
            rw [e]
            rfl
          rw [this]
      · rename_i hne
        refine hk _ _ ⟨cs, ⟨w0, w1, h0, h1, hcs, cok, ?_⟩, rfl, rfl⟩
        apply Classical.byContradiction
        intro hno
        refine hne (z217 ?_)
        rw [eq7, z51]
        refine List.eq_replicate_iff.mpr ⟨rfl, fun c hc => ?_⟩
        apply Classical.byContradiction
        intro h35
        exact hno ⟨c, hc, h35⟩
    rintro σ H7 ⟨sg, g, rfl, rfl⟩
    have l100 := len100 g
    walk_at "RD"
    refine ⟨by omega, by omega, ?_⟩
    rw [Int.toNat_natCast]
    refine z22 src_range (fun _ => true) (lineV w sg) (fun y hy Q hh => hh) (fun y hy _ Q hh => ?_) (by rw [List.length_map, List.length_range]; omega) ?_
    · obtain ⟨i, hi, rfl⟩ := List.mem_map.mp hy
      walk_at "RD"
      refine ⟨.inl ⟨by omega, by omega⟩, .inl ⟨by omega, by omega⟩, by rw [z30]; omega, hh⟩
    · intro D hD
      have e : (((List.range h).map fun i => V.int (0 + ((i : Nat) : Int))).filter fun _ => true).map (lineV w sg) = (linesOf w h sg).map V.str := by
        rw [List.filter_eq_self.mpr (fun _ _ => rfl), List.map_map, Fl.linesOf, List.map_map]
        refine List.map_congr_left fun i hi => ?_
        have hi' := List.mem_range.mp hi
        show V.str _ = V.str _
        rw [← z517 g.len hi']
        congr 3
        · simp
        · simp
      rw [e]
      exact hq D _ w h sg (s4.free hD) (s4.trans (zz0 hD)) upd_same g
theorem z556 : FnScope ["_law_lines_here", "_law_cell"] ["_law_lines_here", "_law_cell"] (defScope z141) := ⟨rfl, rfl, rfl, by decide +kernel, rfl, by decide +kernel, by decide +kernel⟩
set_option maxHeartbeats 4000000 in
theorem z687 {fd : FuncData} (F : Fun K "_law_sign" "_law_sign" z141 ad.Lsign fd) (T : Txt K mg ad) : FnOk P w K mg base CX0 1 ad.Lsign fd ["_law_lines_here", "_law_cell"] (z340) := by
  refine F.ok z556 (fun vs H Q E h => ?_) (fun cdv A outer s H vs Q E HR h => ?_)
  · obtain ⟨l, w, h, sg, c, rfl, _⟩ := h
    rfl
  · obtain ⟨l, w, h, sg, c, rfl, hL, g, c0, c1, hq⟩ := h
    have ND := z556.nd
    have HU0 := HR.units0
    have HU := HR.units
    have hA := HR.hd
    have hz : (100000 : Nat) ≤ sizeLine := by rw [sizeLine_eq]; decide
    refine ⟨_, (pss_one (ps_ret (pe_ix ix_str (pe_ix ix_list (pe_var (i := 0) (x := "_law_lines_here") rfl (vis_of z25) y2 y3) (pe_op op_fdiv (pe_var (i := 1) (x := "_law_cell") rfl (vis_of z115) z11 z10) (pe_callB call_len_str (gl_of z341) T.b_len PyProof.Rows.Boot.«len» (pa_cons (pe_ix ix_list (pe_var (i := 0) (x := "_law_lines_here") rfl (vis_of z25) y2 y3) pe_int (fun _ _ => rfl)) pa_nil (stp rfl)) (hn := n_len) (hdb := d_len) (he := stp rfl) (hpl := anp rfl))) (fun _ _ => rfl)) (pe_op op_mod (pe_var (i := 1) (x := "_law_cell") rfl (vis_of z115) z11 z10) (pe_callB call_len_str (gl_of z341) T.b_len PyProof.Rows.Boot.«len» (pa_cons (pe_ix ix_list (pe_var (i := 0) (x := "_law_lines_here") rfl (vis_of z25) y2 y3) pe_int (fun _ _ => rfl)) pa_nil (stp rfl)) (hn := n_len) (hdb := d_len) (he := stp rfl) (hpl := anp rfl))) (fun _ _ => rfl)))), ?_⟩
    have w0 := g.w0
    have w1 := g.w1
    have h0 := g.h0
    obtain ⟨j1, d0, q0, q1, e⟩ := z515 g c0 c1
    have e0 : atI ((linesOf w h sg).map V.str) 0 = some (V.str (lineOf w sg 0)) := atI_nat (j := 0) (by rw [List.getElem?_map, z79 (by omega)]; rfl)
    have eL := z98 g (show 0 < h by omega)
    have eR := z98 g j1
    have ec : atI ((linesOf w h sg).map V.str) (c / w) = some (V.str (lineOf w sg (c / w).toNat)) := by
      obtain ⟨j, hj⟩ := Int.eq_ofNat_of_zero_le d0
      rw [hj] at j1 ⊢
      exact atI_nat (by rw [List.getElem?_map, z79 (by simpa using j1)]; rfl)
    have er : atI (lineOf w sg (c / w).toNat).cps.toList (c % w) = some (at_ sg c) := by
      obtain ⟨r, hr⟩ := Int.eq_ofNat_of_zero_le q0
      rw [hr] at e ⊢
      exact atI_nat (by simpa using e)
    walk_at "RD"
    refine ⟨_, SqL.of hL, _, e0, _, rfl, by rw [eL]; omega, ?_⟩
    rw [eL]
    refine ⟨⟨by omega, by omega⟩, _, SqL.of hL, _, ec, _, SqL.of hL, _, e0, _, rfl, by rw [eL]; omega, ?_⟩
    rw [eL]
    exact ⟨by omega, _, rfl, by rw [eR]; omega, _, er, hq⟩
theorem sc_q39 : FnScope ["_law_lines_here"] ["_law_lines_here"] (defScope s_q39) := ⟨rfl, rfl, rfl, by decide +kernel, rfl, by decide +kernel, by decide +kernel⟩
set_option maxHeartbeats 4000000 in
theorem ok_q39 {fd : FuncData} (F : Fun K "_law_cells" "_law_cells" s_q39 ad.q39 fd) (T : Txt K mg ad) {fd_Lsign : FuncData} (B_Lsign : Binds K fd_Lsign ["_law_lines_here", "_law_cell"] []) (G_Lsign : FnOk P w K mg base CX0 1 ad.Lsign fd_Lsign ["_law_lines_here", "_law_cell"] (z340)) : FnOk P w K mg base CX0 2 ad.q39 fd ["_law_lines_here"] (z310) := by
  refine F.ok sc_q39 (fun vs H Q E h => ?_) (fun cdv A outer s H vs Q E HR h => ?_)
  · obtain ⟨l, w, h, sg, rfl, _⟩ := h
    rfl
  · obtain ⟨l, w, h, sg, rfl, hL, g, hq⟩ := h
    have ND := sc_q39.nd
    have HU0 := HR.units0
    have HU := HR.units
    have hA := HR.hd
    have hz : (100000 : Nat) ≤ sizeLine := by rw [sizeLine_eq]; decide
    refine ⟨_, (pss_one (ps_ret (z94 (z8.of (osc := defScope s_q39) (tn := ["_law_cell"]) (cn := ["_law_lines_here"]) (caps := [0]) rfl rfl (by decide +kernel) (by decide +kernel) (by decide +kernel) (by decide +kernel) rfl) (calm0 rfl)  (pi_range1 (gl_of z511) T.b_range (pa_cons (pe_op op_mul (pe_callB call_len_seq (gl_of z460) T.b_len PyProof.Rows.Boot.«len» (pa_cons (pe_var (i := 0) (x := "_law_lines_here") rfl (vis_of z58) y2 y3) pa_nil (stp rfl)) (hn := n_len) (hdb := d_len) (he := stp rfl) (hpl := anp rfl)) (pe_callB call_len_str (gl_of z460) T.b_len PyProof.Rows.Boot.«len» (pa_cons (pe_ix ix_list (pe_var (i := 0) (x := "_law_lines_here") rfl (vis_of z58) y2 y3) pe_int (fun _ _ => rfl)) pa_nil (stp rfl)) (hn := n_len) (hdb := d_len) (he := stp rfl) (hpl := anp rfl))) pa_nil (stp rfl)) (st1 rfl))
 (fun _ _ _ _ _ => (pg_name (i := 0) (show (["_law_cell", "_law_lines_here"] : List Str).Nodup by decide +kernel) rfl (Or.inl rfl))) (fun _ _ _ _ _ => (z95 (pt_cmpR op_ne (pe_call G_Lsign (HR.mono (by decide)) (by rfl) T.mg_Lsign T.k_Lsign B_Lsign .nil pass0 (pa_cons (pv 1) (pa_cons (pv 0) pa_nil (stp rfl)) (stp rfl)) (hdb := z37) (he := stp rfl) (hpl := anp rfl)) pe_str (nomark _)))) (fun _ _ _ _ _ => (pv 0))))), ?_⟩
    have w0 := g.w0
    have w1 := g.w1
    have h0 := g.h0
    have h1 := g.h1
    have len := g.len
    have l100 := len100 g
    have e0 : atI ((linesOf w h sg).map V.str) 0 = some (V.str (lineOf w sg 0)) := atI_nat (j := 0) (by rw [List.getElem?_map, z79 (by omega)]; rfl)
    have eL := z98 g (show 0 < h by omega)
    have em : ((h : Int) * (w : Int)) = ((sg.length : Nat) : Int) := by rw [len, Nat.mul_comm]; simp
    walk_at "RD"
    refine ⟨_, .inl (SqL.of hL), _, SqL.of hL, _, e0, _, rfl, by rw [eL]; omega, ?_⟩
    rw [eL, List.length_map, z264]
    refine ⟨.inl ⟨by omega, by omega⟩, by rw [em]; omega, by rw [em]; omega, ?_⟩
    rw [em, Int.toNat_natCast]
    refine z22 src_range (noWall sg) (fun v => v) (fun y hy Q hh => ?_) (fun y hy _ Q hh => ?_) (by rw [List.length_map, List.length_range]; omega) ?_
    · obtain ⟨i, hi, rfl⟩ := List.mem_map.mp hy
      have hi' := List.mem_range.mp hi
      walk_at "RD"
      refine ⟨l, w, h, sg, _, rfl, hL, g, by omega, by omega, rfl, ?_⟩
      have e : noWall sg (V.int (0 + ((i : Nat) : Int))) = !decide (chr1 (at_ sg (0 + ((i : Nat) : Int))) = V.str (Str.ofString "#")) := by
        show (!decide _) = _
        congr 1
        refine decide_eq_decide.mpr ⟨fun z => ?_, fun z => ?_⟩
        · show V.str _ = V.str _
          rw [(z455 _).mpr z]
        · exact (z455 _).mp (V.str.inj z)
      rw [e] at hh
      exact hh
    · walk_at "RD"
      exact hh
    · intro D hD
      have e : ((((List.range sg.length).map fun i => V.int (0 + ((i : Nat) : Int))).filter (noWall sg)).map fun v => v) = (cellsOf sg).map V.int := by
        rw [List.map_id', cellsOf, places]
        have : ((List.range sg.length).map fun i => V.int (0 + ((i : Nat) : Int))) = ((List.range sg.length).map fun i => ((i : Nat) : Int)).map V.int := by
          rw [List.map_map]
          refine List.map_congr_left fun i _ => ?_
          simp
        rw [this, List.filter_map]
        rfl
      rw [e]
      exact hq D _ hD (zz0 hD) upd_same
theorem sc_q34 : FnScope ["_law_lines_here", "_law_cell", "_law_wide", "_law_found", "_law_other", "_law_down", "_law_across"] ["_law_lines_here", "_law_cell"] (defScope s_q34) := ⟨rfl, rfl, rfl, by decide +kernel, rfl, by decide +kernel, by decide +kernel⟩
set_option maxHeartbeats 4000000 in
theorem ok_q34 {fd : FuncData} (F : Fun K "_law_beside" "_law_beside" s_q34 ad.q34 fd) (T : Txt K mg ad) {fd_q39 : FuncData} (B_q39 : Binds K fd_q39 ["_law_lines_here"] []) (G_q39 : FnOk P w K mg base CX0 2 ad.q39 fd_q39 ["_law_lines_here"] (z310)) : FnOk P w K mg base CX0 3 ad.q34 fd ["_law_lines_here", "_law_cell"] (z360) := by
  refine F.ok sc_q34 (fun vs H Q E h => ?_) (fun cdv A outer s H vs Q E HR h => ?_)
  · obtain ⟨l, w, h, sg, c, rfl, _⟩ := h
    rfl
  · obtain ⟨l, w, h, sg, c, rfl, hL, g, c0, c1, hq⟩ := h
    have ND := sc_q34.nd
    have HU0 := HR.units0
    have HU := HR.units
    have hA := HR.hd
    have hz : (100000 : Nat) ≤ sizeLine := by rw [sizeLine_eq]; decide
    refine ⟨_, (pss_cons (ps_set (i := 2) ND rfl (loc_of (Or.inl z185)) (pe_callB call_len_str (gl_of z617) T.b_len PyProof.Rows.Boot.«len» (pa_cons (pe_ix ix_list (pe_var (i := 0) (x := "_law_lines_here") rfl (vis_of z60) y2 y3) pe_int (fun _ _ => rfl)) pa_nil (stp rfl)) (hn := n_len) (hdb := d_len) (he := stp rfl) (hpl := anp rfl)))
 (pss_cons (ps_set (i := 3) ND rfl (loc_of (Or.inl z144)) (pe_lst pa_nil))
 (pss_cons (ps_for PassesOwn.never (calm0 rfl) (pi_list (pe_call G_q39 (HR.mono (by decide)) (gl_of z267) T.mg_q39 T.k_q39 B_q39 .nil pass0 (pa_cons (pe_var (i := 0) (x := "_law_lines_here") rfl (vis_of z60) y2 y3) pa_nil (stp rfl)) (hdb := z193) (he := stp rfl) (hpl := anp rfl))) (pg_name (i := 4) ND rfl (loc_of (Or.inl z123)))
 (pss_cons (ps_set (i := 5) ND rfl (loc_of (Or.inl z184)) (pe_op op_sub (pe_op op_fdiv (pe_var (i := 4) (x := "_law_other") rfl (vis_of z70) z21 z23) (pe_var (i := 2) (x := "_law_wide") rfl (vis_of z47) z92 z96)) (pe_op op_fdiv (pe_var (i := 1) (x := "_law_cell") rfl (vis_of z183) z11 z10) (pe_var (i := 2) (x := "_law_wide") rfl (vis_of z47) z92 z96))))
 (pss_cons (ps_set (i := 6) ND rfl (loc_of (Or.inl z112)) (pe_op op_sub (pe_op op_mod (pe_var (i := 4) (x := "_law_other") rfl (vis_of z70) z21 z23) (pe_var (i := 2) (x := "_law_wide") rfl (vis_of z47) z92 z96)) (pe_op op_mod (pe_var (i := 1) (x := "_law_cell") rfl (vis_of z183) z11 z10) (pe_var (i := 2) (x := "_law_wide") rfl (vis_of z47) z92 z96))))
 (pss_one (ps_if (pt_cmpR op_eq (pe_op op_add (pe_op op_mul (pe_var (i := 5) (x := "_law_down") rfl (vis_of z167) z336 z358) (pe_var (i := 5) (x := "_law_down") rfl (vis_of z167) z336 z358)) (pe_op op_mul (pe_var (i := 6) (x := "_law_across") rfl (vis_of z117) z238 z239) (pe_var (i := 6) (x := "_law_across") rfl (vis_of z117) z238 z239))) pe_int (nomark _))
 (pss_one (ps_expr (pe_bm PySem.F.plainAttrs_list PySem.F.slot_list_append PySem.F.type_list_append mt_append (pe_var (i := 3) (x := "_law_found") rfl (vis_of z146) z7 z6) (pa_cons (pe_var (i := 4) (x := "_law_other") rfl (vis_of z70) z21 z23) pa_nil (stp rfl)))))
 pss_nil)))))
 (pss_one (ps_ret (pe_var (i := 3) (x := "_law_found") rfl (vis_of z146) z7 z6)))))), ?_⟩
    have w0 := g.w0
    have w1 := g.w1
    have h0 := g.h0
    have l100 := len100 g
    have e0 : atI ((linesOf w h sg).map V.str) 0 = some (V.str (lineOf w sg 0)) := atI_nat (j := 0) (by rw [List.getElem?_map, z79 (by omega)]; rfl)
    have eL := z98 g (show 0 < h by omega)
    have clen : (cellsOf sg).length ≤ 100 := by
      unfold cellsOf places
      refine Nat.le_trans (List.length_filter_le _ _) ?_
      rw [List.length_map, List.length_range]; omega
    walk_at "RD"
    refine ⟨_, SqL.of hL, _, e0, _, rfl, by rw [eL]; omega, Nat.zero_le _, fun f nf => ⟨l, w, h, sg, rfl, zz0 nf _ _ hL, g, fun r H1 nr s1 hr => ⟨_, rfl, ⟨_, SqL.of hr⟩, ?_⟩⟩⟩
    rw [eL]
    have sf : Same H (upd H f (HO.lst [])) := zz0 nf
    refine for_list (K := K) (a := r) (xs := (cellsOf sg).map V.int) (fun i σ H' => ∃ x y z, Same H H' ∧ H' r = some (.lst ((cellsOf sg).map V.int)) ∧ H' f = some (.lst ((((cellsOf sg).take i).filter fun o => decide ((o / w - c / w) * (o / w - c / w) + (o % w - c % w) * (o % w - c % w) = 1)).map V.int)) ∧ σ = [some (V.ref l), some (V.int c), some (V.int (w : Int)), some (V.ref f), x, y, z])
      ⟨none, none, none, sf.trans s1, hr, s1 _ _ upd_same, rfl⟩ (fun i σ H' _ ⟨_, _, _, _, hr', _, _⟩ => SqL.of hr') ?_ ?_
    · rintro i y σ H' hi ⟨x0, y0, z0, sm, hr', hf', rfl⟩
      rw [List.getElem?_map] at hi
      obtain ⟨o, ho, rfl⟩ := Option.map_eq_some_iff.mp hi
      have ho' := z263.mp (List.mem_of_getElem? ho)
      have o0 : 0 ≤ o ∧ o < sg.length := by
        unfold hasI at ho'
        simp only [Bool.and_eq_true, decide_eq_true_eq] at ho'
        exact ho'.1
      walk_at "RD"
      obtain ⟨a1, a2, a3, a4, _⟩ := z515 g o0.1 o0.2
      obtain ⟨b1, b2, b3, b4, _⟩ := z515 g c0 c1
      have h1 := g.h1
      have nrf : r ≠ f := fun z => by
        rw [z, upd_same] at nr
        cases nr
      have tk : (cellsOf sg).take (i + 1) = (cellsOf sg).take i ++ [o] := by rw [List.take_add_one, ho]; rfl
      refine ⟨⟨by omega, by omega⟩, ⟨by omega, by omega⟩, by omega, by omega, .inl ⟨by omega, by omega⟩, .inl ⟨by omega, by omega⟩, ?_⟩
      split
      · rename_i hc
        refine ⟨.inl ⟨rfl, _, SqL.of hf'⟩, _, hf', ?_, z359 sm nf, ?_, ?_, _, rfl⟩
        · rw [List.length_map]
          refine Nat.lt_of_le_of_lt (List.length_filter_le _ _) ?_
          rw [List.length_take]; omega
        · rw [upd_ne nrf]; exact hr'
        · rw [upd_same, tk, List.filter_append, List.map_append, List.filter_cons, if_pos (decide_eq_true hc)]
          rfl
      · rename_i hc
        refine ⟨sm, hr', ?_, _, rfl⟩
        rw [hf', tk, List.filter_append, List.filter_cons, if_neg (by rw [decide_eq_true_eq]; exact hc)]
        simp
    · rintro σ H' ⟨x0, y0, z0, sm, hr', hf', rfl⟩
      walk_at "RD"
      refine hq f H' nf sm ?_
      rw [hf', List.length_map, List.take_length]
      rfl
theorem sc_q35 : FnScope ["_law_kind", "_law_sign_here"] ["_law_kind", "_law_sign_here"] (defScope s_q35) := ⟨rfl, rfl, rfl, by decide +kernel, rfl, by decide +kernel, by decide +kernel⟩
set_option maxHeartbeats 4000000 in
theorem ok_q35 {fd : FuncData} (F : Fun K "_law_stands" "_law_stands" s_q35 ad.q35 fd) (T : Txt K mg ad) : FnOk P w K mg base CX0 1 ad.q35 fd ["_law_kind", "_law_sign_here"] (z293) := by
  refine F.ok sc_q35 (fun vs H Q E h => ?_) (fun cdv A outer s H vs Q E HR h => ?_)
  · obtain ⟨i, c, x, rfl, _⟩ := h
    rfl
  · obtain ⟨i, c, x, rfl, hi, hq⟩ := h
    have ND := sc_q35.nd
    have HU0 := HR.units0
    have HU := HR.units
    have hA := HR.hd
    have hz : (100000 : Nat) ≤ sizeLine := by rw [sizeLine_eq]; decide
    refine ⟨_, (pss_one (ps_ret (pe_or (pe_cmpR z457 (pe_var (i := 1) (x := "_law_sign_here") rfl (vis_of z68) z134 z131) pe_str (by with_unfolding_all rfl)) (pe_one (pe_and (pe_cmpR op_eq (pe_var (i := 0) (x := "_law_kind") rfl (vis_of z316) z36 z35) pe_str (nomark _)) (pe_one (pe_cmpR op_eq (pe_var (i := 1) (x := "_law_sign_here") rfl (vis_of z68) z134 z131) pe_str (nomark _)))))))), ?_⟩
    obtain ⟨k1, k2, k3⟩ := kx i x hi
    walk_at "RD"
    refine ⟨c, rfl, ?_⟩
    by_cases e : common c = true
    · rw [if_pos (z373.mpr e)]
      have e2 : stands i c = true := by simp [stands, e]
      rw [← e2]
      exact hq
    · rw [if_neg (fun z => e (z373.mp z))]
      rw [Bool.not_eq_true] at e
      by_cases e1 : i = 1
      · rw [if_pos (k1.mpr e1)]
        refine ⟨rfl, ?_⟩
        have e2 : decide (chr1 c = V.str (Str.ofString "~")) = stands i c := by
          simp only [stands, e, Bool.false_or, decide_eq_true e1, Bool.true_and]
          exact decide_eq_decide.mpr q126
        rw [e2]
        exact hq
      · rw [if_neg (fun z => e1 (k1.mp z))]
        have e2 : stands i c = false := by simp [stands, e, e1]
        rw [← e2]
        exact hq
theorem z523 : FnScope ["_law_kind", "_law_lines_here", "_law_cell", "_law_other"] ["_law_kind", "_law_lines_here", "_law_cell", "_law_other"] (defScope z49) := ⟨rfl, rfl, rfl, by decide +kernel, rfl, by decide +kernel, by decide +kernel⟩
set_option maxHeartbeats 4000000 in
theorem z674 {fd : FuncData} (F : Fun K "_law_cost" "_law_cost" z49 ad.Lcost fd) (T : Txt K mg ad) {fd_q35 : FuncData} (B_q35 : Binds K fd_q35 ["_law_kind", "_law_sign_here"] []) (G_q35 : FnOk P w K mg base CX0 1 ad.q35 fd_q35 ["_law_kind", "_law_sign_here"] (z293)) {fd_Lsign : FuncData} (B_Lsign : Binds K fd_Lsign ["_law_lines_here", "_law_cell"] []) (G_Lsign : FnOk P w K mg base CX0 1 ad.Lsign fd_Lsign ["_law_lines_here", "_law_cell"] (z340)) : FnOk P w K mg base CX0 2 ad.Lcost fd ["_law_kind", "_law_lines_here", "_law_cell", "_law_other"] (z538) := by
  refine F.ok z523 (fun vs H Q E h => ?_) (fun cdv A outer s H vs Q E HR h => ?_)
  · obtain ⟨x, i, l, w, h, sg, cell, other, rfl, _⟩ := h
    rfl
  · obtain ⟨x, i, l, w, h, sg, cell, other, rfl, hi, hL, g, c01, o01, hq⟩ := h
    have ND := z523.nd
    have HU0 := HR.units0
    have HU := HR.units
    have hA := HR.hd
    have hz : (100000 : Nat) ≤ sizeLine := by rw [sizeLine_eq]; decide
    refine ⟨_, (pss_cons (ps_if (pt_not (pt_val (pe_call G_q35 (HR.mono (by decide)) (gl_of z204) T.mg_q35 T.k_q35 B_q35 .nil pass0 (pa_cons (pe_var (i := 0) (x := "_law_kind") rfl (vis_of z52) z36 z35) (pa_cons (pe_call G_Lsign (HR.mono (by decide)) (gl_of z32) T.mg_Lsign T.k_Lsign B_Lsign .nil pass0 (pa_cons (pe_var (i := 1) (x := "_law_lines_here") rfl (vis_of z9) y2 y3) (pa_cons (pe_var (i := 3) (x := "_law_other") rfl (vis_of z29) z21 z23) pa_nil (stp rfl)) (stp rfl)) (hdb := z37) (he := stp rfl) (hpl := anp rfl)) pa_nil (stp rfl)) (stp rfl)) (hdb := z149) (he := stp rfl) (hpl := anp rfl))))
 (pss_one (ps_ret pe_non))
 pss_nil)
 (pss_cons (ps_if (PW.pt (pw_and (pt_cmpR op_eq (pe_var (i := 0) (x := "_law_kind") rfl (vis_of z52) z36 z35) pe_str (nomark _)) (pw_and1 (pt_cmpR op_eq (pe_call G_Lsign (HR.mono (by decide)) (gl_of z32) T.mg_Lsign T.k_Lsign B_Lsign .nil pass0 (pa_cons (pe_var (i := 1) (x := "_law_lines_here") rfl (vis_of z9) y2 y3) (pa_cons (pe_var (i := 3) (x := "_law_other") rfl (vis_of z29) z21 z23) pa_nil (stp rfl)) (stp rfl)) (hdb := z37) (he := stp rfl) (hpl := anp rfl)) pe_str (nomark _)))))
 (pss_one (ps_ret pe_int))
 pss_nil)
 (pss_cons (ps_if (PW.pt (pw_or (pt_cmpR op_ne (pe_var (i := 0) (x := "_law_kind") rfl (vis_of z52) z36 z35) pe_str (nomark _)) (pw_or1 (pt_cmpR op_eq (pe_op op_fdiv (pe_var (i := 2) (x := "_law_cell") rfl (vis_of z118) z11 z10) (pe_callB call_len_str (gl_of z351) T.b_len PyProof.Rows.Boot.«len» (pa_cons (pe_ix ix_list (pe_var (i := 1) (x := "_law_lines_here") rfl (vis_of z9) y2 y3) pe_int (fun _ _ => rfl)) pa_nil (stp rfl)) (hn := n_len) (hdb := d_len) (he := stp rfl) (hpl := anp rfl))) (pe_op op_fdiv (pe_var (i := 3) (x := "_law_other") rfl (vis_of z29) z21 z23) (pe_callB call_len_str (gl_of z351) T.b_len PyProof.Rows.Boot.«len» (pa_cons (pe_ix ix_list (pe_var (i := 1) (x := "_law_lines_here") rfl (vis_of z9) y2 y3) pe_int (fun _ _ => rfl)) pa_nil (stp rfl)) (hn := n_len) (hdb := d_len) (he := stp rfl) (hpl := anp rfl))) (nomark _)))))
 (pss_one (ps_ret pe_int))
 pss_nil)
 (pss_cons (ps_if (PW.pt (pw_or (pt_cmpR op_eq (pe_call G_Lsign (HR.mono (by decide)) (gl_of z32) T.mg_Lsign T.k_Lsign B_Lsign .nil pass0 (pa_cons (pe_var (i := 1) (x := "_law_lines_here") rfl (vis_of z9) y2 y3) (pa_cons (pe_var (i := 2) (x := "_law_cell") rfl (vis_of z118) z11 z10) pa_nil (stp rfl)) (stp rfl)) (hdb := z37) (he := stp rfl) (hpl := anp rfl)) pe_str (nomark _)) (pw_or1 (pt_cmpR op_eq (pe_call G_Lsign (HR.mono (by decide)) (gl_of z32) T.mg_Lsign T.k_Lsign B_Lsign .nil pass0 (pa_cons (pe_var (i := 1) (x := "_law_lines_here") rfl (vis_of z9) y2 y3) (pa_cons (pe_var (i := 3) (x := "_law_other") rfl (vis_of z29) z21 z23) pa_nil (stp rfl)) (stp rfl)) (hdb := z37) (he := stp rfl) (hpl := anp rfl)) pe_str (nomark _)))))
 (pss_one (ps_ret pe_int))
 pss_nil)
 (pss_one (ps_ret pe_non)))))), ?_⟩
    obtain ⟨k1, k2, k3⟩ := kx i x hi
    have w0 := g.w0
    walk_at "RD"
    refine ⟨l, w, h, sg, other, rfl, hL, g, o01.1, o01.2, i, _, x, rfl, hi, _, rfl, ?_⟩
    unfold z78 at hq
    by_cases e : stands i (at_ sg other) = true
    · rw [if_neg (by rw [e]; decide)]
      rw [if_pos e] at hq
      have h0 := g.h0
      have e0 : atI ((linesOf w h sg).map V.str) 0 = some (V.str (lineOf w sg 0)) := atI_nat (j := 0) (by rw [List.getElem?_map, z79 (by omega)]; rfl)
      have eL := z98 g (show 0 < h by omega)
      have w1 := g.w1
      by_cases e1 : i = 1
      · rw [if_pos (k1.mpr e1)]
        refine ⟨l, w, h, sg, other, rfl, hL, g, o01.1, o01.2, rfl, ?_⟩
        subst e1
        simp only [fareOf] at hq
        by_cases e3 : at_ sg other = 126
        · rw [if_pos (q126.mpr e3)]
          rw [if_pos e3] at hq
          exact hq
        · rw [if_neg (fun z => e3 (q126.mp z)), if_pos (fun z => by have := k2.mp z; omega)]
          rw [if_neg e3] at hq
          exact hq
      · rw [if_neg (fun z => e1 (k1.mp z))]
        by_cases e2 : i = 2
        · rw [if_neg (fun z => z (k2.mpr e2))]
          refine ⟨_, SqL.of hL, _, e0, _, rfl, by rw [eL]; omega, by rw [eL]; exact ⟨by omega, by omega⟩, _, SqL.of hL, _, e0, _, rfl, by rw [eL]; omega, by rw [eL]; exact ⟨by omega, by omega⟩, ?_⟩
          rw [eL]
          subst e2
          simp only [fareOf] at hq
          by_cases e3 : cell / (w : Int) = other / (w : Int)
          · rw [if_pos e3] at hq ⊢
            exact hq
          · rw [if_neg e3] at hq ⊢
            refine ⟨l, w, h, sg, cell, rfl, hL, g, c01.1, c01.2, rfl, ?_⟩
            by_cases e4 : at_ sg cell = 124
            · rw [if_pos (q124.mpr e4)]
              rw [if_pos (.inl e4)] at hq
              exact hq
            · rw [if_neg (fun z => e4 (q124.mp z))]
              refine ⟨l, w, h, sg, other, rfl, hL, g, o01.1, o01.2, rfl, ?_⟩
              by_cases e5 : at_ sg other = 124
              · rw [if_pos (q124.mpr e5)]
                rw [if_pos (.inr e5)] at hq
                exact hq
              · rw [if_neg (fun z => e5 (q124.mp z))]
                rw [if_neg (by rintro (z | z); exact e4 z; exact e5 z)] at hq
                exact hq
        · rw [if_pos (fun z => e2 (k2.mp z))]
          have ef : fareOf i w sg cell other = some 1 := by
            match i, e1, e2 with
            | 0, _, _ => rfl
            | 1, a, _ => exact absurd rfl a
            | 2, _, b => exact absurd rfl b
            | (i + 3), _, _ => rfl
          rw [ef] at hq
          exact hq
    · rw [Bool.not_eq_true] at e
      rw [if_pos e]
      rw [if_neg (by rw [e]; decide)] at hq
      exact hq
theorem sc_q40 : FnScope ["_law_kind", "_law_lines_here", "_law_cell", "_law_found", "_law_other", "_law_taken"] ["_law_kind", "_law_lines_here", "_law_cell"] (defScope s_q40) := ⟨rfl, rfl, rfl, by decide +kernel, rfl, by decide +kernel, by decide +kernel⟩
set_option maxHeartbeats 4000000 in
theorem ok_q40 {fd : FuncData} (F : Fun K "_law_steps" "_law_steps" s_q40 ad.q40 fd) (T : Txt K mg ad) {fd_q34 : FuncData} (B_q34 : Binds K fd_q34 ["_law_lines_here", "_law_cell"] []) (G_q34 : FnOk P w K mg base CX0 3 ad.q34 fd_q34 ["_law_lines_here", "_law_cell"] (z360)) {fd_Lcost : FuncData} (B_Lcost : Binds K fd_Lcost ["_law_kind", "_law_lines_here", "_law_cell", "_law_other"] []) (G_Lcost : FnOk P w K mg base CX0 2 ad.Lcost fd_Lcost ["_law_kind", "_law_lines_here", "_law_cell", "_law_other"] (z538)) : FnOk P w K mg base CX0 4 ad.q40 fd ["_law_kind", "_law_lines_here", "_law_cell"] (z429) := by
  refine F.ok sc_q40 (fun vs H Q E h => ?_) (fun cdv A outer s H vs Q E HR h => ?_)
  · obtain ⟨x, i, l, w, h, sg, cell, rfl, _⟩ := h
    rfl
  · obtain ⟨x, i, l, w, h, sg, cell, rfl, hi, hL, g, c01, hq⟩ := h
    have ND := sc_q40.nd
    have HU0 := HR.units0
    have HU := HR.units
    have hA := HR.hd
    have hz : (100000 : Nat) ≤ sizeLine := by rw [sizeLine_eq]; decide
    refine ⟨_, (pss_cons (ps_set (i := 3) ND rfl (loc_of (Or.inl z127)) (pe_lst pa_nil))
 (pss_cons (ps_for PassesOwn.never (calm0 rfl) (pi_list (pe_call G_q34 (HR.mono (by decide)) (gl_of z248) T.mg_q34 T.k_q34 B_q34 .nil pass0 (pa_cons (pe_var (i := 1) (x := "_law_lines_here") rfl (vis_of z63) y2 y3) (pa_cons (pe_var (i := 2) (x := "_law_cell") rfl (vis_of z168) z11 z10) pa_nil (stp rfl)) (stp rfl)) (hdb := z415) (he := stp rfl) (hpl := anp rfl))) (pg_name (i := 4) ND rfl (loc_of (Or.inl z128)))
 (pss_cons (ps_set (i := 5) ND rfl (loc_of (Or.inl z137)) (pe_call G_Lcost (HR.mono (by decide)) (gl_of z315) T.mg_Lcost T.k_Lcost B_Lcost .nil pass0 (pa_cons (pe_var (i := 0) (x := "_law_kind") rfl (vis_of z324) z36 z35) (pa_cons (pe_var (i := 1) (x := "_law_lines_here") rfl (vis_of z63) y2 y3) (pa_cons (pe_var (i := 2) (x := "_law_cell") rfl (vis_of z168) z11 z10) (pa_cons (pe_var (i := 4) (x := "_law_other") rfl (vis_of z122) z21 z23) pa_nil (stp rfl)) (stp rfl)) (stp rfl)) (stp rfl)) (hdb := z484) (he := stp rfl) (hpl := anp rfl)))
 (pss_one (ps_if (pt_cmpR op_notN (pe_var (i := 5) (x := "_law_taken") rfl (vis_of z132) z304 z296) pe_non (nomark _))
 (pss_one (ps_expr (pe_bm PySem.F.plainAttrs_list PySem.F.slot_list_append PySem.F.type_list_append mt_append (pe_var (i := 3) (x := "_law_found") rfl (vis_of z133) z7 z6) (pa_cons (pe_tup (pa_cons (pe_var (i := 4) (x := "_law_other") rfl (vis_of z122) z21 z23) (pa_cons (pe_var (i := 5) (x := "_law_taken") rfl (vis_of z132) z304 z296) pa_nil (stp rfl)) (stp rfl))) pa_nil (stp rfl)))))
 pss_nil))))
 (pss_one (ps_ret (pe_var (i := 3) (x := "_law_found") rfl (vis_of z133) z7 z6))))), ?_⟩
    have be := z464 g c01.1 c01.2
    rw [← be] at hq
    have bl := z312 (w := w) (sg := sg) (c := cell)
    walk_at "RD"
    refine ⟨by omega, fun p hp => ⟨l, w, h, sg, cell, rfl, (zz0 hp) _ _ hL, g, c01.1, c01.2, fun r H1 hr s1 h3 => ?_⟩⟩
    rw [← be] at h3
    have nrp : r ≠ p := fun z => by rw [z, upd_same] at hr; cases hr
    have nlp : l ≠ p := ne_of_none hL hp
    refine ⟨r, rfl, ⟨_, SqL.of h3⟩, for_list (K := K) (a := r) (xs := (z14 w sg cell).map V.int) (fun j σ H' => ∃ x4 x5 ts, H' p = some (.lst (ts.map V.ref)) ∧ Paired (PairAt H') ts (pairsOf (z78 i w sg cell) ((z14 w sg cell).take j)) ∧ (∀ b o, H1 b = some o → b ≠ p → H' b = some o) ∧ σ = [some (.str x), some (.ref l), some (.int cell), some (.ref p), x4, x5]) ⟨none, none, [], s1 _ _ upd_same, .nil, fun _ _ z _ => z, rfl⟩ ?_ ?_ ?_⟩
    · rintro j σ H' _ ⟨_, _, _, _, _, fr, _⟩
      exact SqL.of (fr _ _ h3 nrp)
    · rintro j v σ H' hv ⟨x4, x5, ts, hp', pr, fr, rfl⟩
      rw [List.getElem?_map] at hv
      obtain ⟨o, ho, rfl⟩ := Option.map_eq_some_iff.mp hv
      have hm : o ∈ z14 w sg cell := List.mem_of_getElem? ho
      have lt : ts.length ≤ 4 := by
        have h1 := Paired.length pr
        have h2 := List.length_filterMap_le (fun o => (z78 i w sg cell o).map fun k => (o, k)) ((z14 w sg cell).take j)
        rw [List.length_take] at h2
        unfold pairsOf at h1
        omega
      have hL' : z50 H' l w h sg := fr _ _ (s1 _ _ ((zz0 hp) _ _ hL)) nlp
      walk_at "RD"
      refine ⟨x, i, l, w, h, sg, cell, o, rfl, hi, hL', g, c01, z451 g hm, ?_⟩
      have tk : pairsOf (z78 i w sg cell) ((z14 w sg cell).take (j + 1)) = pairsOf (z78 i w sg cell) ((z14 w sg cell).take j) ++ ((z78 i w sg cell o).map fun k => (o, k)).toList := by
        rw [List.take_add_one, ho]
        unfold pairsOf
        rw [Option.toList_some, List.filterMap_append, List.filterMap_cons]
        cases z78 i w sg cell o <;> rfl
      rw [tk]
      cases z : z78 i w sg cell o with
      | none =>
        show if ¬ V.non = V.non then _ else _
        rw [if_neg (fun z => z rfl)]
        refine ⟨_, _, ts, hp', ?_, fr, rfl, rfl⟩
        simpa using pr
      | some n =>
        show if ¬ V.int n = V.non then _ else _
        rw [if_pos (by simp)]
        refine ⟨.inl ⟨rfl, _, SqL.of hp'⟩, by omega, fun t ht => ⟨_, (zz0 ht) _ _ hp', by simp; omega, ?_⟩⟩
        have ntp : t ≠ p := fun e => by rw [e, hp'] at ht; cases ht
        refine ⟨_, _, ts ++ [t], by rw [upd_same]; simp, ?_, fun b u e nb => by rw [upd_ne nb]; exact (zz0 ht) _ _ (fr _ _ e nb), rfl, rfl⟩
        refine Paired.snoc (Paired.mapP pr fun a q e => ?_) ?_
        · have ne : a ≠ p := fun e2 => by rw [e2] at e; exact absurd (hp'.symm.trans e) (by simp)
          show upd _ _ _ a = _
          rw [upd_ne ne]
          exact (zz0 ht) _ _ e
        · show upd _ _ _ t = _
          rw [upd_ne ntp, upd_same]
          rfl
    · rintro σ H' ⟨x4, x5, ts, hp', pr, fr, rfl⟩
      rw [List.length_map, List.take_length] at pr
      walk_at "RD"
      refine hq p _ hp (fun b u e => ?_) ⟨ts, hp', pr⟩
      exact fr _ _ (s1 _ _ ((zz0 hp) _ _ e)) (ne_of_none e hp)
theorem sc_q22 : FnScope ["self"] ["self"] (defScope s_q22) := ⟨rfl, rfl, rfl, by decide +kernel, rfl, by decide +kernel, by decide +kernel⟩
set_option maxHeartbeats 4000000 in
theorem ok_q22 {fd : FuncData} (F : Fun K "__init__" "Heap.__init__" s_q22 ad.q22 fd) (T : Txt K mg ad) : FnOk P w K mg base CX0 1 ad.q22 fd ["self"] (z536 ad) := by
  refine F.ok sc_q22 (fun vs H Q E h => ?_) (fun cdv A outer s H vs Q E HR h => ?_)
  · obtain ⟨p, dx, rfl, _⟩ := h
    rfl
  · obtain ⟨p, dx, rfl, hp, hq⟩ := h
    have ND := sc_q22.nd
    have HU0 := HR.units0
    have HU := HR.units
    have hA := HR.hd
    have hz : (100000 : Nat) ≤ sizeLine := by rw [sizeLine_eq]; decide
    refine ⟨_, (pss_one (ps_fld (pe_var (i := 0) (x := "self") rfl (vis_of z545) d_self e_self) (pe_lst pa_nil) rfl)), ?_⟩
    walk_at "RD"
    refine ⟨Nat.zero_le _, fun l nl => ⟨_, _, _, (zz0 nl) _ _ hp, T.cl_Heap, T.n_Heap_things, by show 0 < 1000; decide, hq l nl⟩⟩
theorem sc_q25 : FnScope ["self", "place", "other", "kept"] ["self", "place", "other"] (defScope s_q25) := ⟨rfl, rfl, rfl, by decide +kernel, rfl, by decide +kernel, by decide +kernel⟩
set_option maxHeartbeats 4000000 in
theorem ok_q25 {fd : FuncData} (F : Fun K "swap" "Heap.swap" s_q25 ad.q25 fd) (T : Txt K mg ad) : FnOk P w K mg base CX0 1 ad.q25 fd ["self", "place", "other"] (spSwap ad) := by
  refine F.ok sc_q25 (fun vs H Q E h => ?_) (fun cdv A outer s H vs Q E HR h => ?_)
  · obtain ⟨hp, l, ts, p, a, x, y, rfl, _⟩ := h
    rfl
  · obtain ⟨hp, l, ts, p, a, x, y, rfl, hh, hx, hy, hq⟩ := h
    have ND := sc_q25.nd
    have HU0 := HR.units0
    have HU := HR.units
    have hA := HR.hd
    have hz : (100000 : Nat) ≤ sizeLine := by rw [sizeLine_eq]; decide
    refine ⟨_, (pss_cons (ps_set (i := 3) ND rfl (loc_of (Or.inl z407)) (pe_ix ix_list (pe_fld (pe_var (i := 0) (x := "self") rfl (vis_of z219) d_self e_self) (by rfl)) (pe_var (i := 1) (x := "place") rfl (vis_of z347) z116 z108) (fun _ _ => rfl)))
 (pss_cons (ps_asg (pe_ix ix_list (pe_fld (pe_var (i := 0) (x := "self") rfl (vis_of z219) d_self e_self) (by rfl)) (pe_var (i := 2) (x := "other") rfl (vis_of z337) z215 z200) (fun _ _ => rfl)) (pg_sub (pe_fld (pe_var (i := 0) (x := "self") rfl (vis_of z219) d_self e_self) (by rfl)) (pe_var (i := 1) (x := "place") rfl (vis_of z347) z116 z108) set_list))
 (pss_one (ps_asg (pe_var (i := 3) (x := "kept") rfl (vis_of z526) d_kept e_kept) (pg_sub (pe_fld (pe_var (i := 0) (x := "self") rfl (vis_of z219) d_self e_self) (by rfl)) (pe_var (i := 2) (x := "other") rfl (vis_of z337) z215 z200) set_list))))), ?_⟩
    obtain ⟨⟨dx, e1⟩, e2⟩ := id hh
    have lx := z28 hx
    have ly := z28 hy
    have lm : (ts.map V.ref).length = ts.length := List.length_map _
    refine z4 (fun σ H' => H' = H ∧ σ = [some (V.ref hp), some (V.int (p : Int)), some (V.int (a : Int)), some (V.ref x)]) (fun nx hk => ?_) ?_
    · walk_at "RD"
      exact ⟨_, _, _, e1, T.cl_Heap, T.n_Heap_things, _, z16 l, l, rfl, _, SqL.of e2, _, at_ref hx, hk _ _ ⟨rfl, rfl⟩⟩
    rintro σ H1 ⟨rfl, rfl⟩
    have ne : hp ≠ l := ne_of e1 e2 (fun z => by cases z)
    refine z4 (fun σ H' => H' = upd H1 l (.lst ((ts.map V.ref).set p (V.ref y))) ∧ σ = [some (V.ref hp), some (V.int (p : Int)), some (V.int (a : Int)), some (V.ref x)]) (fun nx hk => ?_) ?_
    · walk_at "RD"
      exact ⟨_, _, _, e1, T.cl_Heap, T.n_Heap_things, _, z16 l, l, rfl, _, SqL.of e2, _, at_ref hy, _, _, _, e1, T.cl_Heap, T.n_Heap_things, _, z16 l, l, rfl, _, e2, _, by rw [lm]; exact z672 lx, hk _ _ ⟨rfl, rfl⟩⟩
    rintro σ H2 ⟨rfl, rfl⟩
    walk_at "RD"
    refine ⟨_, _, _, by rw [upd_ne ne]; exact e1, T.cl_Heap, T.n_Heap_things, _, z16 l, l, rfl, _, upd_same, _, by rw [List.length_set, lm]; exact z672 ly, ?_⟩
    rw [upd_upd, z710]
    exact hq
theorem sc_q1 : FnScope ["self", "place", "below"] ["self", "place"] (defScope s_q1) := ⟨rfl, rfl, rfl, by decide +kernel, rfl, by decide +kernel, by decide +kernel⟩
set_option maxHeartbeats 4000000 in
theorem ok_q1 {fd : FuncData} (F : Fun K "lesser_below" "Heap.lesser_below" s_q1 ad.q1 fd) (T : Txt K mg ad) : FnOk P w K mg base CX0 1 ad.q1 fd ["self", "place"] (z434 ad) := by
  refine F.ok sc_q1 (fun vs H Q E h => ?_) (fun cdv A outer s H vs Q E HR h => ?_)
  · obtain ⟨hp, l, ts, k, p, rfl, _⟩ := h
    rfl
  · obtain ⟨hp, l, ts, k, p, rfl, hh, hk, tl, pl, hn, hq⟩ := h
    have ND := sc_q1.nd
    have HU0 := HR.units0
    have HU := HR.units
    have hA := HR.hd
    have hz : (100000 : Nat) ≤ sizeLine := by rw [sizeLine_eq]; decide
    refine ⟨_, (pss_cons (ps_set (i := 2) ND rfl (loc_of (Or.inl z403)) (pe_op op_add (pe_op op_mul pe_int (pe_var (i := 1) (x := "place") rfl (vis_of z544) z116 z108)) pe_int))
 (pss_cons (ps_if (pt_cmpR op_ge (pe_var (i := 2) (x := "below") rfl (vis_of z90) z177 z176) (pe_callB call_len_seq (gl_of z603) T.b_len PyProof.Rows.Boot.«len» (pa_cons (pe_fld (pe_var (i := 0) (x := "self") rfl (vis_of z266) d_self e_self) (by rfl)) pa_nil (stp rfl)) (hn := n_len) (hdb := d_len) (he := stp rfl) (hpl := anp rfl)) (nomark _))
 (pss_one (ps_ret pe_non))
 pss_nil)
 (pss_cons (ps_if (PW.pt (pw_and (pt_cmpR op_lt (pe_op op_add (pe_var (i := 2) (x := "below") rfl (vis_of z90) z177 z176) pe_int) (pe_callB call_len_seq (gl_of z603) T.b_len PyProof.Rows.Boot.«len» (pa_cons (pe_fld (pe_var (i := 0) (x := "self") rfl (vis_of z266) d_self e_self) (by rfl)) pa_nil (stp rfl)) (hn := n_len) (hdb := d_len) (he := stp rfl) (hpl := anp rfl)) (nomark _)) (pw_and1 (pt_cmpR (op_ltT HU0) (pe_ix ix_list (pe_fld (pe_var (i := 0) (x := "self") rfl (vis_of z266) d_self e_self) (by rfl)) (pe_op op_add (pe_var (i := 2) (x := "below") rfl (vis_of z90) z177 z176) pe_int) (fun _ _ => rfl)) (pe_ix ix_list (pe_fld (pe_var (i := 0) (x := "self") rfl (vis_of z266) d_self e_self) (by rfl)) (pe_var (i := 2) (x := "below") rfl (vis_of z90) z177 z176) (fun _ _ => rfl)) (nomark _)))))
 (pss_one (ps_ret (pe_op op_add (pe_var (i := 2) (x := "below") rfl (vis_of z90) z177 z176) pe_int)))
 pss_nil)
 (pss_one (ps_ret (pe_var (i := 2) (x := "below") rfl (vis_of z90) z177 z176)))))), ?_⟩
    obtain ⟨⟨dx, e1⟩, e2⟩ := id hh
    have lm : (ts.map V.ref).length = ts.length := List.length_map _
    have key : ∀ {i : Nat} {x : Addr}, ts[i]? = some x → H x = some (.tup ((k x).map V.int)) := fun h => hk _ (List.mem_of_getElem? h)
    walk_at "RD"
    refine ⟨.inl ⟨by decide, by decide⟩, _, _, _, e1, T.cl_Heap, T.n_Heap_things, _, z16 l, l, rfl, _, .inl (SqL.of e2), ?_⟩
    rw [lm]
    by_cases b1 : ((ts.length : Nat) : Int) ≤ 2 * (p : Int) + 1
    · rw [if_pos b1]
      exact hn fun i i0 ip => List.getElem?_eq_none (by omega)
    · rw [if_neg b1]
      refine ⟨_, _, _, e1, T.cl_Heap, T.n_Heap_things, _, z16 l, l, rfl, _, .inl (SqL.of e2), ?_⟩
      rw [lm]
      have c1 : 2 * (p : Int) + 1 = ((2 * p + 1 : Nat) : Int) := by omega
      have c2 : 2 * (p : Int) + 1 + 1 = ((2 * p + 2 : Nat) : Int) := by omega
      obtain ⟨x, hx⟩ : ∃ x, ts[2 * p + 1]? = some x := ⟨_, List.getElem?_eq_getElem (by omega)⟩
      by_cases b2 : 2 * (p : Int) + 1 + 1 < ((ts.length : Nat) : Int)
      · rw [if_pos b2]
        obtain ⟨y, hy⟩ : ∃ y, ts[2 * p + 2]? = some y := ⟨_, List.getElem?_eq_getElem (by omega)⟩
        refine ⟨_, _, _, e1, T.cl_Heap, T.n_Heap_things, _, z16 l, l, rfl, _, SqL.of e2, _, by rw [c2]; exact at_ref hy, _, _, _, e1, T.cl_Heap, T.n_Heap_things, _, z16 l, l, rfl, _, SqL.of e2, _, by rw [c1]; exact at_ref hx, y, rfl, x, rfl, _, SqT.of (key hy), _, SqT.of (key hx), ?_⟩
        have two : ∀ i : Nat, 0 < i → (i - 1) / 2 = p → i = 2 * p + 1 ∨ i = 2 * p + 2 := fun i i0 ip => by omega
        by_cases b3 : HT.lexLt (k y) (k x) = true
        · rw [if_pos b3, c2]
          refine hq _ (by omega) ⟨by omega, by omega, fun i u v i0 ip hu hv => ?_⟩
          rw [hy] at hv
          cases hv
          rcases two i i0 ip with e | e
          · rw [e, hx] at hu
            cases hu
            exact Le.of b3
          · rw [e, hy] at hu
            cases hu
            exact Le.refl _
        · rw [if_neg b3, c1]
          refine hq _ (by omega) ⟨by omega, by omega, fun i u v i0 ip hu hv => ?_⟩
          rw [hx] at hv
          cases hv
          rcases two i i0 ip with e | e
          · rw [e, hx] at hu
            cases hu
            exact Le.refl _
          · rw [e, hy] at hu
            cases hu
            exact (by simpa using b3 : HT.lexLt (k y) (k x) = false)
      · rw [if_neg b2, c1]
        refine hq _ (by omega) ⟨by omega, by omega, fun i u v i0 ip hu hv => ?_⟩
        have li := z28 hu
        have e : i = 2 * p + 1 := by omega
        rw [e] at hu
        rw [hu] at hv
        cases hv
        exact Le.refl _
theorem sc_q5 : FnScope ["self", "place", "above"] ["self"] (defScope s_q5) := ⟨rfl, rfl, rfl, by decide +kernel, rfl, by decide +kernel, by decide +kernel⟩
set_option maxHeartbeats 4000000 in
theorem ok_q5 {fd : FuncData} (F : Fun K "lift_last" "Heap.lift_last" s_q5 ad.q5 fd) (T : Txt K mg ad) {fd_q25 : FuncData} (B_q25 : Binds K fd_q25 ["self", "place", "other"] []) (G_q25 : FnOk P w K mg base CX0 1 ad.q25 fd_q25 ["self", "place", "other"] (spSwap ad)) : FnOk P w K mg base CX0 2 ad.q5 fd ["self"] (spLift ad) := by
  refine F.ok sc_q5 (fun vs H Q E h => ?_) (fun cdv A outer s H vs Q E HR h => ?_)
  · obtain ⟨hp, l, ts, k, n, rfl, _⟩ := h
    rfl
  · obtain ⟨hp, l, ts, k, n, rfl, hh, hk, tl, nl, hL, hq⟩ := h
    have ND := sc_q5.nd
    have HU0 := HR.units0
    have HU := HR.units
    have hA := HR.hd
    have hz : (100000 : Nat) ≤ sizeLine := by rw [sizeLine_eq]; decide
    refine ⟨_, (pss_cons (ps_set (i := 1) ND rfl (loc_of (Or.inl z297)) (pe_op op_sub (pe_callB call_len_seq (gl_of z685) T.b_len PyProof.Rows.Boot.«len» (pa_cons (pe_fld (pe_var (i := 0) (x := "self") rfl (vis_of z262) d_self e_self) (by rfl)) pa_nil (stp rfl)) (hn := n_len) (hdb := d_len) (he := stp rfl) (hpl := anp rfl)) pe_int))
 (pss_cons (ps_set (i := 2) ND rfl (loc_of (Or.inl z268)) (pe_op op_fdiv (pe_op op_sub (pe_var (i := 1) (x := "place") rfl (vis_of z126) z116 z108) pe_int) pe_int))
 (pss_one (ps_while PassesOwn.never (PW.pt (pw_and (pt_cmpR op_gt (pe_var (i := 1) (x := "place") rfl (vis_of z126) z116 z108) pe_int (nomark _)) (pw_and1 (pt_cmpR (op_ltT HU0) (pe_ix ix_list (pe_fld (pe_var (i := 0) (x := "self") rfl (vis_of z262) d_self e_self) (by rfl)) (pe_var (i := 1) (x := "place") rfl (vis_of z126) z116 z108) (fun _ _ => rfl)) (pe_ix ix_list (pe_fld (pe_var (i := 0) (x := "self") rfl (vis_of z262) d_self e_self) (by rfl)) (pe_var (i := 2) (x := "above") rfl (vis_of z283) z567 z568) (fun _ _ => rfl)) (nomark _)))))
 (pss_cons (ps_expr (pe_meth (pe_var (i := 0) (x := "self") rfl (vis_of z262) d_self e_self) T.cl_Heap T.m_q25 G_q25 (HR.mono (by decide)) B_q25 .nil pass0 (pa_cons (pe_var (i := 1) (x := "place") rfl (vis_of z126) z116 z108) (pa_cons (pe_var (i := 2) (x := "above") rfl (vis_of z283) z567 z568) pa_nil (stp rfl)) (stp rfl)) (hst := stp rfl) (hpl := anp rfl)))
 (pss_cons (ps_set (i := 1) ND rfl (loc_of (Or.inl z297)) (pe_var (i := 2) (x := "above") rfl (vis_of z283) z567 z568))
 (pss_one (ps_set (i := 2) ND rfl (loc_of (Or.inl z268)) (pe_op op_fdiv (pe_op op_sub (pe_var (i := 1) (x := "place") rfl (vis_of z126) z116 z108) pe_int) pe_int))))))))), ?_⟩
    obtain ⟨⟨dx, e1⟩, e2⟩ := id hh
    have lm : ∀ us : List Addr, (us.map V.ref).length = us.length := fun us => List.length_map _
    refine z4 (fun σ H' => H' = H ∧ σ = [some (V.ref hp), some (V.int (n : Int)), none]) (fun nx hk => ?_) ?_
    · walk_at "RD"
      refine ⟨_, _, _, e1, T.cl_Heap, T.n_Heap_things, _, z16 l, l, rfl, _, .inl (SqL.of e2), hk _ _ ⟨rfl, ?_⟩⟩
      rw [lm, tl]
      simp
    rintro σ H1 ⟨rfl, rfl⟩
    refine z4 (fun σ H' => H' = H1 ∧ σ = [some (V.ref hp), some (V.int (n : Int)), some (V.int (((n : Int) - 1) / 2))]) (fun nx hk => ?_) ?_
    · walk_at "RD"
      exact ⟨⟨by decide, by decide⟩, hk _ _ ⟨rfl, rfl⟩⟩
    rintro σ H2 ⟨rfl, rfl⟩
    walk_at "RD"
    refine ⟨fun m σ H' => ∃ (p : Nat) (us : List Addr), m = p ∧ p ≤ n ∧ us.Perm ts ∧ Lift k us p ∧ H' = upd H2 l (.lst (us.map V.ref)) ∧ σ = [some (V.ref hp), some (V.int (p : Int)), some (V.int (((p : Int) - 1) / 2))], ⟨n, n, ts, rfl, Nat.le_refl _, .refl _, hL, (upd_id e2).symm, rfl⟩, ?_⟩
    rintro p σ H' ⟨_, us, rfl, pn, pm, hL', rfl, rfl⟩
    have lu := pm.length_eq
    have hh' : HeapAt ad (upd H2 l (.lst (us.map V.ref))) hp l us := hh.put
    obtain ⟨⟨dx', f1⟩, f2⟩ := id hh'
    have hk' : KeysAt (upd H2 l (.lst (us.map V.ref))) k us := hk.put e2 fun t ht => pm.mem_iff.mp ht
    have key : ∀ {i : Nat} {x : Addr}, us[i]? = some x → upd H2 l (.lst (us.map V.ref)) x = some (.tup ((k x).map V.int)) := fun h => hk' _ (List.mem_of_getElem? h)
    walk_at "RD"
    by_cases p0 : 0 < (p : Int)
    · rw [if_pos p0]
      have ca : ((p : Int) - 1) / 2 = (((p - 1) / 2 : Nat) : Int) := by omega
      obtain ⟨x, hx⟩ : ∃ x, us[p]? = some x := ⟨_, List.getElem?_eq_getElem (by omega)⟩
      obtain ⟨y, hy⟩ : ∃ y, us[(p - 1) / 2]? = some y := ⟨_, List.getElem?_eq_getElem (by omega)⟩
      rw [ca]
      refine ⟨_, _, _, f1, T.cl_Heap, T.n_Heap_things, _, z16 l, l, rfl, _, SqL.of f2, _, at_ref hx, _, _, _, f1, T.cl_Heap, T.n_Heap_things, _, z16 l, l, rfl, _, SqL.of f2, _, at_ref hy, x, rfl, y, rfl, _, SqT.of (key hx), _, SqT.of (key hy), ?_⟩
      by_cases b : HT.lexLt (k x) (k y) = true
      · rw [if_pos b]
        refine ⟨fun σ' H'' => H'' = upd H2 l (.lst ((swp us p ((p - 1) / 2) x y).map V.ref)) ∧ σ' = [some (V.ref hp), some (V.int (((p - 1) / 2 : Nat) : Int)), some (V.int (((((p - 1) / 2 : Nat) : Int) - 1) / 2))], fun σ' H'' ⟨h1, h2⟩ => ⟨(p - 1) / 2, by omega, by omega, swp us p ((p - 1) / 2) x y, (z608 hx hy (by omega)).trans pm, hL'.step (by omega) hx hy b, h1, h2⟩, ?_⟩
        refine ⟨_, _, f1, h_no l (by decide +kernel), hp, l, us, p, (p - 1) / 2, x, y, rfl, hh', hx, hy, ⟨by decide, by decide⟩, ?_⟩
        rw [upd_upd]
        exact ⟨rfl, rfl⟩
      · rw [if_neg b]
        exact hq us pm (hL'.done (.inr ⟨x, y, hx, hy, by simpa using b⟩))
    · rw [if_neg p0]
      exact hq us pm (hL'.done (.inl (by omega)))
theorem sc_q4 : FnScope ["self", "place", "below"] ["self"] (defScope s_q4) := ⟨rfl, rfl, rfl, by decide +kernel, rfl, by decide +kernel, by decide +kernel⟩
set_option maxHeartbeats 4000000 in
theorem ok_q4 {fd : FuncData} (F : Fun K "sink_first" "Heap.sink_first" s_q4 ad.q4 fd) (T : Txt K mg ad) {fd_q25 : FuncData} (B_q25 : Binds K fd_q25 ["self", "place", "other"] []) (G_q25 : FnOk P w K mg base CX0 1 ad.q25 fd_q25 ["self", "place", "other"] (spSwap ad)) {fd_q1 : FuncData} (B_q1 : Binds K fd_q1 ["self", "place"] []) (G_q1 : FnOk P w K mg base CX0 1 ad.q1 fd_q1 ["self", "place"] (z434 ad)) : FnOk P w K mg base CX0 2 ad.q4 fd ["self"] (spSink ad) := by
  refine F.ok sc_q4 (fun vs H Q E h => ?_) (fun cdv A outer s H vs Q E HR h => ?_)
  · obtain ⟨hp, l, ts, k, rfl, _⟩ := h
    rfl
  · obtain ⟨hp, l, ts, k, rfl, hh, hk, t0, tl, hS, hq⟩ := h
    have ND := sc_q4.nd
    have HU0 := HR.units0
    have HU := HR.units
    have hA := HR.hd
    have hz : (100000 : Nat) ≤ sizeLine := by rw [sizeLine_eq]; decide
    refine ⟨_, (pss_cons (ps_set (i := 1) ND rfl (loc_of (Or.inl z302)) pe_int)
 (pss_cons (ps_set (i := 2) ND rfl (loc_of (Or.inl z311)) (pe_meth (pe_var (i := 0) (x := "self") rfl (vis_of z218) d_self e_self) T.cl_Heap T.m_q1 G_q1 (HR.mono (by decide)) B_q1 .nil pass0 (pa_cons (pe_var (i := 1) (x := "place") rfl (vis_of z210) z116 z108) pa_nil (stp rfl)) (hst := stp rfl) (hpl := anp rfl)))
 (pss_one (ps_while PassesOwn.never (PW.pt (pw_and (pt_cmpR op_notN (pe_var (i := 2) (x := "below") rfl (vis_of z206) z177 z176) pe_non (nomark _)) (pw_and1 (pt_cmpR (op_ltT HU0) (pe_ix ix_list (pe_fld (pe_var (i := 0) (x := "self") rfl (vis_of z218) d_self e_self) (by rfl)) (pe_var (i := 2) (x := "below") rfl (vis_of z206) z177 z176) (fun _ _ => rfl)) (pe_ix ix_list (pe_fld (pe_var (i := 0) (x := "self") rfl (vis_of z218) d_self e_self) (by rfl)) (pe_var (i := 1) (x := "place") rfl (vis_of z210) z116 z108) (fun _ _ => rfl)) (nomark _)))))
 (pss_cons (ps_expr (pe_meth (pe_var (i := 0) (x := "self") rfl (vis_of z218) d_self e_self) T.cl_Heap T.m_q25 G_q25 (HR.mono (by decide)) B_q25 .nil pass0 (pa_cons (pe_var (i := 1) (x := "place") rfl (vis_of z210) z116 z108) (pa_cons (pe_var (i := 2) (x := "below") rfl (vis_of z206) z177 z176) pa_nil (stp rfl)) (stp rfl)) (hst := stp rfl) (hpl := anp rfl)))
 (pss_cons (ps_set (i := 1) ND rfl (loc_of (Or.inl z302)) (pe_var (i := 2) (x := "below") rfl (vis_of z206) z177 z176))
 (pss_one (ps_set (i := 2) ND rfl (loc_of (Or.inl z311)) (pe_meth (pe_var (i := 0) (x := "self") rfl (vis_of z218) d_self e_self) T.cl_Heap T.m_q1 G_q1 (HR.mono (by decide)) B_q1 .nil pass0 (pa_cons (pe_var (i := 1) (x := "place") rfl (vis_of z210) z116 z108) pa_nil (stp rfl)) (hst := stp rfl) (hpl := anp rfl)))))))))), ?_⟩
    obtain ⟨⟨dx, e1⟩, e2⟩ := id hh
    have lm : ∀ us : List Addr, (us.map V.ref).length = us.length := fun us => List.length_map _
    have n0 : 0 < ts.length := List.length_pos_iff.mpr t0
    refine z4 (fun σ H' => H' = H ∧ σ = [some (V.ref hp), some (V.int ((0 : Nat) : Int)), none]) (fun nx hk => ?_) ?_
    · walk_at "RD"
      exact hk _ _ ⟨rfl, rfl⟩
    rintro σ H1 ⟨rfl, rfl⟩
    refine z4 (fun σ H' => ∃ v, H' = H1 ∧ ((v = V.non ∧ ∀ i, 0 < i → (i - 1) / 2 = 0 → ts[i]? = none) ∨ ∃ b : Nat, v = V.int (b : Int) ∧ b < ts.length ∧ Lesser k ts 0 b) ∧ σ = [some (V.ref hp), some (V.int ((0 : Nat) : Int)), some v]) (fun nx hk' => ?_) ?_
    · walk_at "RD"
      exact ⟨_, _, e1, h_no l (by decide +kernel), hp, l, ts, k, 0, rfl, hh, hk, tl, by omega, fun h => hk' _ _ ⟨_, rfl, .inl ⟨rfl, h⟩, rfl⟩, fun b hb B => hk' _ _ ⟨_, rfl, .inr ⟨b, rfl, hb, B⟩, rfl⟩⟩
    rintro σ H2 ⟨v0, rfl, hv0, rfl⟩
    walk_at "RD"
    refine ⟨fun m σ H' => ∃ (p : Nat) (us : List Addr) (v : V), m + p = ts.length ∧ us.Perm ts ∧ Sink k us p ∧ p < ts.length ∧ ((v = V.non ∧ ∀ i, 0 < i → (i - 1) / 2 = p → us[i]? = none) ∨ ∃ b : Nat, v = V.int (b : Int) ∧ b < us.length ∧ Lesser k us p b) ∧ H' = upd H2 l (.lst (us.map V.ref)) ∧ σ = [some (V.ref hp), some (V.int (p : Int)), some v], ⟨ts.length, 0, ts, v0, rfl, .refl _, hS, n0, hv0, (upd_id e2).symm, rfl⟩, ?_⟩
    rintro m σ H' ⟨p, us, v, mp, pm, hS', pl, hv, rfl, rfl⟩
    have lu := pm.length_eq
    have hh' : HeapAt ad (upd H2 l (.lst (us.map V.ref))) hp l us := hh.put
    obtain ⟨⟨dx', f1⟩, f2⟩ := id hh'
    have hk' : KeysAt (upd H2 l (.lst (us.map V.ref))) k us := hk.put e2 fun t ht => pm.mem_iff.mp ht
    have key : ∀ {i : Nat} {x : Addr}, us[i]? = some x → upd H2 l (.lst (us.map V.ref)) x = some (.tup ((k x).map V.int)) := fun h => hk' _ (List.mem_of_getElem? h)
    walk_at "RD"
    rcases hv with ⟨rfl, hno⟩ | ⟨b, rfl, bl, B⟩
    · rw [if_neg (by simp)]
      exact hq us pm (hS'.done (.inl hno))
    · rw [if_pos (by simp)]
      have b0 := B.b0
      have bp := B.bp
      obtain ⟨x, hx⟩ : ∃ x, us[b]? = some x := ⟨_, List.getElem?_eq_getElem bl⟩
      obtain ⟨y, hy⟩ : ∃ y, us[p]? = some y := ⟨_, List.getElem?_eq_getElem (by omega)⟩
      refine ⟨_, _, _, f1, T.cl_Heap, T.n_Heap_things, _, z16 l, l, rfl, _, _, rfl, SqL.of f2, _, at_ref hx, _, _, _, f1, T.cl_Heap, T.n_Heap_things, _, z16 l, l, rfl, _, SqL.of f2, _, at_ref hy, x, rfl, y, rfl, _, SqT.of (key hx), _, SqT.of (key hy), ?_⟩
      by_cases bb : HT.lexLt (k x) (k y) = true
      · rw [if_pos bb]
        have S2 := hS'.step B hx hy bb
        have pm2 := (z608 hy hx (by omega)).trans pm
        refine ⟨fun σ' H'' => ∃ v, H'' = upd H2 l (.lst ((swp us p b y x).map V.ref)) ∧ ((v = V.non ∧ ∀ i, 0 < i → (i - 1) / 2 = b → (swp us p b y x)[i]? = none) ∨ ∃ c : Nat, v = V.int (c : Int) ∧ c < (swp us p b y x).length ∧ Lesser k (swp us p b y x) b c) ∧ σ' = [some (V.ref hp), some (V.int (b : Int)), some v], fun σ' H'' ⟨v, h1, h3, h2⟩ => ⟨ts.length - b, by omega, b, by omega, swp us p b y x, pm2, S2, by omega, v, h3, h1, h2⟩, ?_⟩
        refine ⟨_, _, f1, h_no l (by decide +kernel), hp, l, us, p, b, y, x, rfl, hh', hy, hx, ?_⟩
        rw [upd_upd]
        have hh2 : HeapAt ad (upd H2 l (.lst ((swp us p b y x).map V.ref))) hp l (swp us p b y x) := hh.put
        obtain ⟨⟨dx2, g1⟩, g2⟩ := id hh2
        exact ⟨_, _, g1, h_no l (by decide +kernel), hp, l, _, k, b, rfl, hh2, hk.put e2 fun t ht => pm2.mem_iff.mp ht, by rw [z719]; omega, by omega, fun h => ⟨_, rfl, .inl ⟨rfl, h⟩, rfl⟩, fun c hc C => ⟨_, rfl, .inr ⟨c, rfl, hc, C⟩, rfl⟩⟩
      · rw [if_neg bb]
        exact hq us pm (hS'.done (.inr ⟨b, x, y, B, hx, hy, by simpa using bb⟩))
theorem sc_q17 : FnScope ["self"] ["self"] (defScope s_q17) := ⟨rfl, rfl, rfl, by decide +kernel, rfl, by decide +kernel, by decide +kernel⟩
set_option maxHeartbeats 4000000 in
theorem ok_q17 {fd : FuncData} (F : Fun K "least" "Heap.least" s_q17 ad.q17 fd) (T : Txt K mg ad) : FnOk P w K mg base CX0 1 ad.q17 fd ["self"] (z555 ad) := by
  refine F.ok sc_q17 (fun vs H Q E h => ?_) (fun cdv A outer s H vs Q E HR h => ?_)
  · obtain ⟨hp, l, r, ts, rfl, _⟩ := h
    rfl
  · obtain ⟨hp, l, r, ts, rfl, hh, hq⟩ := h
    have ND := sc_q17.nd
    have HU0 := HR.units0
    have HU := HR.units
    have hA := HR.hd
    have hz : (100000 : Nat) ≤ sizeLine := by rw [sizeLine_eq]; decide
    refine ⟨_, (pss_cons (ps_if (pt_not (pt_truth (pe_fld (pe_var (i := 0) (x := "self") rfl (vis_of z396) d_self e_self) (by rfl)) (fun _ => rfl)))
 pss_never
 pss_nil)
 (pss_one (ps_ret (pe_ix ix_list (pe_fld (pe_var (i := 0) (x := "self") rfl (vis_of z396) d_self e_self) (by rfl)) pe_int (fun _ _ => rfl))))), ?_⟩
    obtain ⟨⟨dx, e1⟩, e2⟩ := id hh
    walk_at "RD"
    refine ⟨_, _, _, e1, T.cl_Heap, T.n_Heap_things, _, z16 l, _, .inl ⟨_, SqL.of e2, rfl⟩, ?_⟩
    rw [if_neg (by simp)]
    exact ⟨_, _, _, e1, T.cl_Heap, T.n_Heap_things, _, z16 l, l, rfl, _, SqL.of e2, _, at_ref (p := 0) rfl, hq⟩
theorem sc_q29 : FnScope ["self", "thing"] ["self", "thing"] (defScope s_q29) := ⟨rfl, rfl, rfl, by decide +kernel, rfl, by decide +kernel, by decide +kernel⟩
set_option maxHeartbeats 4000000 in
theorem ok_q29 {fd : FuncData} (F : Fun K "put" "Heap.put" s_q29 ad.q29 fd) (T : Txt K mg ad) {fd_q5 : FuncData} (B_q5 : Binds K fd_q5 ["self"] []) (G_q5 : FnOk P w K mg base CX0 2 ad.q5 fd_q5 ["self"] (spLift ad)) : FnOk P w K mg base CX0 3 ad.q29 fd ["self", "thing"] (spHPut ad) := by
  refine F.ok sc_q29 (fun vs H Q E h => ?_) (fun cdv A outer s H vs Q E HR h => ?_)
  · obtain ⟨hp, l, t, ts, k, rfl, _⟩ := h
    rfl
  · obtain ⟨hp, l, t, ts, k, rfl, hh, hk, tl, hok, hq⟩ := h
    have ND := sc_q29.nd
    have HU0 := HR.units0
    have HU := HR.units
    have hA := HR.hd
    have hz : (100000 : Nat) ≤ sizeLine := by rw [sizeLine_eq]; decide
    refine ⟨_, (pss_cons (ps_expr (pe_bm PySem.F.plainAttrs_list PySem.F.slot_list_append PySem.F.type_list_append mt_append (pe_fld (pe_var (i := 0) (x := "self") rfl (vis_of z414) d_self e_self) (by rfl)) (pa_cons (pe_var (i := 1) (x := "thing") rfl (vis_of z500) z381 z409) pa_nil (stp rfl))))
 (pss_one (ps_expr (pe_meth0 (pe_var (i := 0) (x := "self") rfl (vis_of z414) d_self e_self) T.cl_Heap T.m_q5 G_q5 (HR.mono (by decide)) B_q5 .nil pass0)))), ?_⟩
    obtain ⟨⟨dx, e1⟩, e2⟩ := id hh
    have lm : (ts.map V.ref).length = ts.length := List.length_map _
    have et : (ts.map V.ref) ++ [V.ref t] = (ts ++ [t]).map V.ref := by simp
    walk_at "RD"
    refine ⟨_, _, _, e1, T.cl_Heap, T.n_Heap_things, _, z16 l, .inl ⟨rfl, _, SqL.of e2⟩, l, rfl, _, e2, by rw [lm]; omega, ?_⟩
    rw [et]
    have hh' : HeapAt ad (upd H l (.lst ((ts ++ [t]).map V.ref))) hp l (ts ++ [t]) := hh.put
    obtain ⟨⟨dx', f1⟩, f2⟩ := id hh'
    have pt : (ts ++ [t]).Perm (t :: ts) := List.perm_append_comm
    refine ⟨_, _, f1, h_no l (by decide +kernel), hp, l, ts ++ [t], k, ts.length, rfl, hh', hk.put e2 fun u hu => pt.mem_iff.mp hu, by simp, by omega, Lift.start hok, fun us pu ho => ?_⟩
    rw [upd_upd]
    exact hq us (pu.trans pt) ho
theorem sc_q23 : FnScope ["self", "first", "last"] ["self"] (defScope s_q23) := ⟨rfl, rfl, rfl, by decide +kernel, rfl, by decide +kernel, by decide +kernel⟩
set_option maxHeartbeats 4000000 in
theorem ok_q23 {fd : FuncData} (F : Fun K "take" "Heap.take" s_q23 ad.q23 fd) (T : Txt K mg ad) {fd_q17 : FuncData} (B_q17 : Binds K fd_q17 ["self"] []) (G_q17 : FnOk P w K mg base CX0 1 ad.q17 fd_q17 ["self"] (z555 ad)) {fd_q4 : FuncData} (B_q4 : Binds K fd_q4 ["self"] []) (G_q4 : FnOk P w K mg base CX0 2 ad.q4 fd_q4 ["self"] (spSink ad)) : FnOk P w K mg base CX0 3 ad.q23 fd ["self"] (spTake ad) := by
  refine F.ok sc_q23 (fun vs H Q E h => ?_) (fun cdv A outer s H vs Q E HR h => ?_)
  · obtain ⟨hp, l, ts, k, rfl, _⟩ := h
    rfl
  · obtain ⟨hp, l, ts, k, rfl, hh, hk, t0, tl, hok, hq⟩ := h
    have ND := sc_q23.nd
    have HU0 := HR.units0
    have HU := HR.units
    have hA := HR.hd
    have hz : (100000 : Nat) ≤ sizeLine := by rw [sizeLine_eq]; decide
    refine ⟨_, (pss_cons (ps_set (i := 1) ND rfl (loc_of (Or.inl z343)) (pe_meth0 (pe_var (i := 0) (x := "self") rfl (vis_of z138) d_self e_self) T.cl_Heap T.m_q17 G_q17 (HR.mono (by decide)) B_q17 .nil pass0))
 (pss_cons (ps_set (i := 2) ND rfl (loc_of (Or.inl z419)) (pe_bm0 PySem.F.plainAttrs_list PySem.F.slot_list_pop PySem.F.type_list_pop mt_pop (pe_fld (pe_var (i := 0) (x := "self") rfl (vis_of z138) d_self e_self) (by rfl))))
 (pss_cons (ps_if (pt_truth (pe_fld (pe_var (i := 0) (x := "self") rfl (vis_of z138) d_self e_self) (by rfl)) (fun _ => rfl))
 (pss_cons (ps_asg (pe_var (i := 2) (x := "last") rfl (vis_of z574) d_last e_last) (pg_sub (pe_fld (pe_var (i := 0) (x := "self") rfl (vis_of z138) d_self e_self) (by rfl)) pe_int set_list))
 (pss_one (ps_expr (pe_meth0 (pe_var (i := 0) (x := "self") rfl (vis_of z138) d_self e_self) T.cl_Heap T.m_q4 G_q4 (HR.mono (by decide)) B_q4 .nil pass0))))
 pss_nil)
 (pss_one (ps_ret (pe_var (i := 1) (x := "first") rfl (vis_of z477) z708 z702)))))), ?_⟩
    obtain ⟨r, rs, rfl⟩ : ∃ r rs, ts = r :: rs := by cases ts with | nil => exact absurd rfl t0 | cons r rs => exact ⟨r, rs, rfl⟩
    obtain ⟨⟨dx, e1⟩, e2⟩ := id hh
    have lm : ∀ us : List Addr, (us.map V.ref).length = us.length := fun us => List.length_map _
    refine z4 (fun σ H' => H' = H ∧ σ = [some (V.ref hp), some (V.ref r), none]) (fun nx hk => ?_) ?_
    · walk_at "RD"
      exact ⟨_, _, e1, h_no l (by decide +kernel), hp, l, r, rs, rfl, hh, hk _ _ ⟨rfl, rfl⟩⟩
    rintro σ H1 ⟨rfl, rfl⟩
    have ls : ∀ t ∈ r :: rs, Le (k r) (k t) := fun t ht => by
      obtain ⟨i, hi⟩ := List.getElem?_of_mem ht
      exact hok.least (r := r) rfl i t hi
    obtain ⟨us, z, ez⟩ : ∃ us z, r :: rs = us ++ [z] := ⟨(r :: rs).dropLast, (r :: rs).getLast (by simp), (List.dropLast_concat_getLast _).symm⟩
    have hu : Hok k us := Hok.init (t := z) (by rw [← ez]; exact hok)
    have lz : (r :: rs).length = us.length + 1 := by rw [ez]; simp
    refine z4 (fun σ H' => H' = upd H1 l (.lst (us.map V.ref)) ∧ σ = [some (V.ref hp), some (V.ref r), some (V.ref z)]) (fun nx hk' => ?_) ?_
    · walk_at "RD"
      refine ⟨_, _, _, e1, T.cl_Heap, T.n_Heap_things, _, z16 l, .inl ⟨rfl, _, SqL.of e2⟩, l, rfl, _, e2, V.ref z, ?_, hk' _ _ ⟨?_, rfl⟩⟩
      · rw [ez, List.map_append, List.length_append]
        simp
      · rw [ez, List.map_append]
        simp
    rintro σ H2 ⟨rfl, rfl⟩
    have hh' : HeapAt ad (upd H1 l (.lst (us.map V.ref))) hp l us := hh.put
    obtain ⟨⟨dx', f1⟩, f2⟩ := id hh'
    walk_at "RD"
    refine ⟨_, _, _, f1, T.cl_Heap, T.n_Heap_things, _, z16 l, _, .inl ⟨_, SqL.of f2, rfl⟩, ?_⟩
    cases us with
    | nil =>
      rw [if_neg (by simp)]
      cases ez
      exact hq r [] (.refl _) ls hu
    | cons u0 us =>
      rw [if_pos (by simp)]
      obtain ⟨rfl, rfl⟩ : r = u0 ∧ rs = us ++ [z] := by simpa using ez
      have es : ((r :: us).map V.ref).set 0 (V.ref z) = ((r :: us).set 0 z).map V.ref := rfl
      have hm : ∀ t ∈ (r :: us).set 0 z, t ∈ r :: (us ++ [z]) := fun t ht => by
        rcases List.mem_cons.mp ht with e | e
        · rw [e]; simp
        · simp [show t ∈ us from e]
      refine ⟨_, _, _, f1, T.cl_Heap, T.n_Heap_things, _, z16 l, l, rfl, _, f2, 0, by simp [ixN], ?_⟩
      rw [es, upd_upd]
      have hh2 : HeapAt ad (upd H1 l (.lst (((r :: us).set 0 z).map V.ref))) hp l ((r :: us).set 0 z) := hh.put
      obtain ⟨⟨dx2, g1⟩, g2⟩ := id hh2
      refine ⟨_, _, g1, h_no l (by decide +kernel), hp, l, _, k, rfl, hh2, hk.put e2 hm, by simp, by simp only [List.length_set]; simp at tl lz ⊢; omega, Sink.start hu, fun vs pv ho => ?_⟩
      rw [upd_upd]
      refine hq r vs ?_ ls ho
      refine List.Perm.cons r (pv.trans ?_)
      show (z :: us).Perm (us ++ [z])
      exact List.perm_append_comm (l₁ := [z])
theorem sc_q24 : FnScope ["self"] ["self"] (defScope s_q24) := ⟨rfl, rfl, rfl, by decide +kernel, rfl, by decide +kernel, by decide +kernel⟩
set_option maxHeartbeats 4000000 in
theorem ok_q24 {fd : FuncData} (F : Fun K "size" "Heap.size" s_q24 ad.q24 fd) (T : Txt K mg ad) : FnOk P w K mg base CX0 1 ad.q24 fd ["self"] (spSize ad) := by
  refine F.ok sc_q24 (fun vs H Q E h => ?_) (fun cdv A outer s H vs Q E HR h => ?_)
  · obtain ⟨hp, l, ts, rfl, _⟩ := h
    rfl
  · obtain ⟨hp, l, ts, rfl, hh, hq⟩ := h
    have ND := sc_q24.nd
    have HU0 := HR.units0
    have HU := HR.units
    have hA := HR.hd
    have hz : (100000 : Nat) ≤ sizeLine := by rw [sizeLine_eq]; decide
    refine ⟨_, (pss_one (ps_ret (pe_callB call_len_seq (gl_of z662) T.b_len PyProof.Rows.Boot.«len» (pa_cons (pe_fld (pe_var (i := 0) (x := "self") rfl (vis_of z581) d_self e_self) (by rfl)) pa_nil (stp rfl)) (hn := n_len) (hdb := d_len) (he := stp rfl) (hpl := anp rfl)))), ?_⟩
    obtain ⟨⟨dx, e1⟩, e2⟩ := id hh
    walk_at "RD"
    refine ⟨_, _, _, e1, T.cl_Heap, T.n_Heap_things, _, z16 l, l, rfl, _, .inl (SqL.of e2), ?_⟩
    rw [List.length_map]
    exact hq
theorem sc_q6 : FnScope ["floor", "carrier"] ["floor", "carrier"] (defScope s_q6) := ⟨rfl, rfl, rfl, by decide +kernel, rfl, by decide +kernel, by decide +kernel⟩
set_option maxHeartbeats 4000000 in
theorem ok_q6 {fd : FuncData} (F : Fun K "standing_cells" "standing_cells" s_q6 ad.q6 fd) (T : Txt K mg ad) {fd_q15 : FuncData} (B_q15 : Binds K fd_q15 ["self"] []) (G_q15 : FnOk P w K mg base CX0 4 ad.q15 fd_q15 ["self"] (z447 ad.C_Floor)) {fd_q20 : FuncData} (B_q20 : Binds K fd_q20 ["self", "cell"] []) (G_q20 : FnOk P w K mg base CX0 1 ad.q20 fd_q20 ["self", "cell"] (spSign ad.C_Floor)) {fd_q2 : FuncData} (B_q2 : Binds K fd_q2 ["self", "sign"] []) (G_q2 : FnOk P w K mg base CX0 1 ad.q2 fd_q2 ["self", "sign"] (spMay 0)) {fd_q3 : FuncData} (B_q3 : Binds K fd_q3 ["self", "sign"] []) (G_q3 : FnOk P w K mg base CX0 1 ad.q3 fd_q3 ["self", "sign"] (spMay 1)) : FnOk P w K mg base CX0 5 ad.q6 fd ["floor", "carrier"] (z441 ad) := by
  refine F.ok sc_q6 (fun vs H Q E h => ?_) (fun cdv A outer s H vs Q E HR h => ?_)
  · obtain ⟨p, fl, i, n, w, h, sg, rfl, _⟩ := h
    rfl
  · obtain ⟨p, fl, i, n, w, h, sg, rfl, hc, hi, F0, g, hq⟩ := h
    have ND := sc_q6.nd
    have HU0 := HR.units0
    have HU := HR.units
    have hA := HR.hd
    have hz : (100000 : Nat) ≤ sizeLine := by rw [sizeLine_eq]; decide
    refine ⟨_, (pss_one (ps_ret (z94 (z8.of (osc := defScope s_q6) (tn := ["cell"]) (cn := ["carrier", "floor"]) (caps := [1, 0]) rfl rfl (by decide +kernel) (by decide +kernel) (by decide +kernel) (by decide +kernel) rfl) (calm0 rfl)  (pi_list (pe_meth0 (pe_var (i := 0) (x := "floor") rfl (vis_of z557) z62 z59) T.cl_Floor T.m_q15 G_q15 (HR.mono (by decide)) B_q15 .nil pass0))
 (fun _ _ _ _ _ => (pg_name (i := 0) (show (["cell", "carrier", "floor"] : List Str).Nodup by decide +kernel) rfl (Or.inl rfl))) (fun _ _ _ _ _ => (z95 (pt_val (z194 (k := 1) (pv 1) (z5 T.cl_Cart T.m_Cart_may_stand G_q2 (by decide) B_q2 (z5 T.cl_Crawler T.m_q3 G_q3 (by decide) B_q3 (z5 T.cl_Runner T.m_Runner_may_stand G_q2 (by decide) B_q2 (z5 T.cl_Carrier T.m_q2 G_q2 (by decide) B_q2 z189)))) (HR.mono (by decide)) (pa_cons (pe_meth (pv 2) T.cl_Floor T.m_q20 G_q20 (HR.mono (by decide)) B_q20 .nil pass0 (pa_cons (pv 0) pa_nil (stp rfl)) (hst := stp rfl) (hpl := anp rfl)) pa_nil (stp rfl)) (hst := stp rfl) (hpl := anp rfl))))) (fun _ _ _ _ _ => (pv 0))))), ?_⟩
    obtain ⟨dx, l0, h1, h2⟩ := id F0.ob
    obtain ⟨dp, hp⟩ := id hc
    obtain ⟨jm, hjm, ejm⟩ := e_may (ad := ad) i hi
    have nm : (putF "full" (V.int n) []).lookup ("may_stand" : Str) = none := l_no n (by decide +kernel)
    have nst : (putF "full" (V.int n) []).lookup ("steps" : Str) = none := l_no n (by decide +kernel)
    have ns : (flds w h l0 sg).lookup ("sign" : Str) = none := nofl (by decide +kernel) (by decide +kernel) (by decide +kernel) (by decide +kernel)
    have nce : (flds w h l0 sg).lookup ("cells" : Str) = none := nofl (by decide +kernel) (by decide +kernel) (by decide +kernel) (by decide +kernel)
    have nch : (flds w h l0 sg).lookup ("chargers" : Str) = none := nofl (by decide +kernel) (by decide +kernel) (by decide +kernel) (by decide +kernel)
    walk_at "RD"
    refine ⟨_, _, h1, nce, fl, w, h, sg, rfl, F0, g, fun r H1 nr s1 hr => ?_⟩
    refine ⟨r, rfl, ⟨_, SqL.of hr⟩, z22 (src_list (SqL.of hr)) (stV i sg) (fun v => v) (fun y hy Q' hh => ?_) (fun y hy _ Q' hh => by walk_at "RD"; exact hh) (by rw [List.length_map]; have := z220 g; omega) (fun D nD => ?_)⟩
    · obtain ⟨c, hcm, rfl⟩ := List.mem_map.mp hy
      have cF := z222 hcm
      walk_at "RD"
      refine ⟨p, dp, _, (clsOf ad i, spMay jm), hjm, rfl, s1 _ _ hp, nm, _, _, s1 _ _ h1, ns, fl, w, h, sg, c, rfl, F0.same s1, g, cF.1, cF.2, _, _, rfl, _, rfl, ?_⟩
      rw [ejm]
      exact hh
    · rw [z198]
      exact hq D _ (s1.free nD) (s1.trans (zz0 nD)) upd_same
theorem sc_q18 : FnScope ["floor", "carrier", "into", "cell", "other", "cost"] ["floor", "carrier"] (defScope s_q18) := ⟨rfl, rfl, rfl, by decide +kernel, rfl, by decide +kernel, by decide +kernel⟩
set_option maxHeartbeats 4000000 in
theorem ok_q18 {fd : FuncData} (F : Fun K "steps_into" "steps_into" s_q18 ad.q18 fd) (T : Txt K mg ad) {fd_q15 : FuncData} (B_q15 : Binds K fd_q15 ["self"] []) (G_q15 : FnOk P w K mg base CX0 4 ad.q15 fd_q15 ["self"] (z447 ad.C_Floor)) {fd_q6 : FuncData} (B_q6 : Binds K fd_q6 ["floor", "carrier"] []) (G_q6 : FnOk P w K mg base CX0 5 ad.q6 fd_q6 ["floor", "carrier"] (z441 ad)) {fd_q8 : FuncData} (B_q8 : Binds K fd_q8 ["self", "floor", "cell"] []) (G_q8 : FnOk P w K mg base CX0 5 ad.q8 fd_q8 ["self", "floor", "cell"] (z468 ad)) : FnOk P w K mg base CX0 6 ad.q18 fd ["floor", "carrier"] (spInto ad) := by
  refine F.ok sc_q18 (fun vs H Q E h => ?_) (fun cdv A outer s H vs Q E HR h => ?_)
  · obtain ⟨p, fl, i, n, w, h, sg, rfl, _⟩ := h
    rfl
  · obtain ⟨p, fl, i, n, w, h, sg, rfl, hc, hi, F0, g, hq⟩ := h
    have ND := sc_q18.nd
    have HU0 := HR.units0
    have HU := HR.units
    have hA := HR.hd
    have hz : (100000 : Nat) ≤ sizeLine := by rw [sizeLine_eq]; decide
    refine ⟨_, (pss_cons (ps_set (i := 2) ND rfl (loc_of (Or.inl z399)) pe_dnewK)
 (pss_cons (ps_for PassesOwn.never (calm0 rfl) (pi_list (pe_meth0 (pe_var (i := 0) (x := "floor") rfl (vis_of z231) z62 z59) T.cl_Floor T.m_q15 G_q15 (HR.mono (by decide)) B_q15 .nil pass0)) (pg_name (i := 3) ND rfl (loc_of (Or.inl z301)))
 (pss_one (ps_dput (hu1 HU) (pe_var (i := 2) (x := "into") rfl (vis_of z276) d_into e_into) (pe_var (i := 3) (x := "cell") rfl (vis_of z313) d_cell e_cell) (pe_lst pa_nil) rfl)))
 (pss_cons (ps_for PassesOwn.never (calm0 rfl) (pi_list (pe_call G_q6 (HR.mono (by decide)) (gl_of z684) T.mg_q6 T.k_q6 B_q6 .nil pass0 (pa_cons (pe_var (i := 0) (x := "floor") rfl (vis_of z231) z62 z59) (pa_cons (pe_var (i := 1) (x := "carrier") rfl (vis_of z244) z260 z261) pa_nil (stp rfl)) (stp rfl)) (hdb := d_q6) (he := stp rfl) (hpl := anp rfl))) (pg_name (i := 3) ND rfl (loc_of (Or.inl z301)))
 (pss_one (ps_for PassesOwn.never (calm0 rfl) (pi_list (z194 (k := 5) (pe_var (i := 1) (x := "carrier") rfl (vis_of z244) z260 z261) (z5 T.cl_Cart T.m_Cart_steps G_q8 (by decide) B_q8 (z5 T.cl_Crawler T.m_Crawler_steps G_q8 (by decide) B_q8 (z5 T.cl_Runner T.m_Runner_steps G_q8 (by decide) B_q8 (z5 T.cl_Carrier T.m_q8 G_q8 (by decide) B_q8 z189)))) (HR.mono (by decide)) (pa_cons (pe_var (i := 0) (x := "floor") rfl (vis_of z231) z62 z59) (pa_cons (pe_var (i := 3) (x := "cell") rfl (vis_of z313) d_cell e_cell) pa_nil (stp rfl)) (stp rfl)) (hst := stp rfl) (hpl := anp rfl))) (pg_tup (n := 2) (calm0 rfl) (pgs_cons (pg_name (i := 4) ND rfl (loc_of (Or.inl z342))) (pgs_cons (pg_name (i := 5) ND rfl (loc_of (Or.inl z388))) pgs_nil)))
 (pss_one (ps_expr (pe_bm PySem.F.plainAttrs_list PySem.F.slot_list_append PySem.F.type_list_append mt_append (pe_dget (hu1 HU) (pe_var (i := 2) (x := "into") rfl (vis_of z276) d_into e_into) (pe_var (i := 4) (x := "other") rfl (vis_of z482) z215 z200) (fun _ _ => rfl)) (pa_cons (pe_tup (pa_cons (pe_var (i := 3) (x := "cell") rfl (vis_of z313) d_cell e_cell) (pa_cons (pe_var (i := 5) (x := "cost") rfl (vis_of z583) d_cost e_cost) pa_nil (stp rfl)) (stp rfl))) pa_nil (stp rfl))))))))
 (pss_one (ps_ret (pe_var (i := 2) (x := "into") rfl (vis_of z276) d_into e_into)))))), ?_⟩
    obtain ⟨dx, l0, h1, h2⟩ := id F0.ob
    obtain ⟨dp, hp⟩ := id hc
    obtain ⟨jm, hjm, ejm⟩ := e_may (ad := ad) i hi
    have nm : (putF "full" (V.int n) []).lookup ("may_stand" : Str) = none := l_no n (by decide +kernel)
    have nst : (putF "full" (V.int n) []).lookup ("steps" : Str) = none := l_no n (by decide +kernel)
    have ns : (flds w h l0 sg).lookup ("sign" : Str) = none := nofl (by decide +kernel) (by decide +kernel) (by decide +kernel) (by decide +kernel)
    have nce : (flds w h l0 sg).lookup ("cells" : Str) = none := nofl (by decide +kernel) (by decide +kernel) (by decide +kernel) (by decide +kernel)
    have nch : (flds w h l0 sg).lookup ("chargers" : Str) = none := nofl (by decide +kernel) (by decide +kernel) (by decide +kernel) (by decide +kernel)
    have lc := z220 g
    refine z4 (fun σ H' => ∃ d, H d = none ∧ Same H H' ∧ H' d = some (.dK []) ∧ σ = [some (V.ref fl), some (V.ref p), some (V.ref d), none, none, none]) (fun nx hk => ?_) ?_
    · walk_at "RD"
      exact fun d nd => hk _ _ ⟨d, nd, zz0 nd, upd_same, rfl⟩
    rintro σ H1 ⟨d, nd, s1, hd, rfl⟩
    refine z4 (fun σ H' => ∃ (ls : List (Int × Addr)) (x3 : Option V), Same H H' ∧ IntoAt H' d sg ls (fun _ => []) ∧ (∀ q ∈ ls, H q.2 = none) ∧ σ = [some (V.ref fl), some (V.ref p), some (V.ref d), x3, none, none]) (fun nx hk => ?_) ?_
    · walk_at "RD"
      refine ⟨_, _, s1 _ _ h1, nce, fl, w, h, sg, rfl, F0.same s1, g, fun r H2 nr s2 hr => ⟨r, rfl, ⟨_, SqL.of hr⟩, for_list (K := K) (a := r) (xs := (cellsOf sg).map V.int) (fun j σ H' => ∃ (ls : List (Int × Addr)) (x3 : Option V), Same H H' ∧ H' r = some (.lst ((cellsOf sg).map V.int)) ∧ H' d = some (.dK (ls.map fun q => ((Sum.inl q.1 : Key), V.ref q.2))) ∧ ls.map (·.1) = (cellsOf sg).take j ∧ (ls.map (·.2)).Nodup ∧ (∀ q ∈ ls, H' q.2 = some (.lst [])) ∧ (∀ q ∈ ls, H q.2 = none) ∧ σ = [some (V.ref fl), some (V.ref p), some (V.ref d), x3, none, none]) ⟨[], none, s1.trans s2, hr, s2 _ _ hd, rfl, List.nodup_nil, by simp, by simp, rfl⟩ ?_ ?_ ?_⟩⟩
      · rintro j σ H' _ ⟨ls, x3, _, hr', _⟩
        exact SqL.of hr'
      · rintro j y σ H' hy ⟨ls, x3, s3, hr3, hd3, kl, nl, el, fl', rfl⟩
        rw [List.getElem?_map] at hy
        obtain ⟨c, hcj, rfl⟩ := Option.map_eq_some_iff.mp hy
        walk_at "RD"
        refine ⟨Nat.zero_le _, fun a na => ?_⟩
        have rd : r ≠ d := ne_of hr3 hd3 (fun z => by cases z)
        have ra : r ≠ a := ne_of_none hr3 na
        have da : d ≠ a := ne_of_none hd3 na
        have cn : ¬ c ∈ ls.map (·.1) := by rw [kl]; exact z425 (z300 sg) hcj
        have ll : ls.length ≤ 100 := by
          have := congrArg List.length kl
          rw [List.length_map, List.length_take] at this
          omega
        have vn : valV (ls.map fun q => ((Sum.inl q.1 : Key), V.ref q.2)) (.inl c) = none := by
          cases e : valV (ls.map fun q => ((Sum.inl q.1 : Key), V.ref q.2)) (.inl c) with
          | none => rfl
          | some v =>
            have := valV_in e
            rw [List.map_map] at this
            obtain ⟨q, hq1, hq2⟩ := List.mem_map.mp this
            exact absurd (List.mem_map.mpr ⟨q, hq1, Sum.inl.inj hq2⟩) cn
        have qa : ∀ q ∈ ls, q.2 ≠ a := fun q hq' z => by have := el q hq'; rw [z, na] at this; cases this
        have qd : ∀ q ∈ ls, q.2 ≠ d := fun q hq' => ne_of (el q hq') hd3 (fun z => by cases z)
        have hd4 : upd H' a (HO.lst []) d = some (.dK (ls.map fun q => ((Sum.inl q.1 : Key), V.ref q.2))) := by rw [upd_ne da]; exact hd3
        refine ⟨_, DPut.k (k := .inl c) hd4 (by rw [List.length_map]; omega), fun b o e => ?_, ?_, ls ++ [(c, a)], ?_, ?_, ?_, fun q hq' => ?_, fun q hq' => ?_, _, rfl⟩
        · rw [upd_ne (ne_of_none e nd), upd_ne (ne_of_none (s3 _ _ e) na)]
          exact s3 _ _ e
        · rw [upd_ne rd, upd_ne ra]
          exact hr3
        · rw [upd_same, putK_new _ vn, List.map_append]
          rfl
        · rw [List.map_append, kl, List.take_add_one, hcj]
          rfl
        · rw [List.map_append]
          exact nd_snoc nl fun z => by
            obtain ⟨q, hq1, hq2⟩ := List.mem_map.mp z
            exact qa q hq1 hq2
        · rcases List.mem_append.mp hq' with z | z
          · rw [upd_ne (qd q z), upd_ne (qa q z)]
            exact el q z
          · rw [List.mem_singleton.mp z, upd_ne da.symm, upd_same]
        · rcases List.mem_append.mp hq' with z | z
          · exact fl' q z
          · rw [List.mem_singleton.mp z]
            exact s3.free na
      · rintro σ H' ⟨ls, x3, s3, hr3, hd3, kl, nl, el, fl', rfl⟩
        rw [List.length_map, List.take_length] at kl
        exact hk _ _ ⟨ls, x3, s3, ⟨hd3, kl, nl, fun q hq' => ⟨[], el q hq', .nil⟩⟩, fl', rfl⟩
    rintro σ H2 ⟨ls, x3, s2, hI, fls, rfl⟩
    have stl := z76 g i
    have qrs : ∀ r, H2 r = none → ∀ q ∈ ls, q.2 ≠ r := fun r nr q hq' z => by
      obtain ⟨us, e, _⟩ := hI.lists q hq'
      rw [z, nr] at e
      cases e
    refine z4 (fun σ H' => ∃ (x3 x4 x5 : Option V), Same H H' ∧ IntoAt H' d sg ls (intoL i w sg (v1 i sg)) ∧ σ = [some (V.ref fl), some (V.ref p), some (V.ref d), x3, x4, x5]) (fun nx hk => ?_) ?_
    · walk_at "RD"
      refine ⟨p, fl, i, n, w, h, sg, rfl, hc.same s2, hi, F0.same s2, g, fun r H3 nr s3 hr => ⟨r, rfl, ⟨_, SqL.of hr⟩, for_list (K := K) (a := r) (xs := (v1 i sg).map V.int) (fun j σ H' => ∃ (x3 x4 x5 : Option V), Same H H' ∧ H' r = some (.lst ((v1 i sg).map V.int)) ∧ IntoAt H' d sg ls (intoL i w sg ((v1 i sg).take j)) ∧ σ = [some (V.ref fl), some (V.ref p), some (V.ref d), x3, x4, x5]) ⟨x3, none, none, s2.trans s3, hr, ⟨s3 _ _ hI.at_, hI.keys, hI.nd, fun q hq' => z67 s3 (hI.lists q hq')⟩, rfl⟩ ?_ ?_ ?_⟩⟩
      · rintro j σ H' _ ⟨_, _, _, _, hr', _⟩
        exact SqL.of hr'
      · rintro j y σ H' hy ⟨x3, x4, x5, s4, hr4, hI4, rfl⟩
        rw [List.getElem?_map] at hy
        obtain ⟨c, hcj, rfl⟩ := Option.map_eq_some_iff.mp hy
        have qr := qrs r nr
        have hcm : c ∈ v1 i sg := List.mem_of_getElem? hcj
        have cF := z222 (List.mem_filter.mp hcm).1
        have sl := z370 (i := i) (w := w) (sg := sg) (c := c)
        walk_at "RD"
        refine ⟨p, dp, _, (clsOf ad i, z468 ad), e_al4 i hi, rfl, s4 _ _ hp, nst, p, fl, i, n, w, h, sg, c, rfl, hc.same s4, hi, F0.same s4, g, cF, fun r2 H5 nr2 s5 ⟨ts, hts, pr⟩ => ⟨r2, rfl, ⟨_, SqL.of hts⟩, ?_⟩⟩
        have lts := Paired.length pr
        refine for_list (K := K) (a := r2) (xs := ts.map V.ref) (fun j2 σ H' => ∃ (x4 x5 : Option V), Same H H' ∧ H' r = some (.lst ((v1 i sg).map V.int)) ∧ H' r2 = some (.lst (ts.map V.ref)) ∧ Paired (PairAt H') ts (z12 i w sg c) ∧ IntoAt H' d sg ls (fun o => intoL i w sg ((v1 i sg).take j) o ++ into1 i w sg o c ((z12 i w sg c).take j2)) ∧ (∀ q ∈ ls, q.2 ≠ r2) ∧ σ = [some (V.ref fl), some (V.ref p), some (V.ref d), some (V.int c), x4, x5]) ⟨x4, x5, s4.trans s5, s5 _ _ hr4, hts, pr, ⟨s5 _ _ hI4.at_, hI4.keys, hI4.nd, fun q hq' => ?_⟩, fun q hq' z => ?_, rfl⟩ ?_ ?_ ?_
        · have := z67 s5 (hI4.lists q hq')
          simpa [into1] using this
        · obtain ⟨us, e, _⟩ := hI4.lists q hq'
          rw [z, nr2] at e
          cases e
        · rintro j2 σ H6 _ ⟨_, _, _, _, h6, _⟩
          exact SqL.of h6
        · rintro j2 y σ H6 hy2 ⟨x4, x5, s6, hr6, hts6, pr6, hI6, qr2, rfl⟩
          rw [List.getElem?_map] at hy2
          obtain ⟨t, ht, rfl⟩ := Option.map_eq_some_iff.mp hy2
          obtain ⟨⟨o, kc⟩, hok, hto⟩ := Paired.at1 pr6 ht
          have hto : H6 t = some (.tup [.int o, .int kc]) := hto
          have om : o ∈ cellsOf sg := z475 (List.mem_of_getElem? hok)
          obtain ⟨ao, hao, hval⟩ := ls_get (o := o) (ls := ls) (by rw [hI6.keys]; exact om)
          obtain ⟨us, hus, pu⟩ := hI6.lists _ hao
          have lu := Paired.length pu
          have b1 := z366 (i := i) (w := w) (sg := sg) ((v1 i sg).take j) o
          have b2 := z472 (i := i) (w := w) (sg := sg) (o := o) (c := c) ((z12 i w sg c).take j2)
          rw [List.length_take] at b1 b2
          simp only [List.length_append] at lu
          walk_at "RD"
          refine ⟨_, SqT.of hto, rfl, _, _, rfl, _, _, rfl, rfl, V.ref ao, ?_, .inl ⟨rfl, _, SqL.of hus⟩, by omega, fun t' nt' => ?_⟩
          · have := DGet.k (k := .inl o) hI6.at_
            rw [hval] at this
            exact this
          · have S := zz0 (o := HO.tup [V.int c, V.int kc]) nt'
            have hus' := S _ _ hus
            have tk : ∀ {x : Addr} {ys : List V}, H6 x = some (.tup ys) → upd (upd H6 t' (HO.tup [V.int c, V.int kc])) ao (HO.lst (us.map V.ref ++ [V.ref t'])) x = some (.tup ys) := fun {x} {ys} e => by
              rw [upd_ne (ne_of (S _ _ e) hus' (fun z => by cases z))]
              exact S _ _ e
            refine ⟨ao, rfl, _, hus', by rw [List.length_map]; omega, fun b u e => ?_, ?_, ?_, Paired.mapP pr6 fun _ _ z => tk z, ⟨?_, hI6.keys, hI6.nd, fun q hq' => ?_⟩, qr2, _, rfl⟩
            · rw [upd_ne (ne_of_none e (fls _ hao))]
              exact S _ _ (s6 _ _ e)
            · rw [upd_ne (qr _ hao).symm]
              exact S _ _ hr6
            · rw [upd_ne (qr2 _ hao).symm]
              exact S _ _ hts6
            · rw [upd_ne (ne_of (S _ _ hI6.at_) hus' (fun z => by cases z))]
              exact S _ _ hI6.at_
            · by_cases qa : q.2 = ao
              · have e := nd_inj (f := fun q : Int × Addr => q.2) hI6.nd hq' hao qa
                subst e
                refine ⟨us ++ [t'], by rw [upd_same, List.map_append]; rfl, ?_⟩
                show Paired _ _ (_ ++ into1 i w sg o c _)
                rw [z395 hok, if_pos rfl, ← List.append_assoc]
                refine Paired.snoc (Paired.mapP pu fun _ _ z => tk z) ?_
                show upd _ ao _ t' = _
                rw [upd_ne (fun z => by rw [z, hus] at nt'; cases nt'), upd_same]
              · have qo : q.1 ≠ o := fun z => qa (by
                  have e := nd_inj (f := fun q : Int × Addr => q.1) (by rw [hI6.keys]; exact (z300 sg).imp fun h => by omega) hq' hao z
                  rw [e])
                obtain ⟨vs, hvs, pv⟩ := hI6.lists q hq'
                refine ⟨vs, by rw [upd_ne qa]; exact S _ _ hvs, ?_⟩
                show Paired _ _ (_ ++ into1 i w sg q.1 c _)
                rw [z395 hok, if_neg (fun z => qo z.symm), List.append_nil]
                exact Paired.mapP pv fun _ _ z => tk z
        · rintro σ H6 ⟨x4, x5, s6, hr6, hts6, pr6, hI6, qr2, rfl⟩
          refine ⟨s6, hr6, ⟨hI6.at_, hI6.keys, hI6.nd, fun q hq' => ?_⟩, _, _, _, rfl⟩
          have := hI6.lists q hq'
          rw [List.length_map, lts, List.take_length] at this
          rw [z584 hcj]
          exact this
      · rintro σ H' ⟨x3, x4, x5, s4, hr4, hI4, rfl⟩
        rw [List.length_map, List.take_length] at hI4
        exact hk _ _ ⟨x3, x4, x5, s4, hI4, rfl⟩
    rintro σ H3 ⟨x3, x4, x5, s3, hI3, rfl⟩
    walk_at "RD"
    exact hq d ls H3 nd s3 hI3
theorem sc_q30 : FnScope ["floor", "carrier", "goals", "into", "costs", "heap", "goal", "taken", "cell", "other", "cost"] ["floor", "carrier", "goals"] (defScope s_q30) := ⟨rfl, rfl, rfl, by decide +kernel, rfl, by decide +kernel, by decide +kernel⟩
set_option maxHeartbeats 4000000 in
theorem ok_q30 {fd : FuncData} (F : Fun K "costs_to" "costs_to" s_q30 ad.q30 fd) (T : Txt K mg ad) {fd_q18 : FuncData} (B_q18 : Binds K fd_q18 ["floor", "carrier"] []) (G_q18 : FnOk P w K mg base CX0 6 ad.q18 fd_q18 ["floor", "carrier"] (spInto ad)) {fd_q22 : FuncData} (B_q22 : Binds K fd_q22 ["self"] []) (G_q22 : FnOk P w K mg base CX0 1 ad.q22 fd_q22 ["self"] (z536 ad)) {fd_q29 : FuncData} (B_q29 : Binds K fd_q29 ["self", "thing"] []) (G_q29 : FnOk P w K mg base CX0 3 ad.q29 fd_q29 ["self", "thing"] (spHPut ad)) {fd_q24 : FuncData} (B_q24 : Binds K fd_q24 ["self"] []) (G_q24 : FnOk P w K mg base CX0 1 ad.q24 fd_q24 ["self"] (spSize ad)) {fd_q23 : FuncData} (B_q23 : Binds K fd_q23 ["self"] []) (G_q23 : FnOk P w K mg base CX0 3 ad.q23 fd_q23 ["self"] (spTake ad)) : FnOk P w K mg base CX0 7 ad.q30 fd ["floor", "carrier", "goals"] (z454 ad) := by
  refine F.ok sc_q30 (fun vs H Q E h => ?_) (fun cdv A outer s H vs Q E HR h => ?_)
  · obtain ⟨p, fl, l, i, n, w, h, sg, gs, rfl, _⟩ := h
    rfl
  · obtain ⟨p, fl, l, i, n, w, h, sg, gs, rfl, hc, hi, F0, g, hL, gl, gst, hq⟩ := h
    have ND := sc_q30.nd
    have HU0 := HR.units0
    have HU := HR.units
    have hA := HR.hd
    have hz : (100000 : Nat) ≤ sizeLine := by rw [sizeLine_eq]; decide
    refine ⟨_, (pss_cons (ps_set (i := 3) ND rfl (loc_of (Or.inl z380)) (pe_call G_q18 (HR.mono (by decide)) (gl_of z624) T.mg_q18 T.k_q18 B_q18 .nil pass0 (pa_cons (pe_var (i := 0) (x := "floor") rfl (vis_of z473) z62 z59) (pa_cons (pe_var (i := 1) (x := "carrier") rfl (vis_of z386) z260 z261) pa_nil (stp rfl)) (stp rfl)) (hdb := d_q18) (he := stp rfl) (hpl := anp rfl)))
 (pss_cons (ps_set (i := 4) ND rfl (loc_of (Or.inl z346)) pe_dnewK)
 (pss_cons (ps_set (i := 5) ND rfl (loc_of (Or.inl z383)) (pe_make0 T.mk_Heap G_q22 (HR.mono (by decide)) (gl_of z540) T.mg_Heap B_q22 .nil pass0 (hdb := d_Heap)))
 (pss_cons (ps_for PassesOwn.never (calm0 rfl) (pi_list (pe_var (i := 2) (x := "goals") rfl (vis_of z507) z721 z723)) (pg_name (i := 6) ND rfl (loc_of (Or.inl z379)))
 (pss_one (ps_expr (pe_meth (pe_var (i := 5) (x := "heap") rfl (vis_of z213) d_heap e_heap) T.cl_Heap T.m_q29 G_q29 (HR.mono (by decide)) B_q29 .nil pass0 (pa_cons (pe_tup (pa_cons pe_int (pa_cons (pe_var (i := 6) (x := "goal") rfl (vis_of z609) d_goal e_goal) pa_nil (stp rfl)) (stp rfl))) pa_nil (stp rfl)) (hst := stp rfl) (hpl := anp rfl)))))
 (pss_cons (ps_while PassesOwn.never (pt_cmpR op_gt (pe_meth0 (pe_var (i := 5) (x := "heap") rfl (vis_of z213) d_heap e_heap) T.cl_Heap T.m_q24 G_q24 (HR.mono (by decide)) B_q24 .nil pass0) pe_int (nomark _))
 (pss_cons (ps_set (i := 7) ND rfl (loc_of (Or.inl z353)) (pe_meth0 (pe_var (i := 5) (x := "heap") rfl (vis_of z213) d_heap e_heap) T.cl_Heap T.m_q23 G_q23 (HR.mono (by decide)) B_q23 .nil pass0))
 (pss_cons (ps_set (i := 8) ND rfl (loc_of (Or.inl z405)) (pe_ix ix_tup (pe_var (i := 7) (x := "taken") rfl (vis_of z236) z566 z514) pe_int (fun _ _ => rfl)))
 (pss_one (ps_if (pt_cmp (pc_dnotin (hu1 HU) (pe_var (i := 8) (x := "cell") rfl (vis_of z278) d_cell e_cell) (pe_var (i := 4) (x := "costs") rfl (vis_of z227) z559 z590)) (by with_unfolding_all rfl))
 (pss_cons (ps_dput (hu1 HU) (pe_var (i := 4) (x := "costs") rfl (vis_of z227) z559 z590) (pe_var (i := 8) (x := "cell") rfl (vis_of z278) d_cell e_cell) (pe_ix ix_tup (pe_var (i := 7) (x := "taken") rfl (vis_of z236) z566 z514) pe_int (fun _ _ => rfl)) rfl)
 (pss_one (ps_for PassesOwn.never (calm0 rfl) (pi_list (pe_dget (hu1 HU) (pe_var (i := 3) (x := "into") rfl (vis_of z541) d_into e_into) (pe_var (i := 8) (x := "cell") rfl (vis_of z278) d_cell e_cell) (fun _ _ => rfl))) (pg_tup (n := 2) (calm0 rfl) (pgs_cons (pg_name (i := 9) ND rfl (loc_of (Or.inl z331))) (pgs_cons (pg_name (i := 10) ND rfl (loc_of (Or.inl z421))) pgs_nil)))
 (pss_one (ps_expr (pe_meth (pe_var (i := 5) (x := "heap") rfl (vis_of z213) d_heap e_heap) T.cl_Heap T.m_q29 G_q29 (HR.mono (by decide)) B_q29 .nil pass0 (pa_cons (pe_tup (pa_cons (pe_op op_add (pe_ix ix_tup (pe_var (i := 7) (x := "taken") rfl (vis_of z236) z566 z514) pe_int (fun _ _ => rfl)) (pe_var (i := 10) (x := "cost") rfl (vis_of z607) d_cost e_cost)) (pa_cons (pe_var (i := 9) (x := "other") rfl (vis_of z494) z215 z200) pa_nil (stp rfl)) (stp rfl))) pa_nil (stp rfl)) (hst := stp rfl) (hpl := anp rfl)))))))
 pss_nil)))))
 (pss_one (ps_ret (pe_var (i := 4) (x := "costs") rfl (vis_of z227) z559 z590)))))))), ?_⟩
    have stl := z76 g i
    refine z4 (fun σ H' => ∃ (d : Addr) (ls : List (Int × Addr)), H d = none ∧ Same H H' ∧ IntoAt H' d sg ls (intoL i w sg (v1 i sg)) ∧ σ = [some (V.ref fl), some (V.ref p), some (V.ref l), some (V.ref d), none, none, none, none, none, none, none]) (fun nx hk => ?_) ?_
    · walk_at "RD"
      exact ⟨p, fl, i, n, w, h, sg, rfl, hc, hi, F0, g, fun r ls H' nr s hI => hk _ _ ⟨r, ls, nr, s, hI, rfl⟩⟩
    rintro σ H1 ⟨d, ls, nd, s1, hI, rfl⟩
    refine z4 (fun σ H' => ∃ cd, H1 cd = none ∧ H' = upd H1 cd (.dK []) ∧ σ = [some (V.ref fl), some (V.ref p), some (V.ref l), some (V.ref d), some (V.ref cd), none, none, none, none, none, none]) (fun nx hk => ?_) ?_
    · walk_at "RD"
      exact fun cd ncd => hk _ _ ⟨cd, ncd, rfl, rfl⟩
    rintro σ H2 ⟨cd, ncd, rfl, rfl⟩
    have s2 : Same H1 (upd H1 cd (.dK [])) := zz0 ncd
    refine z4 (fun σ H' => ∃ hp hl, upd H1 cd (.dK []) hp = none ∧ upd H1 cd (.dK []) hl = none ∧ Same (upd H1 cd (.dK [])) H' ∧ HeapAt ad H' hp hl [] ∧ σ = [some (V.ref fl), some (V.ref p), some (V.ref l), some (V.ref d), some (V.ref cd), some (V.ref hp), none, none, none, none, none]) (fun nx hk => ?_) ?_
    · walk_at "RD"
      intro x dx nx' ndx ne
      refine ⟨x, dx, rfl, upd_same, fun hl nl => ⟨rfl, ?_⟩⟩
      have lx : hl ≠ x := fun z => by rw [z, upd_same] at nl; cases nl
      have ld : hl ≠ dx := fun z => by rw [upd_ne lx, z, upd_same] at nl; cases nl
      have nl0 : upd H1 cd (.dK []) hl = none := by rw [upd_ne lx, upd_ne ld] at nl; exact nl
      refine hk _ _ ⟨x, hl, nx', nl0, fun b o e => ?_, ⟨⟨dx, upd_same⟩, ?_⟩, rfl⟩
      · rw [upd_ne (ne_of_none e nx'), upd_ne (ne_of_none e nl0), upd_ne (ne_of_none e nx'), upd_ne (ne_of_none e ndx)]
        exact e
      · rw [upd_ne lx, upd_same]
        rfl
    rintro σ H3 ⟨hp, hl, nhp, nhl, s3, hA, rfl⟩
    have s13 : Same H1 H3 := s2.trans s3
    have s03 : Same H H3 := s1.trans s13
    have cd3 : H3 cd = some (.dK []) := s3 _ _ upd_same
    have nhl1 : H1 hl = none := s2.free nhl
    have ncd0 : H cd = none := s1.free ncd
    have nhl0 : H hl = none := s1.free nhl1
    have dcd : d ≠ cd := ne_of_none hI.at_ ncd
    have dhl : d ≠ hl := ne_of_none hI.at_ nhl1
    have qne : ∀ q ∈ ls, q.2 ≠ hl ∧ q.2 ≠ cd := fun q hq' => by
      obtain ⟨us, e, _⟩ := hI.lists q hq'
      exact ⟨ne_of_none e nhl1, ne_of_none e ncd⟩
    have tne : ∀ x ys, H3 x = some (.tup ys) → x ≠ hl ∧ x ≠ cd := fun x ys e => ⟨ne_of e hA.2 (fun z => by cases z), ne_of e cd3 (fun z => by cases z)⟩
    have hI3 : IntoAt H3 d sg ls (intoL i w sg (v1 i sg)) := ⟨s13 _ _ hI.at_, hI.keys, hI.nd, fun q hq' => z67 s13 (hI.lists q hq')⟩
    have into_ : ∀ H', SameC hl cd H3 H' → IntoAt H' d sg ls (intoL i w sg (v1 i sg)) := fun H' s => hI3.keep s (fun _ _ _ _ => trivial) dhl dcd qne tne
    have lhl : l ≠ hl := ne_of_none hL nhl0
    have lcd : l ≠ cd := ne_of_none hL ncd0
    have gl3 : ∀ H', SameC hl cd H3 H' → H' l = some (.lst (gs.map V.int)) := fun H' s => s _ _ (s03 _ _ hL) lhl lcd
    refine z4 (fun σ H' => ∃ (ts : List Addr) (k : Addr → List Int) (x6 : Option V), SameC hl cd H3 H' ∧ H' cd = some (.dK []) ∧ HS ad H' hp hl ts k ∧ ts.length ≤ 200 ∧ (∀ n c, Itm k ts n c ↔ n = 0 ∧ c ∈ gs) ∧ σ = [some (V.ref fl), some (V.ref p), some (V.ref l), some (V.ref d), some (V.ref cd), some (V.ref hp), x6, none, none, none, none]) (fun nx hk => ?_) ?_
    · walk_at "RD"
      refine ⟨⟨_, SqL.of (s03 _ _ hL)⟩, for_list (K := K) (a := l) (xs := gs.map V.int) (fun j σ H' => ∃ (ts : List Addr) (k : Addr → List Int) (x6 : Option V), SameC hl cd H3 H' ∧ H' cd = some (.dK []) ∧ HS ad H' hp hl ts k ∧ ts.length = j ∧ (∀ n c, Itm k ts n c ↔ n = 0 ∧ c ∈ gs.take j) ∧ σ = [some (V.ref fl), some (V.ref p), some (V.ref l), some (V.ref d), some (V.ref cd), some (V.ref hp), x6, none, none, none, none]) ⟨[], fun _ => [], none, fun _ _ e _ _ => e, cd3, ⟨hA, (fun t ht => by cases ht), (fun i x y _ hx _ => by simp at hx), (fun t ht => by cases ht)⟩, rfl, fun n c => ⟨(fun ⟨t, ht, _⟩ => by cases ht), (fun h => by simp at h)⟩, rfl⟩ ?_ ?_ ?_⟩
      · rintro j σ H' _ ⟨ts, k, x6, s, _⟩
        exact SqL.of (gl3 H' s)
      · rintro j y σ H' hy ⟨ts, k, x6, sC, hcd, S, lt, it, rfl⟩
        rw [List.getElem?_map] at hy
        obtain ⟨c, hcj, rfl⟩ := Option.map_eq_some_iff.mp hy
        have lj := (List.getElem?_eq_some_iff.mp hcj).1
        obtain ⟨⟨dx, e1⟩, e2⟩ := S.hh
        walk_at "RD"
        refine ⟨_, _, e1, h_no hl (by decide +kernel), by omega, fun t nt => ?_⟩
        obtain ⟨p1, p2, p3⟩ := S.prep nt 0 c
        refine ⟨hp, hl, t, ts, kput k t 0 c, rfl, p1, p2, by omega, p3, fun us pu ho => ?_⟩
        have S2 := S.put nt pu ho
        have lu := pu.length_eq
        have chl : cd ≠ hl := ne_of hcd e2 (fun z => by cases z)
        refine ⟨fun b o e n1 n2 => ?_, ?_, us, kput k t 0 c, S2, by rw [lu, List.length_cons, lt], fun n' c' => ?_, _, rfl⟩
        · have := sC _ _ e n1 n2
          rw [upd_ne n1]
          exact (zz0 nt) _ _ this
        · rw [upd_ne chl]
          exact (zz0 nt) _ _ hcd
        · rw [z666 S nt pu, it, List.take_add_one, hcj]
          simp only [Option.toList_some, List.mem_append, List.mem_singleton]
          constructor
          · rintro (⟨h1, h2⟩ | ⟨h1, h2⟩)
            · exact ⟨h1, .inl h2⟩
            · exact ⟨h1, .inr h2⟩
          · rintro ⟨h1, h2 | h2⟩
            · exact .inl ⟨h1, h2⟩
            · exact .inr ⟨h1, h2⟩
      · rintro σ H' ⟨ts, k, x6, sC, hcd, S, lt, it, rfl⟩
        rw [List.length_map] at lt it
        rw [List.take_length] at it
        exact hk _ _ ⟨ts, k, x6, sC, hcd, S, by omega, it, rfl⟩
    rintro σ H4 ⟨ts0, k0, x6, sC4, hcd4, S4, lt4, it4, rfl⟩
    refine z4 (fun σ H' => ∃ (k : Addr → List Int) (kvs : List (Int × Int)) (x6 x7 x8 x9 x10 : Option V), CS ad i w sg gs H3 H' cd hp hl [] k kvs ∧ σ = [some (V.ref fl), some (V.ref p), some (V.ref l), some (V.ref d), some (V.ref cd), some (V.ref hp), x6, x7, x8, x9, x10]) (fun nx hk => ?_) ?_
    · refine ⟨fun m σ H' => CW ad i w sg gs H3 fl p l d cd hp hl m σ H', ⟨_, ts0, k0, [], x6, none, none, none, none, rfl, ⟨sC4, hcd4, S4, List.nodup_nil, by rw [z580]; simp, by rw [z580]; omega, ⟨(fun c n e => by cases e), fun n c hi => ?_, fun gg hg => .inr ((it4 0 gg).mpr ⟨rfl, hg⟩), (fun o n c w e => by cases e)⟩, fun m c hi => gst c ((it4 m c).mp hi).2⟩, rfl⟩, ?_⟩
      · obtain ⟨rfl, hg⟩ := (it4 n c).mp hi
        exact .goal hg
      rintro m σ H' ⟨ts, k, kvs, x6, x7, x8, x9, x10, rfl, cs, rfl⟩
      obtain ⟨⟨dx, e1⟩, e2⟩ := cs.hs.hh
      simp only [tNever, z269, iRng1, iRng2, gTup, gTupL, gCons, gNil, tRevT, rRep01, rCatT, rCat, rRep, rJoin, tLRng2, tMethV, tDisp, tPairs, tYes, tDGet, rClear, rExtend, z241, rNeN, tDIn, tDNotIn, tDNewK, sDPut, tDGet1, tAug, ipI, rLtT, tThawK, tThawE, iDictK, rEqK, tCallX, tMethX, tMakeX, tRaise, noW, tAsg, tOp, tUn, tVar, tC, rI0, rI, rU, tTest, tIfS, tNext, tRet, tRetN, tDrop, gName, tCB, tCons, tNil, tAndV, tOrV, tNotV, tAnd, tOr, tNot, tB, tIf, tChain, tCall, tBM, tBM0, tLst, tTup, tNoPart, tPart, tSlS, tSl, tBreak, tCont, rSlA, rSlL, rPopAt, rIn, rIxL, rIxT, rIxS, rEq, rNe, scal, rAppend, rPop, rIndex, tFld, sFld, tMeth, tMake, tDNewK, gSub, rSetL, z188, tComp, sComp, capσ, iStr, iList, iTup, rEqD, cxK, cxA, cxKc, cxAc, L2.start, List.map_cons, List.map_nil, List.length_cons, List.length_nil, List.replicate_succ, List.replicate_zero, List.cons_append, List.nil_append, List.append_nil, Nat.reduceAdd, Nat.reduceSub, List.set_cons_zero, List.set_cons_succ, List.getElem?_cons_zero, List.getElem?_cons_succ, Option.getD_some, Option.getD_none, Option.some.injEq, V.int.injEq, V.ref.injEq, V.bl.injEq, V.str.injEq, V.ty.injEq, exists_eq_left', exists_eq_left, exists_and_left, and_assoc, List.cons.injEq, and_true, true_and, decide_eq_true_eq, Bool.not_eq_true', decide_eq_false_iff_not, Bool.false_eq_true, if_false, if_true, reduceIte, Bool.not_true, Bool.not_false, beq_self_eq_true]
      refine ⟨_, _, e1, h_no hl (by decide +kernel), hp, hl, ts, rfl, cs.hs.hh, ?_⟩
      by_cases b : 0 < ((ts.length : Nat) : Int)
      · refine ⟨_, rfl, ?_⟩
        rw [if_pos b]
        refine ⟨fun σ' H'' => ∃ m', m' < ts.length + 401 * rem (v1 i sg) kvs ∧ CW ad i w sg gs H3 fl p l d cd hp hl m' σ' H'', fun _ _ y => y, ?_⟩
        have room := cs.room
        have cnt := cs.cnt
        have sC := cs.same
        have chl : cd ≠ hl := ne_of cs.cd_ e2 (fun z => by unfold costsD at z; cases z)
        refine z4 (fun σ H'' => ∃ (r : Addr) (us : List Addr), (r :: us).Perm ts ∧ (∀ t ∈ ts, Le (k r) (k t)) ∧ Hok k us ∧ H'' = upd H' hl (.lst (us.map V.ref)) ∧ σ = [some (V.ref fl), some (V.ref p), some (V.ref l), some (V.ref d), some (V.ref cd), some (V.ref hp), x6, some (V.ref r), x8, x9, x10]) (fun nx' hk' => ?_) ?_
        · walk_at "RD"
          exact ⟨_, _, e1, h_no hl (by decide +kernel), hp, hl, ts, k, rfl, cs.hs.hh, cs.hs.hk, (fun z => by rw [z] at b; simp at b), by omega, cs.hs.ho, fun r us pu hm ho => hk' _ _ ⟨r, us, pu, hm, ho, rfl, rfl⟩⟩
        rintro σ H6 ⟨r, us, pu, hmin, ho, rfl, rfl⟩
        have rm : r ∈ ts := pu.mem_iff.mp List.mem_cons_self
        have lu := pu.length_eq
        rw [List.length_cons] at lu
        obtain ⟨nr, c, hkr⟩ := cs.hs.two r rm
        have hr := cs.hs.hk r rm
        rw [hkr] at hr
        have S6 := cs.hs.take pu ho
        have hr6 : upd H' hl (.lst (us.map V.ref)) r = some (.tup [.int nr, .int c]) := by rw [upd_ne (ne_of hr e2 (fun z => by cases z))]; exact hr
        have cd6 : upd H' hl (.lst (us.map V.ref)) cd = some (costsD kvs) := by rw [upd_ne chl]; exact cs.cd_
        have sC6 : SameC hl cd H3 (upd H' hl (.lst (us.map V.ref))) := fun b o e n1 n2 => by rw [upd_ne n1]; exact sC _ _ e n1 n2
        have itr : Itm k ts nr c := ⟨r, rm, hkr⟩
        have cC : c ∈ v1 i sg := cs.inC nr c itr
        have hmn : ∀ m x, Itm k ts m x → nr ≤ m := fun m x ⟨t, ht, e⟩ => by
          have := hmin t ht
          rw [hkr, e] at this
          exact z724 this
        have i1 : ∀ m x, Itm k us m x → Itm k ts m x := fun m x ⟨t, ht, e⟩ => ⟨t, pu.mem_iff.mp (List.mem_cons_of_mem _ ht), e⟩
        have i2 : ∀ m x, Itm k ts m x → Itm k us m x ∨ x = c := fun m x ⟨t, ht, e⟩ => by
          rcases List.mem_cons.mp (pu.mem_iff.mpr ht) with z | z
          · rw [z, hkr] at e
            cases e
            exact .inr rfl
          · exact .inl ⟨t, z, e⟩
        refine z4 (fun σ H'' => H'' = upd H' hl (.lst (us.map V.ref)) ∧ σ = [some (V.ref fl), some (V.ref p), some (V.ref l), some (V.ref d), some (V.ref cd), some (V.ref hp), x6, some (V.ref r), some (V.int c), x9, x10]) (fun nx' hk' => ?_) ?_
        · walk_at "RD"
          exact ⟨_, SqT.of hr6, _, rfl, hk' _ _ ⟨rfl, rfl⟩⟩
        rintro σ H7 ⟨rfl, rfl⟩
        simp only [tNever, z269, iRng1, iRng2, gTup, gTupL, gCons, gNil, tRevT, rRep01, rCatT, rCat, rRep, rJoin, tLRng2, tMethV, tDisp, tPairs, tYes, tDGet, rClear, rExtend, z241, rNeN, tDIn, tDNotIn, tDNewK, sDPut, tDGet1, tAug, ipI, rLtT, tThawK, tThawE, iDictK, rEqK, tCallX, tMethX, tMakeX, tRaise, noW, tAsg, tOp, tUn, tVar, tC, rI0, rI, rU, tTest, tIfS, tNext, tRet, tRetN, tDrop, gName, tCB, tCons, tNil, tAndV, tOrV, tNotV, tAnd, tOr, tNot, tB, tIf, tChain, tCall, tBM, tBM0, tLst, tTup, tNoPart, tPart, tSlS, tSl, tBreak, tCont, rSlA, rSlL, rPopAt, rIn, rIxL, rIxT, rIxS, rEq, rNe, scal, rAppend, rPop, rIndex, tFld, sFld, tMeth, tMake, tDNewK, gSub, rSetL, z188, tComp, sComp, capσ, iStr, iList, iTup, rEqD, cxK, cxA, cxKc, cxAc, L2.start, List.map_cons, List.map_nil, List.length_cons, List.length_nil, List.replicate_succ, List.replicate_zero, List.cons_append, List.nil_append, List.append_nil, Nat.reduceAdd, Nat.reduceSub, List.set_cons_zero, List.set_cons_succ, List.getElem?_cons_zero, List.getElem?_cons_succ, Option.getD_some, Option.getD_none, Option.some.injEq, V.int.injEq, V.ref.injEq, V.bl.injEq, V.str.injEq, V.ty.injEq, exists_eq_left', exists_eq_left, exists_and_left, and_assoc, List.cons.injEq, and_true, true_and, decide_eq_true_eq, Bool.not_eq_true', decide_eq_false_iff_not, Bool.false_eq_true, if_false, if_true, reduceIte, Bool.not_true, Bool.not_false, beq_self_eq_true]
        have dg := DGet.k (k := .inl c) (show upd H' hl (.lst (us.map V.ref)) cd = some (.dK (kvs.map fun q => ((Sum.inl q.1 : Key), V.int q.2))) from cd6)
        rw [val_cv] at dg
        refine ⟨_, dg, ?_⟩
        cases ec : cvOf kvs c with
        | some n0 =>
          rw [if_neg (by simp)]
          exact ⟨us.length + 401 * rem (v1 i sg) kvs, by omega, us, k, kvs, _, _, _, _, _, rfl, ⟨sC6, cd6, S6, cs.nd, cnt, by omega, cs.inv.drop (c := c) (by rw [ec]; rfl) i1 i2, fun m x hi => cs.inC m x (i1 m x hi)⟩, rfl⟩
        | none =>
          rw [if_pos (by simp)]
          have cn := z243.mp ec
          have ra := z450 (n := nr) (z284 i sg) cC cn
          have lk : kvs.length ≤ 100 := by omega
          have vn : valV (kvs.map fun q => ((Sum.inl q.1 : Key), V.int q.2)) (.inl c) = none := by rw [val_cv, ec]; rfl
          have hd6 := (into_ _ sC6)
          have ocell : c ∈ cellsOf sg := (List.mem_filter.mp cC).1
          obtain ⟨ao, hao, hval⟩ := ls_get (o := c) (ls := ls) (by rw [hI.keys]; exact ocell)
          have aohl := (qne _ hao).1
          have aocd := (qne _ hao).2
          refine z4 (fun σ H'' => H'' = upd (upd H' hl (.lst (us.map V.ref))) cd (costsD (kvs ++ [(c, nr)])) ∧ σ = [some (V.ref fl), some (V.ref p), some (V.ref l), some (V.ref d), some (V.ref cd), some (V.ref hp), x6, some (V.ref r), some (V.int c), x9, x10]) (fun nx' hk' => ?_) ?_
          · walk_at "RD"
            refine ⟨_, SqT.of hr6, _, rfl, _, DPut.k (k := .inl c) (show upd H' hl (.lst (us.map V.ref)) cd = some (.dK (kvs.map fun q => ((Sum.inl q.1 : Key), V.int q.2))) from cd6) (by rw [List.length_map]; omega), hk' _ _ ⟨?_, rfl⟩⟩
            rw [putK_new _ vn]
            unfold costsD
            rw [List.map_append]
            rfl
          rintro σ H8 ⟨rfl, rfl⟩
          have kee : ∀ b o, upd H' hl (.lst (us.map V.ref)) b = some o → (∀ kvs, o ≠ .dK kvs) → upd (upd H' hl (.lst (us.map V.ref))) cd (costsD (kvs ++ [(c, nr)])) b = some o := fun b o e no => by
            rw [upd_ne (fun z => by rw [z, cd6] at e; exact no _ (Option.some.inj e).symm)]
            exact e
          have S8 := S6.keep kee
          have sC8 : SameC hl cd H3 (upd (upd H' hl (.lst (us.map V.ref))) cd (costsD (kvs ++ [(c, nr)]))) := fun b o e n1 n2 => by rw [upd_ne n2]; exact sC6 _ _ e n1 n2
          have hr8 := kee _ _ hr6 (fun _ z => by cases z)
          have hI8 := into_ _ sC8
          obtain ⟨ps, hps3, pps⟩ := hI3.lists _ hao
          have hps := sC8 _ _ hps3 aohl aocd
          have lps := Paired.length pps
          have bl := z366 (i := i) (w := w) (sg := sg) (v1 i sg) c
          have lps' : ps.length ≤ 400 := by
            have : ps.length = (intoL i w sg (v1 i sg) c).length := lps
            omega
          walk_at "RD"
          refine ⟨V.ref ao, ?_, ao, rfl, ⟨_, SqL.of hps⟩, ?_⟩
          · have := DGet.k (k := .inl c) hI8.at_
            rw [hval] at this
            exact this
          refine for_list (K := K) (a := ao) (xs := ps.map V.ref) (fun j σ H'' => ∃ (ts' : List Addr) (k' : Addr → List Int) (x9 x10 : Option V), SameC hl cd H3 H'' ∧ H'' cd = some (costsD (kvs ++ [(c, nr)])) ∧ H'' r = some (.tup [.int nr, .int c]) ∧ HS ad H'' hp hl ts' k' ∧ ts'.length = us.length + j ∧ (∀ m x, Itm k' ts' m x ↔ Itm k us m x ∨ ∃ wc, (x, wc) ∈ (intoL i w sg (v1 i sg) c).take j ∧ m = nr + wc) ∧ σ = [some (V.ref fl), some (V.ref p), some (V.ref l), some (V.ref d), some (V.ref cd), some (V.ref hp), x6, some (V.ref r), some (V.int c), x9, x10]) ⟨us, k, x9, x10, sC8, upd_same, hr8, S8, rfl, fun m x => by simp, rfl⟩ ?_ ?_ ?_
          · rintro j σ H'' _ ⟨ts', k', x9, x10, sC9, _⟩
            exact SqL.of (sC9 _ _ hps3 aohl aocd)
          · rintro j y σ H9 hy ⟨ts', k', x9, x10, sC9, cd9, hr9, S9, lt9, it9, rfl⟩
            rw [List.getElem?_map] at hy
            obtain ⟨t, ht, rfl⟩ := Option.map_eq_some_iff.mp hy
            obtain ⟨⟨x, wc⟩, hxw, hto⟩ := Paired.at1 pps ht
            have hto : H3 t = some (.tup [.int x, .int wc]) := hto
            have hto9 := sC9 _ _ hto (tne _ _ hto).1 (tne _ _ hto).2
            have lj := (List.getElem?_eq_some_iff.mp ht).1
            obtain ⟨⟨dx9, f1⟩, f2⟩ := S9.hh
            walk_at "RD"
            refine ⟨_, SqT.of hto9, rfl, _, _, rfl, _, _, rfl, rfl, _, _, f1, h_no hl (by decide +kernel), _, SqT.of hr9, _, rfl, _, rfl, _, rfl, by omega, fun t' nt' => ?_⟩
            obtain ⟨p1, p2, p3⟩ := S9.prep nt' (nr + wc) x
            refine ⟨hp, hl, t', ts', kput k' t' (nr + wc) x, rfl, p1, p2, by omega, p3, fun vs pv ho' => ?_⟩
            have S10 := S9.put nt' pv ho'
            have lv := pv.length_eq
            have chl9 : cd ≠ hl := chl
            refine ⟨fun b o e n1 n2 => ?_, ?_, ?_, vs, kput k' t' (nr + wc) x, S10, by rw [lv, List.length_cons, lt9]; omega, fun m x' => ?_, _, rfl⟩
            · rw [upd_ne n1]
              exact (zz0 nt') _ _ (sC9 _ _ e n1 n2)
            · rw [upd_ne chl9]
              exact (zz0 nt') _ _ cd9
            · rw [upd_ne (ne_of hr9 f2 (fun z => by cases z))]
              exact (zz0 nt') _ _ hr9
            · rw [z666 S9 nt' pv, it9, List.take_add_one, hxw]
              simp only [Option.toList_some, List.mem_append, List.mem_singleton, Prod.mk.injEq]
              constructor
              · rintro ((z | ⟨w', h1, h2⟩) | ⟨h1, h2⟩)
                · exact .inl z
                · exact .inr ⟨w', .inl h1, h2⟩
                · exact .inr ⟨wc, .inr ⟨h2, rfl⟩, h1⟩
              · rintro (z | ⟨w', h1 | ⟨h1, h3⟩, h2⟩)
                · exact .inl (.inl z)
                · exact .inl (.inr ⟨w', h1, h2⟩)
                · subst h3
                  exact .inr ⟨h2, h1⟩
          · rintro σ H9 ⟨ts', k', x9, x10, sC9, cd9, hr9, S9, lt9, it9, rfl⟩
            rw [List.length_map] at lt9 it9
            rw [lps, List.take_length] at it9
            refine ⟨ts'.length + 401 * rem (v1 i sg) (kvs ++ [(c, nr)]), by omega, ts', k', _, _, _, _, _, _, rfl, ⟨sC9, cd9, S9, ?_, ?_, by omega, ?_, fun m x hi => ?_⟩, rfl⟩
            · rw [List.map_append]
              exact nd_snoc cs.nd cn
            · rw [List.length_append, List.length_cons, List.length_nil]
              omega
            · refine cs.inv.add (z265 i w sg) itr hmn ec (z715 ec) (fun m x hi => ?_) (fun m x hi => ?_) fun x wc hx hs => ?_
              · rcases (it9 m x).mp hi with z | ⟨wc, hw, e⟩
                · exact .inl (i1 m x z)
                · exact .inr ⟨wc, (z371.mp hw).1, (z371.mp hw).2, e⟩
              · exact (i2 m x hi).imp (fun z => (it9 m x).mpr (.inl z)) id
              · exact (it9 _ x).mpr (.inr ⟨wc, z371.mpr ⟨hx, hs⟩, rfl⟩)
            · rcases (it9 m x).mp hi with z | ⟨wc, hw, e⟩
              · exact cs.inC m x (i1 m x z)
              · exact (z371.mp hw).1
      · refine ⟨_, rfl, ?_⟩
        rw [if_neg b]
        obtain rfl : ts = [] := List.length_eq_zero_iff.mp (by omega)
        exact hk _ _ ⟨k, kvs, x6, x7, x8, x9, x10, cs, rfl⟩
    rintro σ H5 ⟨k, kvs, x6, x7, x8, x9, x10, cs, rfl⟩
    walk_at "RD"
    refine hq cd kvs H5 ncd0 (fun b o e => cs.same _ _ (s03 _ _ e) (ne_of_none e nhl0) (ne_of_none e ncd0)) cs.cd_ (z632 g cs)
theorem sc_q31 : FnScope ["floor", "carrier", "chargers"] ["floor", "carrier"] (defScope s_q31) := ⟨rfl, rfl, rfl, by decide +kernel, rfl, by decide +kernel, by decide +kernel⟩
set_option maxHeartbeats 4000000 in
theorem ok_q31 {fd : FuncData} (F : Fun K "needs_of" "needs_of" s_q31 ad.q31 fd) (T : Txt K mg ad) {fd_q7 : FuncData} (B_q7 : Binds K fd_q7 ["self"] []) (G_q7 : FnOk P w K mg base CX0 1 ad.q7 fd_q7 ["self"] (z286 ad.C_Floor)) {fd_q20 : FuncData} (B_q20 : Binds K fd_q20 ["self", "cell"] []) (G_q20 : FnOk P w K mg base CX0 1 ad.q20 fd_q20 ["self", "cell"] (spSign ad.C_Floor)) {fd_q2 : FuncData} (B_q2 : Binds K fd_q2 ["self", "sign"] []) (G_q2 : FnOk P w K mg base CX0 1 ad.q2 fd_q2 ["self", "sign"] (spMay 0)) {fd_q3 : FuncData} (B_q3 : Binds K fd_q3 ["self", "sign"] []) (G_q3 : FnOk P w K mg base CX0 1 ad.q3 fd_q3 ["self", "sign"] (spMay 1)) {fd_q30 : FuncData} (B_q30 : Binds K fd_q30 ["floor", "carrier", "goals"] []) (G_q30 : FnOk P w K mg base CX0 7 ad.q30 fd_q30 ["floor", "carrier", "goals"] (z454 ad)) : FnOk P w K mg base CX0 8 ad.q31 fd ["floor", "carrier"] (z558 ad) := by
  refine F.ok sc_q31 (fun vs H Q E h => ?_) (fun cdv A outer s H vs Q E HR h => ?_)
  · obtain ⟨p, fl, i, n, w, h, sg, rfl, _⟩ := h
    rfl
  · obtain ⟨p, fl, i, n, w, h, sg, rfl, hc, hi, F0, g, hq⟩ := h
    have ND := sc_q31.nd
    have HU0 := HR.units0
    have HU := HR.units
    have hA := HR.hd
    have hz : (100000 : Nat) ≤ sizeLine := by rw [sizeLine_eq]; decide
    refine ⟨_, (pss_cons (z270 (i := 2) (z8.of (osc := defScope s_q31) (tn := ["cell"]) (cn := ["carrier", "floor"]) (caps := [1, 0]) rfl rfl (by decide +kernel) (by decide +kernel) (by decide +kernel) (by decide +kernel) rfl) (calm0 rfl) ND rfl z208 (pi_list (pe_meth0 (pe_var (i := 0) (x := "floor") rfl (vis_of z348) z62 z59) T.cl_Floor T.m_q7 G_q7 (HR.mono (by decide)) B_q7 .nil pass0))
 (fun _ _ _ _ _ => (pg_name (i := 0) (show (["cell", "carrier", "floor"] : List Str).Nodup by decide +kernel) rfl (Or.inl rfl))) (fun _ _ _ _ _ => (z95 (pt_val (z194 (k := 1) (pv 1) (z5 T.cl_Cart T.m_Cart_may_stand G_q2 (by decide) B_q2 (z5 T.cl_Crawler T.m_q3 G_q3 (by decide) B_q3 (z5 T.cl_Runner T.m_Runner_may_stand G_q2 (by decide) B_q2 (z5 T.cl_Carrier T.m_q2 G_q2 (by decide) B_q2 z189)))) (HR.mono (by decide)) (pa_cons (pe_meth (pv 2) T.cl_Floor T.m_q20 G_q20 (HR.mono (by decide)) B_q20 .nil pass0 (pa_cons (pv 0) pa_nil (stp rfl)) (hst := stp rfl) (hpl := anp rfl)) pa_nil (stp rfl)) (hst := stp rfl) (hpl := anp rfl))))) (fun _ _ _ _ _ => (pv 0)) (hsw := by rfl))
 (pss_one (ps_ret (pe_call G_q30 (HR.mono (by decide)) (gl_of z628) T.mg_q30 T.k_q30 B_q30 .nil pass0 (pa_cons (pe_var (i := 0) (x := "floor") rfl (vis_of z348) z62 z59) (pa_cons (pe_var (i := 1) (x := "carrier") rfl (vis_of z394) z260 z261) (pa_cons (pe_var (i := 2) (x := "chargers") rfl (vis_of z365) z587 z518) pa_nil (stp rfl)) (stp rfl)) (stp rfl)) (hdb := d_q30) (he := stp rfl) (hpl := anp rfl))))), ?_⟩
    obtain ⟨dx, l0, h1, h2⟩ := id F0.ob
    obtain ⟨dp, hp⟩ := id hc
    obtain ⟨jm, hjm, ejm⟩ := e_may (ad := ad) i hi
    have nm : (putF "full" (V.int n) []).lookup ("may_stand" : Str) = none := l_no n (by decide +kernel)
    have nst : (putF "full" (V.int n) []).lookup ("steps" : Str) = none := l_no n (by decide +kernel)
    have ns : (flds w h l0 sg).lookup ("sign" : Str) = none := nofl (by decide +kernel) (by decide +kernel) (by decide +kernel) (by decide +kernel)
    have nce : (flds w h l0 sg).lookup ("cells" : Str) = none := nofl (by decide +kernel) (by decide +kernel) (by decide +kernel) (by decide +kernel)
    have nch : (flds w h l0 sg).lookup ("chargers" : Str) = none := nofl (by decide +kernel) (by decide +kernel) (by decide +kernel) (by decide +kernel)
    refine z4 (fun σ H' => ∃ D, Same H H' ∧ H' D = some (.lst (((z13 sg).filter fun c => stands i (at_ sg c)).map V.int)) ∧ σ = [some (V.ref fl), some (V.ref p), some (V.ref D)]) (fun nx hk => ?_) ?_
    · walk_at "RD"
      refine ⟨_, _, h1, nch, fl, w, h, sg, rfl, F0, g, fun r H1 nr s1 hr => ?_⟩
      refine ⟨r, rfl, ⟨_, SqL.of hr⟩, z22 (src_list (SqL.of hr)) (stV i sg) (fun v => v) (fun y hy Q' hh => ?_) (fun y hy _ Q' hh => by walk_at "RD"; exact hh) (by rw [List.length_map]; have := z196 g; omega) (fun D nD => ?_)⟩
      · obtain ⟨c, hcm, rfl⟩ := List.mem_map.mp hy
        have cF := z476 hcm
        walk_at "RD"
        refine ⟨p, dp, _, (clsOf ad i, spMay jm), hjm, rfl, s1 _ _ hp, nm, _, _, s1 _ _ h1, ns, fl, w, h, sg, c, rfl, F0.same s1, g, cF.1, cF.2, _, _, rfl, _, rfl, ?_⟩
        rw [ejm]
        exact hh
      · rw [z198]
        exact hk _ _ ⟨D, s1.trans (zz0 nD), upd_same, rfl⟩
    rintro σ H1 ⟨D, s1, hD, rfl⟩
    walk_at "RD"
    refine ⟨p, fl, D, i, n, w, h, sg, _, rfl, hc.same s1, hi, F0.same s1, g, hD, Nat.le_trans (List.length_filter_le _ _) (by have := z196 g; omega), fun c hcm => ?_, fun r kvs H2 nr s2 hr hcs => hq r kvs H2 (s1.free nr) (s1.trans s2) hr hcs⟩
    obtain ⟨h3, h4⟩ := List.mem_filter.mp hcm
    rw [z237] at h3
    exact List.mem_filter.mpr ⟨(List.mem_filter.mp h3).1, h4⟩
theorem sc_q41 : FnScope ["_law_kind", "_law_lines_here", "_law_goals", "_law_found", "_law_cells_here", "_law_rows", "_law_before", "_law_cell", "_law_steps_here", "_law_some"] ["_law_kind", "_law_lines_here", "_law_goals"] (defScope s_q41) := ⟨rfl, rfl, rfl, by decide +kernel, rfl, by decide +kernel, by decide +kernel⟩
set_option maxHeartbeats 4000000 in
theorem ok_q41 {fd : FuncData} (F : Fun K "_law_costs" "_law_costs" s_q41 ad.q41 fd) (T : Txt K mg ad) {fd_q39 : FuncData} (B_q39 : Binds K fd_q39 ["_law_lines_here"] []) (G_q39 : FnOk P w K mg base CX0 2 ad.q39 fd_q39 ["_law_lines_here"] (z310)) {fd_q35 : FuncData} (B_q35 : Binds K fd_q35 ["_law_kind", "_law_sign_here"] []) (G_q35 : FnOk P w K mg base CX0 1 ad.q35 fd_q35 ["_law_kind", "_law_sign_here"] (z293)) {fd_Lsign : FuncData} (B_Lsign : Binds K fd_Lsign ["_law_lines_here", "_law_cell"] []) (G_Lsign : FnOk P w K mg base CX0 1 ad.Lsign fd_Lsign ["_law_lines_here", "_law_cell"] (z340)) {fd_q40 : FuncData} (B_q40 : Binds K fd_q40 ["_law_kind", "_law_lines_here", "_law_cell"] []) (G_q40 : FnOk P w K mg base CX0 4 ad.q40 fd_q40 ["_law_kind", "_law_lines_here", "_law_cell"] (z429)) : FnOk P w K mg base CX0 5 ad.q41 fd ["_law_kind", "_law_lines_here", "_law_goals"] (z432) := by
  refine F.ok sc_q41 (fun vs H Q E h => ?_) (fun cdv A outer s H vs Q E HR h => ?_)
  · obtain ⟨x, i, l, gl, w, h, sg, gs, rfl, _⟩ := h
    rfl
  · obtain ⟨x, i, l, gl, w, h, sg, gs, rfl, hi, hL, g, hG, gln, gst, hq⟩ := h
    have ND := sc_q41.nd
    have HU0 := HR.units0
    have HU := HR.units
    have hA := HR.hd
    have hz : (100000 : Nat) ≤ sizeLine := by rw [sizeLine_eq]; decide
    refine ⟨_, (pss_cons (ps_set (i := 3) ND rfl (loc_of (Or.inr z125)) (pe_callTy (z550 rfl) (gl_of z374) T.b_dict PyProof.Rows.Boot.«dict» (pa_cons (z94 (z8.of (osc := defScope s_q41) (tn := ["_law_goal"]) (cn := []) (caps := []) rfl rfl (by decide +kernel) (by decide +kernel) (by decide +kernel) (by decide +kernel) rfl) (calm0 rfl)  (pi_list (pe_var (i := 2) (x := "_law_goals") rfl (vis_of z271) z99 z103))
 (fun _ _ _ _ _ => (pg_name (i := 0) (show (["_law_goal"] : List Str).Nodup by decide +kernel) rfl (Or.inl rfl))) (fun _ _ _ _ _ => z281) (fun _ _ _ _ _ => (pe_tup (pa_cons (pv 0) (pa_cons pe_int pa_nil (stp rfl)) (stp rfl))))) pa_nil (stp rfl)) (hn := n_dict) (hdb := d_dict) (he := stp rfl) (hpl := anp rfl)))
 (pss_cons (z270 (i := 4) (z8.of (osc := defScope s_q41) (tn := ["_law_cell"]) (cn := ["_law_kind", "_law_lines_here"]) (caps := [0, 1]) rfl rfl (by decide +kernel) (by decide +kernel) (by decide +kernel) (by decide +kernel) rfl) (calm0 rfl) ND rfl z57 (pi_list (pe_call G_q39 (HR.mono (by decide)) (gl_of z309) T.mg_q39 T.k_q39 B_q39 .nil pass0 (pa_cons (pe_var (i := 1) (x := "_law_lines_here") rfl (vis_of z163) y2 y3) pa_nil (stp rfl)) (hdb := z193) (he := stp rfl) (hpl := anp rfl)))
 (fun _ _ _ _ _ => (pg_name (i := 0) (show (["_law_cell", "_law_kind", "_law_lines_here"] : List Str).Nodup by decide +kernel) rfl (Or.inl rfl))) (fun _ _ _ _ _ => (z95 (pt_val (pe_call G_q35 (HR.mono (by decide)) (by rfl) T.mg_q35 T.k_q35 B_q35 .nil pass0 (pa_cons (pv 1) (pa_cons (pe_call G_Lsign (HR.mono (by decide)) (by rfl) T.mg_Lsign T.k_Lsign B_Lsign .nil pass0 (pa_cons (pv 2) (pa_cons (pv 0) pa_nil (stp rfl)) (stp rfl)) (hdb := z37) (he := stp rfl) (hpl := anp rfl)) pa_nil (stp rfl)) (stp rfl)) (hdb := z149) (he := stp rfl) (hpl := anp rfl))))) (fun _ _ _ _ _ => (pv 0)) (hsw := by rfl))
 (pss_cons (z270 (i := 5) (z8.of (osc := defScope s_q41) (tn := ["_law_cell"]) (cn := ["_law_kind", "_law_lines_here"]) (caps := [0, 1]) rfl rfl (by decide +kernel) (by decide +kernel) (by decide +kernel) (by decide +kernel) rfl) (calm0 rfl) ND rfl z178 (pi_list (pe_var (i := 4) (x := "_law_cells_here") rfl (vis_of z160) z250 z256))
 (fun _ _ _ _ _ => (pg_name (i := 0) (show (["_law_cell", "_law_kind", "_law_lines_here"] : List Str).Nodup by decide +kernel) rfl (Or.inl rfl))) (fun _ _ _ _ _ => z281) (fun _ _ _ _ _ => (pe_tup (pa_cons (pv 0) (pa_cons (pe_call G_q40 (HR.mono (by decide)) (by rfl) T.mg_q40 T.k_q40 B_q40 .nil pass0 (pa_cons (pv 1) (pa_cons (pv 2) (pa_cons (pv 0) pa_nil (stp rfl)) (stp rfl)) (stp rfl)) (hdb := z423) (he := stp rfl) (hpl := anp rfl)) pa_nil (stp rfl)) (stp rfl)))) (hsw := by rfl))
 (pss_cons (ps_set (i := 6) ND rfl (loc_of (Or.inl z53)) pe_non)
 (pss_cons (ps_while PassesOwn.never (pt_cmpR (op_neN (hu65 HR)) (pe_var (i := 6) (x := "_law_before") rfl (vis_of z252) z417 z404) (pe_var (i := 3) (x := "_law_found") rfl (vis_of z17) z7 z6) (nomark _))
 (pss_cons (ps_set (i := 6) ND rfl (loc_of (Or.inl z53)) (pe_callTy z406 (gl_of z374) T.b_dict PyProof.Rows.Boot.«dict» (pa_cons (pe_var (i := 3) (x := "_law_found") rfl (vis_of z17) z7 z6) pa_nil (stp rfl)) (hn := n_dict) (hdb := d_dict) (he := stp rfl) (hpl := anp rfl)))
 (pss_one (ps_for PassesOwn.never (calm0 rfl) (pi_list (pe_var (i := 5) (x := "_law_rows") rfl (vis_of z322) z481 z486)) (pg_tup (n := 2) (calm0 rfl) (pgs_cons (pg_name (i := 7) ND rfl (loc_of (Or.inl z179))) (pgs_cons (pg_name (i := 8) ND rfl (loc_of (Or.inl z61))) pgs_nil)))
 (pss_cons (z270 (i := 9) (z8.of (osc := defScope s_q41) (tn := ["_law_other", "_law_taken"]) (cn := ["_law_found"]) (caps := [3]) rfl rfl (by decide +kernel) (by decide +kernel) (by decide +kernel) (by decide +kernel) rfl) (calm0 rfl) ND rfl z173 (pi_list (pe_var (i := 8) (x := "_law_steps_here") rfl (vis_of z166) z247 z251))
 (fun _ _ _ _ _ => (z678 rfl (calm0 rfl) (show (["_law_other", "_law_taken", "_law_found"] : List Str).Nodup by decide +kernel) (Or.inl rfl) (Or.inl rfl) rfl rfl)) (fun _ _ _ _ _ => (z95 (pt_cmp (pc_din (hu1 HU) (pv 0) (pv 2)) (by with_unfolding_all rfl)))) (fun _ _ _ _ _ => (pe_op op_add (pv 1) (pe_dget (hu1 HU) (pv 2) (pv 0) (fun _ _ => rfl)))) (hsw := by rfl))
 (pss_one (ps_if (PW.pt (pw_and (pt_cmpR (op_neD HU) (pe_var (i := 9) (x := "_law_some") rfl (vis_of z85) z233 z230) (pe_lst pa_nil) (nomark _)) (pw_and1 (PW.pt (pw_or (pt_cmp (pc_dnotin (hu1 HU) (pe_var (i := 7) (x := "_law_cell") rfl (vis_of z84) z11 z10) (pe_var (i := 3) (x := "_law_found") rfl (vis_of z17) z7 z6)) (by with_unfolding_all rfl)) (pw_or1 (pt_cmpR op_lt (pe_callB (z458 rfl) (gl_of z453) T.b_min PyProof.Rows.Boot.«min» (pa_cons (pe_var (i := 9) (x := "_law_some") rfl (vis_of z85) z233 z230) pa_nil (stp rfl)) (hn := n_min) (hdb := d_min) (he := stp rfl) (hpl := anp rfl)) (pe_dget (hu1 HU) (pe_var (i := 3) (x := "_law_found") rfl (vis_of z17) z7 z6) (pe_var (i := 7) (x := "_law_cell") rfl (vis_of z84) z11 z10) (fun _ _ => rfl)) (nomark _))))))))
 (pss_one (ps_dput (hu1 HU) (pe_var (i := 3) (x := "_law_found") rfl (vis_of z17) z7 z6) (pe_var (i := 7) (x := "_law_cell") rfl (vis_of z84) z11 z10) (pe_callB (z458 rfl) (gl_of z453) T.b_min PyProof.Rows.Boot.«min» (pa_cons (pe_var (i := 9) (x := "_law_some") rfl (vis_of z85) z233 z230) pa_nil (stp rfl)) (hn := n_min) (hdb := d_min) (he := stp rfl) (hpl := anp rfl)) rfl))
 pss_nil)))))))
 (pss_one (ps_ret (pe_var (i := 3) (x := "_law_found") rfl (vis_of z17) z7 z6)))))))), ?_⟩
    obtain ⟨_, _, k3⟩ := kx i x hi
    have stl := z76 g i
    refine z4 (fun σ H' => ∃ (d : Addr) (kvs : List (Int × Int)), H d = none ∧ Same H H' ∧ H' d = some (costsD kvs) ∧ FS i w sg gs kvs ∧ σ = [some (V.str x), some (V.ref l), some (V.ref gl), some (V.ref d), none, none, none, none, none, none]) (fun nx hk => ?_) ?_
    · walk_at "RD"
      refine ⟨⟨_, SqL.of hG⟩, z363 (K := K) (a := gl) (xs := gs.map V.int) (fun j ys H' => Same H H' ∧ ∃ ts : List Addr, ys = ts.map V.ref ∧ Paired (PairAt H') ts ((gs.take j).map fun d => (d, 0))) ⟨Same.refl _, [], rfl, .nil⟩ ?_ ?_ ?_⟩
      · rintro j ys H' _ ⟨s, _⟩
        exact SqL.of (s _ _ hG)
      · rintro j y ys H' hy ⟨s, ts, rfl, pr⟩
        rw [List.getElem?_map] at hy
        obtain ⟨c, hcj, rfl⟩ := Option.map_eq_some_iff.mp hy
        have lp := Paired.length pr
        rw [List.length_map, List.length_take] at lp
        walk_at "RD"
        refine ⟨by omega, fun t nt => ⟨by rw [List.length_map]; omega, s.trans (zz0 nt), ts ++ [t], by simp, ?_⟩⟩
        rw [List.take_add_one, hcj, List.map_append]
        exact Paired.snoc (Paired.mapP pr fun _ _ z => (zz0 nt) _ _ z) upd_same
      · rintro ys H' ⟨s, ts, rfl, pr⟩
        rw [List.length_map, List.take_length] at pr
        have lp := Paired.length pr
        rw [List.length_map] at lp
        refine ⟨by rw [List.length_map]; omega, fun D nD => ⟨ts, upd_same, gs.map fun d => ((Sum.inl d : Key), V.int 0), ?_, fun d nd => ?_⟩⟩
        · have := z533 (Paired.mapP pr fun _ _ z => (zz0 (o := HO.lst (ts.map V.ref)) nD) _ _ z)
          rw [List.map_map] at this
          exact this
        · obtain ⟨kvs, e, F⟩ := z696 (w := w) gst
          have s2 := s.trans ((zz0 (o := HO.lst (ts.map V.ref)) nD))
          rw [e]
          exact hk _ _ ⟨d, kvs, s2.free nd, s2.trans (zz0 nd), upd_same, F, rfl⟩
    rintro σ H1 ⟨fd, kvs0, nfd, s1, hfd1, F0, rfl⟩
    refine z4 (fun σ H' => ∃ (cl : Addr), H1 cl = none ∧ Same H1 H' ∧ H' cl = some (.lst ((v1 i sg).map V.int)) ∧ σ = [some (V.str x), some (V.ref l), some (V.ref gl), some (V.ref fd), some (V.ref cl), none, none, none, none, none]) (fun nx hk => ?_) ?_
    · walk_at "RD"
      refine ⟨l, w, h, sg, rfl, s1 _ _ hL, g, fun r H2 nr s2 hr => ⟨r, rfl, ⟨_, SqL.of hr⟩, z22 (src_list (SqL.of hr)) (stV i sg) (fun v => v) (fun y hy Q' hh => ?_) (fun y hy _ Q' hh => by walk_at "RD"; exact hh) (by rw [List.length_map]; have := z220 g; omega) (fun D nD => ?_)⟩⟩
      · obtain ⟨c, hcm, rfl⟩ := List.mem_map.mp hy
        have cF := z222 hcm
        walk_at "RD"
        exact ⟨l, w, h, sg, c, rfl, (s1.trans s2) _ _ hL, g, cF.1, cF.2, i, _, x, rfl, hi, _, rfl, hh⟩
      · rw [z198]
        exact hk _ _ ⟨D, s2.free nD, s2.trans (zz0 nD), upd_same, rfl⟩
    rintro σ H2 ⟨cl, ncl, s2, hcl, rfl⟩
    have s12 := s1.trans s2
    refine z4 (fun σ H' => ∃ (rl : Addr) (rs : List Addr), H2 rl = none ∧ Same H2 H' ∧ H' rl = some (.lst (rs.map V.ref)) ∧ Paired (RowAt i w sg H') rs (v1 i sg) ∧ σ = [some (V.str x), some (V.ref l), some (V.ref gl), some (V.ref fd), some (V.ref cl), some (V.ref rl), none, none, none, none]) (fun nx hk => ?_) ?_
    · walk_at "RD"
      refine ⟨⟨_, SqL.of hcl⟩, z363 (K := K) (a := cl) (xs := (v1 i sg).map V.int) (fun j ys H' => Same H2 H' ∧ ∃ ts : List Addr, ys = ts.map V.ref ∧ Paired (RowAt i w sg H') ts ((v1 i sg).take j)) ⟨Same.refl _, [], rfl, .nil⟩ ?_ ?_ ?_⟩
      · rintro j ys H' _ ⟨s, _⟩
        exact SqL.of (s _ _ hcl)
      · rintro j y ys H' hy ⟨s, ts, rfl, pr⟩
        rw [List.getElem?_map] at hy
        obtain ⟨c, hcj, rfl⟩ := Option.map_eq_some_iff.mp hy
        have hcm : c ∈ v1 i sg := List.mem_of_getElem? hcj
        have cF := z222 (List.mem_filter.mp hcm).1
        have lp := Paired.length pr
        rw [List.length_take] at lp
        walk_at "RD"
        refine ⟨x, i, l, w, h, sg, c, rfl, hi, (s12.trans s) _ _ hL, g, cF, fun r H3 nr s3 pL => ⟨by omega, fun t nt => ⟨by rw [List.length_map]; omega, (s.trans s3).trans (zz0 nt), ts ++ [t], by simp, ?_⟩⟩⟩
        rw [← z698 g cF.1 cF.2 (List.mem_filter.mp hcm).2] at pL
        rw [List.take_add_one, hcj]
        have S := zz0 (o := HO.tup [V.int c, V.ref r]) nt
        exact Paired.snoc (Paired.mapP pr fun _ _ ⟨a, e, p⟩ => ⟨a, S _ _ (s3 _ _ e), z67 (s3.trans S) p⟩) ⟨r, upd_same, z67 S pL⟩
      · rintro ys H' ⟨s, ts, rfl, pr⟩
        rw [List.length_map, List.take_length] at pr
        have lp := Paired.length pr
        refine ⟨by rw [List.length_map]; omega, fun D nD => ?_⟩
        have S := zz0 (o := HO.lst (ts.map V.ref)) nD
        exact hk _ _ ⟨D, ts, s.free nD, s.trans S, upd_same, Paired.mapP pr fun _ _ ⟨a, e, p⟩ => ⟨a, S _ _ e, z67 S p⟩, rfl⟩
    rintro σ H3 ⟨rl, rs, nrl, s3, hrl, prs, rfl⟩
    have s23 := s2.trans s3
    have hfd3 : H3 fd = some (costsD kvs0) := s23 _ _ hfd1
    have lrs := Paired.length prs
    have rlfd : rl ≠ fd := ne_of hrl hfd3 (fun z => by unfold costsD at z; cases z)
    refine z4 (fun σ H' => H' = H3 ∧ σ = [some (V.str x), some (V.ref l), some (V.ref gl), some (V.ref fd), some (V.ref cl), some (V.ref rl), some V.non, none, none, none]) (fun nx hk => ?_) ?_
    · walk_at "RD"
      exact hk _ _ ⟨rfl, rfl⟩
    rintro σ H3 ⟨rfl, rfl⟩
    refine z4 (fun σ H' => ∃ (kvs : List (Int × Int)) (x6 x7 x8 x9 : Option V), LS i w sg gs fd H3 H' kvs ∧ fixAt i w sg kvs (v1 i sg) ∧ σ = [some (V.str x), some (V.ref l), some (V.ref gl), some (V.ref fd), some (V.ref cl), some (V.ref rl), x6, x7, x8, x9]) (fun nx hk => ?_) ?_
    · refine ⟨fun m σ H' => LW i w sg gs H3 x l gl fd cl rl m σ H', ⟨_, kvs0, _, none, none, none, ⟨fun _ _ e _ => e, hfd3, F0⟩, rfl, .inl ⟨rfl, rfl⟩⟩, ?_⟩
      rintro m σ H' ⟨kvs, x6, x7, x8, x9, S, rfl, hm⟩
      have lkv := S.fs.len g
      have T : ∃ b : Bool, (∀ C : Bool → Hp → Prop, C b H' → tTest (tOp (rNeN K) (tVar 6) (tVar 3)) [some (V.str x), some (V.ref l), some (V.ref gl), some (V.ref fd), some (V.ref cl), some (V.ref rl), x6, x7, x8, x9] H' C) ∧ ((b = true ∧ m = 2 * phi (v1 i sg) kvs + 1) ∨ (b = false ∧ fixAt i w sg kvs (v1 i sg))) := by
        rcases hm with ⟨rfl, e⟩ | ⟨bd, kb, rfl, hbd, Fb, hm⟩
        · refine ⟨true, fun C hC => ?_, .inl ⟨rfl, e⟩⟩
          walk_at "RD"
          exact .inl ⟨_, S.at_, hC⟩
        · have kh := khits K H' kvs kb
          rcases hm with ⟨lt, e⟩ | ⟨rfl, fx, e⟩
          · refine ⟨true, fun C hC => ?_, .inl ⟨rfl, e⟩⟩
            walk_at "RD"
            refine .inr ⟨_, hbd, _, S.at_, _, fun _ => kh, ?_⟩
            have ne : (kb.length == kvs.length && allIn kvs kb) = false := by
              rw [Bool.eq_false_iff]
              intro z
              rw [Bool.and_eq_true, beq_iff_eq] at z
              have := eq_phi gst Fb S.fs z.1 z.2
              omega
            simp only [List.length_map, ne]
            exact hC
          · refine ⟨false, fun C hC => ?_, .inr ⟨rfl, fx⟩⟩
            walk_at "RD"
            refine .inr ⟨_, hbd, _, S.at_, _, fun _ => kh, ?_⟩
            simp only [List.length_map, beq_self_eq_true, z392 Fb.nd]
            exact hC
      obtain ⟨b, T, hb⟩ := T
      refine T _ ?_
      rcases hb with ⟨rfl, em⟩ | ⟨rfl, fx⟩
      · rw [if_pos rfl]
        refine ⟨fun σ' H'' => ∃ m', m' < m ∧ LW i w sg gs H3 x l gl fd cl rl m' σ' H'', fun _ _ y => y, ?_⟩
        refine z4 (fun σ H'' => ∃ bd, H' bd = none ∧ H'' = upd H' bd (costsD kvs) ∧ σ = [some (V.str x), some (V.ref l), some (V.ref gl), some (V.ref fd), some (V.ref cl), some (V.ref rl), some (V.ref bd), x7, x8, x9]) (fun nx' hk' => ?_) ?_
        · walk_at "RD"
          exact ⟨_, S.at_, fun bd nbd => hk' _ _ ⟨bd, nbd, rfl, rfl⟩⟩
        rintro σ _ ⟨bd, nbd, rfl, rfl⟩
        have bdfd : bd ≠ fd := fun z => by rw [z, S.at_] at nbd; cases nbd
        have rlH : ∀ H'', SameB fd H3 H'' → H'' rl = some (.lst (rs.map V.ref)) := fun H'' s => s _ _ hrl rlfd
        have sB : SameB fd H3 (upd H' bd (costsD kvs)) := fun b o e n => (zz0 nbd) _ _ (S.same _ _ e n)
        simp only [tNever, z269, iRng1, iRng2, gTup, gTupL, gCons, gNil, tRevT, rRep01, rCatT, rCat, rRep, rJoin, tLRng2, tMethV, tDisp, tPairs, tYes, tDGet, rClear, rExtend, z241, rNeN, tDIn, tDNotIn, tDNewK, sDPut, tDGet1, tAug, ipI, rLtT, tThawK, tThawE, iDictK, rEqK, tCallX, tMethX, tMakeX, tRaise, noW, tAsg, tOp, tUn, tVar, tC, rI0, rI, rU, tTest, tIfS, tNext, tRet, tRetN, tDrop, gName, tCB, tCons, tNil, tAndV, tOrV, tNotV, tAnd, tOr, tNot, tB, tIf, tChain, tCall, tBM, tBM0, tLst, tTup, tNoPart, tPart, tSlS, tSl, tBreak, tCont, rSlA, rSlL, rPopAt, rIn, rIxL, rIxT, rIxS, rEq, rNe, scal, rAppend, rPop, rIndex, tFld, sFld, tMeth, tMake, tDNewK, gSub, rSetL, z188, tComp, sComp, capσ, iStr, iList, iTup, rEqD, cxK, cxA, cxKc, cxAc, L2.start, List.map_cons, List.map_nil, List.length_cons, List.length_nil, List.replicate_succ, List.replicate_zero, List.cons_append, List.nil_append, List.append_nil, Nat.reduceAdd, Nat.reduceSub, List.set_cons_zero, List.set_cons_succ, List.getElem?_cons_zero, List.getElem?_cons_succ, Option.getD_some, Option.getD_none, Option.some.injEq, V.int.injEq, V.ref.injEq, V.bl.injEq, V.str.injEq, V.ty.injEq, exists_eq_left', exists_eq_left, exists_and_left, and_assoc, List.cons.injEq, and_true, true_and, decide_eq_true_eq, Bool.not_eq_true', decide_eq_false_iff_not, Bool.false_eq_true, if_false, if_true, reduceIte, Bool.not_true, Bool.not_false, beq_self_eq_true]
        refine ⟨⟨_, SqL.of (rlH _ sB)⟩, for_list (K := K) (a := rl) (xs := rs.map V.ref) (fun j σ H'' => ∃ (kv : List (Int × Int)) (x7 x8 x9 : Option V), LS i w sg gs fd H3 H'' kv ∧ H'' bd = some (costsD kvs) ∧ (phi (v1 i sg) kv < phi (v1 i sg) kvs ∨ (kv = kvs ∧ fixAt i w sg kvs ((v1 i sg).take j))) ∧ σ = [some (V.str x), some (V.ref l), some (V.ref gl), some (V.ref fd), some (V.ref cl), some (V.ref rl), some (V.ref bd), x7, x8, x9]) ⟨kvs, x7, x8, x9, ⟨sB, by rw [upd_ne (Ne.symm bdfd)]; exact S.at_, S.fs⟩, upd_same, .inr ⟨rfl, fun c hc => by simp at hc⟩, rfl⟩ ?_ ?_ ?_⟩
        · rintro j σ H'' _ ⟨kv, x7, x8, x9, S', _⟩
          exact SqL.of (rlH _ S'.same)
        · rintro j y σ H5 hy ⟨kv, x7, x8, x9, S5, hbd5, alt, rfl⟩
          rw [List.getElem?_map] at hy
          obtain ⟨t, htj, rfl⟩ := Option.map_eq_some_iff.mp hy
          obtain ⟨c, hcj, row⟩ := Paired.at1 prs htj
          have hcm : c ∈ v1 i sg := List.mem_of_getElem? hcj
          obtain ⟨a, hta, us, hau, pu⟩ := row.b S5.same hfd3
          have lu := Paired.length pu
          have s4 := z370 (i := i) (w := w) (sg := sg) (c := c)
          simp only [tNever, z269, iRng1, iRng2, gTup, gTupL, gCons, gNil, tRevT, rRep01, rCatT, rCat, rRep, rJoin, tLRng2, tMethV, tDisp, tPairs, tYes, tDGet, rClear, rExtend, z241, rNeN, tDIn, tDNotIn, tDNewK, sDPut, tDGet1, tAug, ipI, rLtT, tThawK, tThawE, iDictK, rEqK, tCallX, tMethX, tMakeX, tRaise, noW, tAsg, tOp, tUn, tVar, tC, rI0, rI, rU, tTest, tIfS, tNext, tRet, tRetN, tDrop, gName, tCB, tCons, tNil, tAndV, tOrV, tNotV, tAnd, tOr, tNot, tB, tIf, tChain, tCall, tBM, tBM0, tLst, tTup, tNoPart, tPart, tSlS, tSl, tBreak, tCont, rSlA, rSlL, rPopAt, rIn, rIxL, rIxT, rIxS, rEq, rNe, scal, rAppend, rPop, rIndex, tFld, sFld, tMeth, tMake, tDNewK, gSub, rSetL, z188, tComp, sComp, capσ, iStr, iList, iTup, rEqD, cxK, cxA, cxKc, cxAc, L2.start, List.map_cons, List.map_nil, List.length_cons, List.length_nil, List.replicate_succ, List.replicate_zero, List.cons_append, List.nil_append, List.append_nil, Nat.reduceAdd, Nat.reduceSub, List.set_cons_zero, List.set_cons_succ, List.getElem?_cons_zero, List.getElem?_cons_succ, Option.getD_some, Option.getD_none, Option.some.injEq, V.int.injEq, V.ref.injEq, V.bl.injEq, V.str.injEq, V.ty.injEq, exists_eq_left', exists_eq_left, exists_and_left, and_assoc, List.cons.injEq, and_true, true_and, decide_eq_true_eq, Bool.not_eq_true', decide_eq_false_iff_not, Bool.false_eq_true, if_false, if_true, reduceIte, Bool.not_true, Bool.not_false, beq_self_eq_true]
          refine ⟨_, SqT.of hta, rfl, _, _, rfl, _, _, rfl, rfl, ?_⟩
          refine z4 (fun σ H'' => ∃ ra, H5 ra = none ∧ H'' = upd H5 ra (.lst ((someOf kv (z12 i w sg c)).map V.int)) ∧ σ = [some (V.str x), some (V.ref l), some (V.ref gl), some (V.ref fd), some (V.ref cl), some (V.ref rl), some (V.ref bd), some (V.int c), some (V.ref a), some (V.ref ra)]) (fun nx' hk' => ?_) ?_
          · walk_at "RD"
            refine ⟨⟨_, SqL.of hau⟩, z519 (u := fun t => V.int (i0 H5 t)) (v := fun t => V.int (i1 H5 t)) (src_list (SqL.of hau)) (fun t ht => ?_) (fun t => (cvOf kv (i0 H5 t)).isSome) (fun t => V.int (i1 H5 t + (cvOf kv (i0 H5 t)).getD 0)) (fun t ht Q' hh => ?_) (fun t ht hp Q' hh => ?_) (by omega) (fun D nD => ?_)⟩
            · obtain ⟨q, e⟩ := z400 pu ht
              have e : H5 t = some (.tup [.int q.1, .int q.2]) := e
              have a0 : i0 H5 t = q.1 := by unfold i0; rw [e]
              have a1 : i1 H5 t = q.2 := by unfold i1; rw [e]
              show SqT K H5 t [.int (i0 H5 t), .int (i1 H5 t)]
              rw [a0, a1]
              exact SqT.of e
            · have dg := DGet.k (k := .inl (i0 H5 t)) (show H5 fd = some (.dK (kv.map fun q => ((Sum.inl q.1 : Key), V.int q.2))) from S5.at_)
              rw [val_cv] at dg
              walk_at "RD"
              refine ⟨_, dg, ?_⟩
              rw [Option.isSome_map]
              exact hh
            · have dg := DGet.k (k := .inl (i0 H5 t)) (show H5 fd = some (.dK (kv.map fun q => ((Sum.inl q.1 : Key), V.int q.2))) from S5.at_)
              rw [val_cv] at dg
              walk_at "RD"
              obtain ⟨n, hn⟩ := Option.isSome_iff_exists.mp hp
              rw [hn] at dg hh
              exact ⟨_, dg, _, rfl, hh⟩
            · rw [z461 kv pu]
              exact hk' _ _ ⟨D, nD, rfl, rfl⟩
          rintro σ _ ⟨ra, nra, rfl, rfl⟩
          walk_at "RD"
          refine ⟨Nat.zero_le _, fun p np => ?_⟩
          have sr : Same H5 (upd (upd H5 ra (.lst ((someOf kv (z12 i w sg c)).map V.int))) p (.lst [])) := (zz0 nra).trans (zz0 np)
          have hra := (zz0 (o := HO.lst []) np) _ _ (upd_same (H := H5) (a := ra) (o := HO.lst ((someOf kv (z12 i w sg c)).map V.int)))
          have hp := upd_same (H := upd H5 ra (.lst ((someOf kv (z12 i w sg c)).map V.int))) (a := p) (o := HO.lst [])
          generalize upd (upd H5 ra (.lst ((someOf kv (z12 i w sg c)).map V.int))) p (.lst []) = H6 at sr hra hp ⊢
          have S6 : LS i w sg gs fd H3 H6 kv := ⟨fun b o e n => sr _ _ (S5.same _ _ e n), sr _ _ S5.at_, S5.fs⟩
          have lkv5 := S5.fs.len g
          have hbd6 := sr _ _ hbd5
          refine ⟨_, z234 (SqL.of hra), _, .lst (SqL.of hp) .nil, shaped_ints _, rfl, ?_⟩
          have fix0 : (∀ o k n, (o, k) ∈ z12 i w sg c → cvOf kv o = some n → ∃ m, cvOf kv c = some m ∧ m ≤ k + n) → phi (v1 i sg) kv < phi (v1 i sg) kvs ∨ kv = kvs ∧ fixAt i w sg kvs ((v1 i sg).take (j + 1)) := fun hf => by
            rcases alt with lt | ⟨rfl, fx⟩
            · exact .inl lt
            · exact .inr ⟨rfl, z682 hcj fx fun x hx => by rw [List.mem_singleton.mp hx]; exact hf⟩
          have le0 : phi (v1 i sg) kv ≤ phi (v1 i sg) kvs := by
            rcases alt with lt | ⟨rfl, fx⟩
            · omega
            · exact Nat.le_refl _
          have dg := DGet.k (k := .inl c) (show H6 fd = some (.dK (kv.map fun q => ((Sum.inl q.1 : Key), V.int q.2))) from S6.at_)
          rw [val_cv] at dg
          have put : ∀ m, m ∈ someOf kv (z12 i w sg c) → (∀ m0, cvOf kv c = some m0 → m < m0) → ∃ x, DPut H6 fd (V.int c) (V.int m) x ∧ ∃ kv, LS i w sg gs fd H3 x kv ∧ x bd = some (costsD kvs) ∧ (phi (v1 i sg) kv < phi (v1 i sg) kvs ∨ kv = kvs ∧ fixAt i w sg kvs ((v1 i sg).take (j + 1))) ∧ ∃ x, some (V.ref ra) = x := fun m hm hl => by
            obtain ⟨o, k, n, h1, h2, rfl⟩ := z433.mp hm
            obtain ⟨F7, lt⟩ := S5.fs.put g gst hcm h1 h2 hl
            refine ⟨_, DPut.k (k := .inl c) (show H6 fd = some (.dK (kv.map fun q => ((Sum.inl q.1 : Key), V.int q.2))) from S6.at_) (by rw [List.length_map]; omega), putI kv c (k + n), ⟨fun b o e n => ?_, ?_, F7⟩, ?_, .inl (by omega), _, rfl⟩
            · rw [upd_ne n]
              exact S6.same _ _ e n
            · rw [upd_same, z361]
              rfl
            · rw [upd_ne bdfd]
              exact hbd6
          by_cases es : someOf kv (z12 i w sg c) = []
          · rw [es, if_neg (by decide)]
            refine ⟨kv, S6, hbd6, fix0 fun o k n h1 h2 => ?_, _, rfl⟩
            have := z433.mpr ⟨o, k, n, h1, h2, rfl⟩
            rw [es] at this
            cases this
          · rw [if_pos (by
              cases e : someOf kv (z12 i w sg c) with
              | nil => exact absurd e es
              | cons a b => rfl)]
            refine ⟨_, dg, ?_⟩
            cases ec : cvOf kv c with
            | none =>
              rw [if_pos (by simp)]
              exact ⟨_, SqL.of hra, es, fun m hm _ => put m hm (fun m0 e => by rw [ec] at e; cases e)⟩
            | some m0 =>
              rw [if_neg (by simp)]
              refine ⟨_, SqL.of hra, es, fun m hm hmin => ?_⟩
              rw [ec] at dg
              refine ⟨_, dg, m0, rfl, ?_⟩
              by_cases lt : m < m0
              · rw [if_pos lt]
                refine ⟨_, SqL.of hra, es, fun m1 hm1 hmin1 => put m1 hm1 fun m2 e => ?_⟩
                rw [ec] at e
                cases e
                have := hmin1 _ hm
                omega
              · rw [if_neg lt]
                refine ⟨kv, S6, hbd6, fix0 fun o k n h1 h2 => ⟨m0, ec, ?_⟩, _, rfl⟩
                have := hmin _ (z433.mpr ⟨o, k, n, h1, h2, rfl⟩)
                omega
        · rintro σ H5 ⟨kv, x7, x8, x9, S5, hbd5, alt, rfl⟩
          rw [List.length_map, lrs, List.take_length] at alt
          rcases alt with lt | ⟨rfl, fx⟩
          · exact ⟨_, by omega, kv, _, _, _, _, S5, rfl, .inr ⟨bd, kvs, rfl, hbd5, S.fs, .inl ⟨lt, rfl⟩⟩⟩
          · exact ⟨_, by omega, kv, _, _, _, _, S5, rfl, .inr ⟨bd, kv, rfl, hbd5, S.fs, .inr ⟨rfl, fx, rfl⟩⟩⟩
      · rw [if_neg (by decide)]
        exact hk _ _ ⟨kvs, x6, x7, x8, x9, S, fx, rfl⟩
    rintro σ H4 ⟨kvs, x6, x7, x8, x9, S, fx, rfl⟩
    walk_at "RD"
    exact hq fd kvs H4 nfd (fun b o e => S.same _ _ ((s1.trans s23) _ _ e) (ne_of_none e nfd)) S.at_ (S.fs.are g fx)
theorem z606 : FnScope ["_law_found", "_law_due"] ["_law_found", "_law_due"] (defScope z93) := ⟨rfl, rfl, rfl, by decide +kernel, rfl, by decide +kernel, by decide +kernel⟩
set_option maxHeartbeats 4000000 in
theorem z679 {fd : FuncData} (F : Fun K "_law_same" "_law_same" z93 ad.Lsame fd) (T : Txt K mg ad) {fd_q37 : FuncData} (B_q37 : Binds K fd_q37 ["_law_thing"] []) (G_q37 : FnOk P w K mg base CX0 1 ad.q37 fd_q37 ["_law_thing"] (z339 K)) : FnOk P w K mg base CX0 2 ad.Lsame fd ["_law_found", "_law_due"] (z527) := by
  refine F.ok z606 (fun vs H Q E h => ?_) (fun cdv A outer s H vs Q E HR h => ?_)
  · obtain ⟨a, b, i, w, sg, gs, ka, kb, rfl, _⟩ := h
    rfl
  · obtain ⟨a, b, i, w, sg, gs, ka, kb, rfl, ha, hb, ca, cb, hq⟩ := h
    have ND := z606.nd
    have HU0 := HR.units0
    have HU := HR.units
    have hA := HR.hd
    have hz : (100000 : Nat) ≤ sizeLine := by rw [sizeLine_eq]; decide
    refine ⟨_, (pss_cons (ps_if (PW.pt (pw_or (pt_not (pt_val (pe_callB z26 (gl_of z235) T.b_isinstance PyProof.Rows.Boot.«isinstance» (pa_cons (pe_var (i := 0) (x := "_law_found") rfl (vis_of z42) z7 z6) (pa_cons (pe_bltn (v := .ty "dict") (gl_of z428) T.b_dict PyProof.Rows.Boot.«dict» rfl (hn := n_dict) (hd := d_dict)) pa_nil (stp rfl)) (stp rfl)) (hn := z20) (hdb := z24) (he := stp rfl) (hpl := anp rfl)))) (pw_or1 (pt_cmpR (op_neK (hu65 HR)) (pe_var (i := 0) (x := "_law_found") rfl (vis_of z42) z7 z6) (pe_var (i := 1) (x := "_law_due") rfl (vis_of z277) z211 z209) (nomark _)))))
 (pss_one (ps_ret pe_bl))
 pss_nil)
 (pss_one (ps_ret (pe_cmpR (op_eqD HU) (z673 (z94 (z8.of (osc := defScope z93) (tn := ["_law_cell"]) (cn := ["_law_found"]) (caps := [0]) rfl rfl (by decide +kernel) (by decide +kernel) (by decide +kernel) (by decide +kernel) rfl) (calm0 rfl)  (z693 (pe_var (i := 0) (x := "_law_found") rfl (vis_of z42) z7 z6))
 (fun _ _ _ _ _ => (pg_name (i := 0) (show (["_law_cell", "_law_found"] : List Str).Nodup by decide +kernel) rfl (Or.inl rfl))) (fun _ _ _ _ _ => (z95 (PW.pt (pw_or (pt_not (pt_val (pe_call G_q37 (HR.mono (by decide)) (by rfl) T.mg_q37 T.k_q37 B_q37 .nil pass0 (pa_cons (pv 0) pa_nil (stp rfl)) (hdb := z289) (he := stp rfl) (hpl := anp rfl)))) (pw_or1 (pt_not (pt_val (pe_call G_q37 (HR.mono (by decide)) (by rfl) T.mg_q37 T.k_q37 B_q37 .nil pass0 (pa_cons (pe_dget (hu1 HU) (pv 1) (pv 0) (fun _ _ => rfl)) pa_nil (stp rfl)) (hdb := z289) (he := stp rfl) (hpl := anp rfl))))))))) (fun _ _ _ _ _ => (pv 0)))) (pe_lst pa_nil) (nomark _))))), ?_⟩
    obtain ⟨cl, call⟩ := z539 ca cb
    walk_at "RD"
    refine ⟨_, .dK ha, true, rfl, ?_⟩
    rw [if_neg (by decide)]
    refine ⟨_, ha, _, hb, _, fun _ => khits K H kb ka, ?_⟩
    rw [if_neg (by rw [List.length_map, List.length_map, cl, call]; simp)]
    have la := ca.len
    refine .inl ⟨a, _, ha, _, .inl ⟨ha, fun o => z22 (z660 upd_same) (fun _ => false) (fun v => v) (fun y hy Q' hh => ?_) (fun y hy z => absurd z (by simp)) (by rw [List.length_map, List.length_map]; omega) (fun D nD => ⟨⟨o, ?_⟩, Nat.zero_le _, fun p np => ?_⟩)⟩⟩
    · obtain ⟨kv, hkv, rfl⟩ := List.mem_map.mp hy
      obtain ⟨q, hq', rfl⟩ := List.mem_map.mp hkv
      have dg : DGet (upd H a (HO.frz o (costsD ka))) a (kV (Sum.inl q.1)) (valV (ka.map fun q => ((Sum.inl q.1 : Key), V.int q.2)) (.inl q.1)) := .inl ⟨_, _, .inr ⟨o, upd_same⟩, rfl, rfl⟩
      rw [val_cv, mem_cv ca.nd hq'] at dg
      walk_at "RD"
      refine ⟨_, rfl, ⟨_, .int _⟩, true, rfl, ?_⟩
      rw [if_neg (by decide)]
      exact ⟨_, dg, _, rfl, ⟨_, .int _⟩, true, rfl, hh⟩
    · rw [upd_ne (fun z => by rw [← z, upd_same] at nD; cases nD), upd_same]
    · have fz : ∀ xs : List V, (xs.filter fun _ => false) = [] := fun xs => by simp
      simp only [fz] at np ⊢
      have Dp : D ≠ p := fun z => by
        rw [← z, upd_ne (fun z => by rw [z, upd_same] at nD; cases nD), upd_same] at np
        cases np
      have Da : D ≠ a := fun z => by rw [z, upd_same] at nD; cases nD
      have pa : p ≠ a := fun z => by rw [z, upd_same] at np; cases np
      refine ⟨_, z234 (ns := []) (SqL.of (by rw [upd_ne Dp, upd_ne Da, upd_same]; rfl)), _, .lst (SqL.of upd_same) .nil, rfl, rfl, hq _ fun b o e => ?_⟩
      have bp : b ≠ p := fun z => by
        rw [← z] at np pa Dp
        rw [upd_ne pa, upd_ne (Ne.symm Dp), upd_ne pa, e] at np
        cases np
      rw [upd_ne bp]
      · by_cases z : b = a
        · rw [z, upd_same, ← e, z, ha]
          rfl
        · rw [upd_ne z, upd_ne (fun z2 => ?_), upd_ne z]
          · exact e
          · rw [← z2, upd_ne z, e] at nD
            cases nD
theorem sc_law : FnScope ["_law_script", "_law_lines_here", "_law_floor", "_law_cell", "_law_kind", "_law_carrier", "_law_able", "_law_goals", "_law_others", "_law_chargers", "_law_due", "_law_handed", "_law_kept", "_law_row", "_law_found", "_law_told"] ["_law_script"] (defScope s_law) := ⟨rfl, rfl, rfl, by decide +kernel, rfl, by decide +kernel, by decide +kernel⟩
set_option maxHeartbeats 4000000 in
theorem ok_law {fd : FuncData} (F : Fun K "law" "law" s_law ad.law fd) (T : Txt K mg ad) {fd_q38 : FuncData} (B_q38 : Binds K fd_q38 ["_law_script", "_law_k", "_law_most"] []) (G_q38 : FnOk P w K mg base CX0 2 ad.q38 fd_q38 ["_law_script", "_law_k", "_law_most"] (z612 K)) {fd_Lat : FuncData} (B_Lat : Binds K fd_Lat ["_law_script", "_law_k"] []) (G_Lat : FnOk P w K mg base CX0 1 ad.Lat fd_Lat ["_law_script", "_law_k"] (spAt K)) {fd_q19 : FuncData} (B_q19 : Binds K fd_q19 ["self", "lines"] []) (G_q19 : FnOk P w K mg base CX0 4 ad.q19 fd_q19 ["self", "lines"] (spInit ad.C_Floor)) {fd_q21 : FuncData} (B_q21 : Binds K fd_q21 ["kind", "full"] []) {td_carrier_of0 : Tok} (BD_q21 : Binds K fd_q21 ["kind", "full"] [.int 20 td_carrier_of0]) (G_q21 : FnOk P w K mg base CX0 3 ad.q21 fd_q21 ["kind", "full"] (spMake ad)) {fd_q39 : FuncData} (B_q39 : Binds K fd_q39 ["_law_lines_here"] []) (G_q39 : FnOk P w K mg base CX0 2 ad.q39 fd_q39 ["_law_lines_here"] (z310)) {fd_q35 : FuncData} (B_q35 : Binds K fd_q35 ["_law_kind", "_law_sign_here"] []) (G_q35 : FnOk P w K mg base CX0 1 ad.q35 fd_q35 ["_law_kind", "_law_sign_here"] (z293)) {fd_Lsign : FuncData} (B_Lsign : Binds K fd_Lsign ["_law_lines_here", "_law_cell"] []) (G_Lsign : FnOk P w K mg base CX0 1 ad.Lsign fd_Lsign ["_law_lines_here", "_law_cell"] (z340)) {fd_q41 : FuncData} (B_q41 : Binds K fd_q41 ["_law_kind", "_law_lines_here", "_law_goals"] []) (G_q41 : FnOk P w K mg base CX0 5 ad.q41 fd_q41 ["_law_kind", "_law_lines_here", "_law_goals"] (z432)) {fd_Lsame : FuncData} (B_Lsame : Binds K fd_Lsame ["_law_found", "_law_due"] []) (G_Lsame : FnOk P w K mg base CX0 2 ad.Lsame fd_Lsame ["_law_found", "_law_due"] (z527)) {fd_q31 : FuncData} (B_q31 : Binds K fd_q31 ["floor", "carrier"] []) (G_q31 : FnOk P w K mg base CX0 8 ad.q31 fd_q31 ["floor", "carrier"] (z558 ad)) {fd_q30 : FuncData} (B_q30 : Binds K fd_q30 ["floor", "carrier", "goals"] []) (G_q30 : FnOk P w K mg base CX0 7 ad.q30 fd_q30 ["floor", "carrier", "goals"] (z454 ad)) : FnOk P w K mg base CX0 9 ad.law fd ["_law_script"] (spLaw K) := by
  refine F.ok sc_law (fun vs H Q E h => ?_) (fun cdv A outer s H vs Q E HR h => ?_)
  · obtain ⟨a, ns, rfl, _⟩ := h
    rfl
  · obtain ⟨a, ns, rfl, hS, hl, hq⟩ := h
    have ND := sc_law.nd
    have HU0 := HR.units0
    have HU := HR.units
    have hA := HR.hd
    have hz : (100000 : Nat) ≤ sizeLine := by rw [sizeLine_eq]; decide
    refine ⟨_, (pss_cons (ps_set (i := 1) ND rfl (loc_of (Or.inr z56)) (pe_call G_q38 (HR.mono (by decide)) (gl_of z274) T.mg_q38 T.k_q38 B_q38 .nil pass0 (pa_cons (pe_var (i := 0) (x := "_law_script") rfl (vis_of z31) z18 z19) (pa_cons pe_int (pa_cons (pe_ix ix_list (pe_lst (pa_cons pe_int (pa_cons pe_int (pa_cons pe_int (pa_cons pe_int pa_nil (stp rfl)) (stp rfl)) (stp rfl)) (stp rfl))) (pe_op op_mod (pe_call G_Lat (HR.mono (by decide)) (gl_of z124) T.mg_Lat T.k_Lat B_Lat .nil pass0 (pa_cons (pe_var (i := 0) (x := "_law_script") rfl (vis_of z31) z18 z19) (pa_cons pe_int pa_nil (stp rfl)) (stp rfl)) (hdb := z159) (he := stp rfl) (hpl := anp rfl)) pe_int) (fun _ _ => rfl)) pa_nil (stp rfl)) (stp rfl)) (stp rfl)) (hdb := z427) (he := stp rfl) (hpl := anp rfl)))
 (pss_cons (ps_set (i := 2) ND rfl (loc_of (Or.inl z148)) (pe_make T.mk_Floor G_q19 (HR.mono (by decide)) (gl_of z485) T.mg_Floor B_q19 .nil pass0 (pa_cons (pe_callTy call_list_of (gl_of z513) T.b_list PyProof.Rows.Boot.«list» (pa_cons (pe_var (i := 1) (x := "_law_lines_here") rfl (vis_of z15) y2 y3) pa_nil (stp rfl)) (hn := n_list) (hdb := d_list) (he := stp rfl) (hpl := anp rfl)) pa_nil (stp rfl)) (hdb := z704) (he := stp rfl) (hpl := anp rfl)))
 (pss_cons (ps_set (i := 3) ND rfl (loc_of (Or.inl z180)) (pe_call G_Lat (HR.mono (by decide)) (gl_of z124) T.mg_Lat T.k_Lat B_Lat .nil pass0 (pa_cons (pe_var (i := 0) (x := "_law_script") rfl (vis_of z31) z18 z19) (pa_cons pe_int pa_nil (stp rfl)) (stp rfl)) (hdb := z159) (he := stp rfl) (hpl := anp rfl)))
 (pss_cons (ps_set (i := 4) ND rfl (loc_of (Or.inr z169)) (pe_ix ix_list (pe_lst (pa_cons pe_str (pa_cons pe_str (pa_cons pe_str pa_nil (stp rfl)) (stp rfl)) (stp rfl))) (pe_op op_mod (pe_var (i := 3) (x := "_law_cell") rfl (vis_of z48) z11 z10) pe_int) (fun _ _ => rfl)))
 (pss_cons (ps_set (i := 5) ND rfl (loc_of (Or.inl z97)) (pe_call G_q21 (HR.mono (by decide)) (gl_of z647) T.mg_q21 T.k_q21 B_q21 .nil pass0 (pa_cons (pe_var (i := 4) (x := "_law_kind") rfl (vis_of z81) z36 z35) (pa_cons (pe_op op_add pe_int (pe_op op_mod (pe_op op_fdiv (pe_var (i := 3) (x := "_law_cell") rfl (vis_of z48) z11 z10) pe_int) pe_int)) pa_nil (stp rfl)) (stp rfl)) (hdb := d_q21) (he := stp rfl) (hpl := anp rfl)))
 (pss_cons (ps_set (i := 6) ND rfl (loc_of (Or.inr z182)) (z94 (z8.of (osc := defScope s_law) (tn := ["_law_one"]) (cn := ["_law_kind", "_law_lines_here"]) (caps := [4, 1]) rfl rfl (by decide +kernel) (by decide +kernel) (by decide +kernel) (by decide +kernel) rfl) (calm0 rfl)  (pi_list (pe_call G_q39 (HR.mono (by decide)) (gl_of z295) T.mg_q39 T.k_q39 B_q39 .nil pass0 (pa_cons (pe_var (i := 1) (x := "_law_lines_here") rfl (vis_of z15) y2 y3) pa_nil (stp rfl)) (hdb := z193) (he := stp rfl) (hpl := anp rfl)))
 (fun _ _ _ _ _ => (pg_name (i := 0) (show (["_law_one", "_law_kind", "_law_lines_here"] : List Str).Nodup by decide +kernel) rfl (Or.inl rfl))) (fun _ _ _ _ _ => (z95 (pt_val (pe_call G_q35 (HR.mono (by decide)) (by rfl) T.mg_q35 T.k_q35 B_q35 .nil pass0 (pa_cons (pv 1) (pa_cons (pe_call G_Lsign (HR.mono (by decide)) (by rfl) T.mg_Lsign T.k_Lsign B_Lsign .nil pass0 (pa_cons (pv 2) (pa_cons (pv 0) pa_nil (stp rfl)) (stp rfl)) (hdb := z37) (he := stp rfl) (hpl := anp rfl)) pa_nil (stp rfl)) (stp rfl)) (hdb := z149) (he := stp rfl) (hpl := anp rfl))))) (fun _ _ _ _ _ => (pv 0))))
 (pss_cons (ps_set (i := 7) ND rfl (loc_of (Or.inl z69)) (pe_lst pa_nil))
 (pss_cons (ps_set (i := 8) ND rfl (loc_of (Or.inl z54)) (pe_lst pa_nil))
 (pss_cons (ps_if (pt_cmpR (op_neD HU) (pe_var (i := 6) (x := "_law_able") rfl (vis_of z43) z154 z152) (pe_lst pa_nil) (nomark _))
 (pss_cons (z270 (i := 7) (z8.of (osc := defScope s_law) (tn := ["_law_k"]) (cn := ["_law_able", "_law_script"]) (caps := [6, 0]) rfl rfl (by decide +kernel) (by decide +kernel) (by decide +kernel) (by decide +kernel) rfl) (calm0 rfl) ND rfl z69 (pi_range1 (gl_of z479) T.b_range (pa_cons (pe_op op_mod (pe_op op_fdiv (pe_var (i := 3) (x := "_law_cell") rfl (vis_of z48) z11 z10) pe_int) pe_int) pa_nil (stp rfl)) (st1 rfl))
 (fun _ _ _ _ _ => (pg_name (i := 0) (show (["_law_k", "_law_able", "_law_script"] : List Str).Nodup by decide +kernel) rfl (Or.inl rfl))) (fun _ _ _ _ _ => z281) (fun _ _ _ _ _ => (pe_ix (z690 (K := K) rfl) (pv 1) (pe_op op_mod (pe_call G_Lat (HR.mono (by decide)) (by rfl) T.mg_Lat T.k_Lat B_Lat .nil pass0 (pa_cons (pv 2) (pa_cons (pe_op op_add pe_int (pv 0)) pa_nil (stp rfl)) (stp rfl)) (hdb := z159) (he := stp rfl) (hpl := anp rfl)) (pe_callB (z382 (K := K) rfl) (by rfl) T.b_len PyProof.Rows.Boot.«len» (pa_cons (pv 1) pa_nil (stp rfl)) (hn := n_len) (hdb := d_len) (he := stp rfl) (hpl := anp rfl))) (fun _ _ => rfl))) (hsw := by rfl))
 (pss_one (ps_set (i := 8) ND rfl (loc_of (Or.inl z54)) (pe_op op_cat (pe_slice sl_list (pe_var (i := 7) (x := "_law_goals") rfl (vis_of z72) z99 z103) po_none (po_some pe_int)) (pe_lst (pa_cons (pe_ix ix_list (pe_var (i := 6) (x := "_law_able") rfl (vis_of z43) z154 z152) (pe_op op_mod (pe_call G_Lat (HR.mono (by decide)) (gl_of z124) T.mg_Lat T.k_Lat B_Lat .nil pass0 (pa_cons (pe_var (i := 0) (x := "_law_script") rfl (vis_of z31) z18 z19) (pa_cons pe_int pa_nil (stp rfl)) (stp rfl)) (hdb := z159) (he := stp rfl) (hpl := anp rfl)) (pe_callB call_len_seq (gl_of z452) T.b_len PyProof.Rows.Boot.«len» (pa_cons (pe_var (i := 6) (x := "_law_able") rfl (vis_of z43) z154 z152) pa_nil (stp rfl)) (hn := n_len) (hdb := d_len) (he := stp rfl) (hpl := anp rfl))) (fun _ _ => rfl)) pa_nil (stp rfl)))))))
 pss_nil)
 (pss_cons (z270 (i := 9) (z8.of (osc := defScope s_law) (tn := ["_law_one"]) (cn := ["_law_lines_here"]) (caps := [1]) rfl rfl (by decide +kernel) (by decide +kernel) (by decide +kernel) (by decide +kernel) rfl) (calm0 rfl) ND rfl z77 (pi_list (pe_var (i := 6) (x := "_law_able") rfl (vis_of z43) z154 z152))
 (fun _ _ _ _ _ => (pg_name (i := 0) (show (["_law_one", "_law_lines_here"] : List Str).Nodup by decide +kernel) rfl (Or.inl rfl))) (fun _ _ _ _ _ => (z95 (pt_cmpR op_eq (pe_call G_Lsign (HR.mono (by decide)) (by rfl) T.mg_Lsign T.k_Lsign B_Lsign .nil pass0 (pa_cons (pv 1) (pa_cons (pv 0) pa_nil (stp rfl)) (stp rfl)) (hdb := z37) (he := stp rfl) (hpl := anp rfl)) pe_str (nomark _)))) (fun _ _ _ _ _ => (pv 0)) (hsw := by rfl))
 (pss_cons (ps_set (i := 10) ND rfl (loc_of (Or.inl z212)) (pe_call G_q41 (HR.mono (by decide)) (gl_of z136) T.mg_q41 T.k_q41 B_q41 .nil pass0 (pa_cons (pe_var (i := 4) (x := "_law_kind") rfl (vis_of z81) z36 z35) (pa_cons (pe_var (i := 1) (x := "_law_lines_here") rfl (vis_of z15) y2 y3) (pa_cons (pe_var (i := 9) (x := "_law_chargers") rfl (vis_of z202) z327 z320) pa_nil (stp rfl)) (stp rfl)) (stp rfl)) (hdb := z272) (he := stp rfl) (hpl := anp rfl)))
 (pss_cons (ps_set (i := 11) ND rfl (loc_of (Or.inl z110)) (pe_lst pa_nil))
 (pss_cons (ps_set (i := 12) ND rfl (loc_of (Or.inl z170)) (pe_lst pa_nil))
 (pss_cons (ps_for PassesOwn.never (calm0 rfl) (pi_list (pe_lst (pa_cons (pe_var (i := 7) (x := "_law_goals") rfl (vis_of z72) z99 z103) (pa_cons (pe_var (i := 8) (x := "_law_others") rfl (vis_of z246) z387 z411) (pa_cons (pe_lst pa_nil) (pa_cons (pe_var (i := 7) (x := "_law_goals") rfl (vis_of z72) z99 z103) pa_nil (stp rfl)) (stp rfl)) (stp rfl)) (stp rfl)))) (pg_name (i := 13) ND rfl (loc_of (Or.inl z207)))
 (pss_cons (ps_if (PW.pt (pw_and (pt_cmpR op_eq (pe_op op_mod (pe_op op_fdiv (pe_var (i := 3) (x := "_law_cell") rfl (vis_of z48) z11 z10) pe_int) pe_int) pe_int (nomark _)) (pw_and1 (pt_not (pt_val (pe_call G_Lsame (HR.mono (by decide)) (gl_of z44) T.mg_Lsame T.k_Lsame B_Lsame .nil pass0 (pa_cons (pe_call G_q31 (HR.mono (by decide)) (gl_of z362) T.mg_q31 T.k_q31 B_q31 .nil pass0 (pa_cons (pe_var (i := 2) (x := "_law_floor") rfl (vis_of z38) z107 z101) (pa_cons (pe_var (i := 5) (x := "_law_carrier") rfl (vis_of z27) z65 z66) pa_nil (stp rfl)) (stp rfl)) (hdb := d_q31) (he := stp rfl) (hpl := anp rfl)) (pa_cons (pe_var (i := 10) (x := "_law_due") rfl (vis_of z100) z211 z209) pa_nil (stp rfl)) (stp rfl)) (hdb := z150) (he := stp rfl) (hpl := anp rfl)))))))
 (pss_one (ps_ret pe_bl))
 pss_nil)
 (pss_cons (ps_expr (pe_bm0 PySem.F.plainAttrs_list PySem.F.slot_list_clear PySem.F.type_list_clear mt_clear (pe_var (i := 11) (x := "_law_handed") rfl (vis_of z33) z74 z75)))
 (pss_cons (ps_expr (pe_bm PySem.F.plainAttrs_list PySem.F.slot_list_extend PySem.F.type_list_extend mt_extend (pe_var (i := 11) (x := "_law_handed") rfl (vis_of z33) z74 z75) (pa_cons (pe_var (i := 13) (x := "_law_row") rfl (vis_of z102) z294 z305) pa_nil (stp rfl))))
 (pss_cons (ps_set (i := 14) ND rfl (loc_of (Or.inl z145)) (pe_call G_q30 (HR.mono (by decide)) (gl_of z644) T.mg_q30 T.k_q30 B_q30 .nil pass0 (pa_cons (pe_var (i := 2) (x := "_law_floor") rfl (vis_of z38) z107 z101) (pa_cons (pe_var (i := 5) (x := "_law_carrier") rfl (vis_of z27) z65 z66) (pa_cons (pe_var (i := 11) (x := "_law_handed") rfl (vis_of z33) z74 z75) pa_nil (stp rfl)) (stp rfl)) (stp rfl)) (hdb := d_q30) (he := stp rfl) (hpl := anp rfl)))
 (pss_cons (ps_if (PW.pt (pw_or (pt_not (pt_val (pe_call G_Lsame (HR.mono (by decide)) (gl_of z44) T.mg_Lsame T.k_Lsame B_Lsame .nil pass0 (pa_cons (pe_var (i := 14) (x := "_law_found") rfl (vis_of z39) z7 z6) (pa_cons (pe_call G_q41 (HR.mono (by decide)) (gl_of z136) T.mg_q41 T.k_q41 B_q41 .nil pass0 (pa_cons (pe_var (i := 4) (x := "_law_kind") rfl (vis_of z81) z36 z35) (pa_cons (pe_var (i := 1) (x := "_law_lines_here") rfl (vis_of z15) y2 y3) (pa_cons (pe_var (i := 13) (x := "_law_row") rfl (vis_of z102) z294 z305) pa_nil (stp rfl)) (stp rfl)) (stp rfl)) (hdb := z272) (he := stp rfl) (hpl := anp rfl)) pa_nil (stp rfl)) (stp rfl)) (hdb := z150) (he := stp rfl) (hpl := anp rfl)))) (pw_or1 (pt_cmpR (op_neD HU) (pe_var (i := 11) (x := "_law_handed") rfl (vis_of z33) z74 z75) (pe_var (i := 13) (x := "_law_row") rfl (vis_of z102) z294 z305) (nomark _)))))
 (pss_one (ps_ret pe_bl))
 pss_nil)
 (pss_cons (ps_dput (hu1 HU) (pe_var (i := 14) (x := "_law_found") rfl (vis_of z39) z7 z6) (pe_un un_neg pe_int) (pe_callB call_len_seq (gl_of z452) T.b_len PyProof.Rows.Boot.«len» (pa_cons (pe_var (i := 12) (x := "_law_kept") rfl (vis_of z87) z232 z228) pa_nil (stp rfl)) (hn := n_len) (hdb := d_len) (he := stp rfl) (hpl := anp rfl)) rfl)
 (pss_one (ps_expr (pe_bm PySem.F.plainAttrs_list PySem.F.slot_list_append PySem.F.type_list_append mt_append (pe_var (i := 12) (x := "_law_kept") rfl (vis_of z87) z232 z228) (pa_cons (pe_tup (pa_cons (pe_var (i := 14) (x := "_law_found") rfl (vis_of z39) z7 z6) (pa_cons (pe_callTy z406 (gl_of z553) T.b_dict PyProof.Rows.Boot.«dict» (pa_cons (pe_var (i := 14) (x := "_law_found") rfl (vis_of z39) z7 z6) pa_nil (stp rfl)) (hn := n_dict) (hdb := d_dict) (he := stp rfl) (hpl := anp rfl)) pa_nil (stp rfl)) (stp rfl))) pa_nil (stp rfl))))))))))))
 (pss_cons (ps_set (i := 15) ND rfl (loc_of (Or.inl z172)) (pe_call G_q31 (HR.mono (by decide)) (gl_of z362) T.mg_q31 T.k_q31 B_q31 .nil pass0 (pa_cons (pe_var (i := 2) (x := "_law_floor") rfl (vis_of z38) z107 z101) (pa_cons (pe_var (i := 5) (x := "_law_carrier") rfl (vis_of z27) z65 z66) pa_nil (stp rfl)) (stp rfl)) (hdb := d_q31) (he := stp rfl) (hpl := anp rfl)))
 (pss_cons (ps_if (pt_not (pt_val (pe_call G_Lsame (HR.mono (by decide)) (gl_of z44) T.mg_Lsame T.k_Lsame B_Lsame .nil pass0 (pa_cons (pe_var (i := 15) (x := "_law_told") rfl (vis_of z86) z221 z225) (pa_cons (pe_var (i := 10) (x := "_law_due") rfl (vis_of z100) z211 z209) pa_nil (stp rfl)) (stp rfl)) (hdb := z150) (he := stp rfl) (hpl := anp rfl))))
 (pss_one (ps_ret pe_bl))
 pss_nil)
 (pss_cons (ps_expr (pe_bm0 PySem.F.plainAttrs_dict PySem.F.slot_dict_clear PySem.F.type_dict_clear z659 (pe_var (i := 15) (x := "_law_told") rfl (vis_of z86) z221 z225)))
 (pss_cons (ps_if (pt_not (pt_val (pe_call G_Lsame (HR.mono (by decide)) (gl_of z44) T.mg_Lsame T.k_Lsame B_Lsame .nil pass0 (pa_cons (pe_call G_q31 (HR.mono (by decide)) (gl_of z362) T.mg_q31 T.k_q31 B_q31 .nil pass0 (pa_cons (pe_var (i := 2) (x := "_law_floor") rfl (vis_of z38) z107 z101) (pa_cons (pe_var (i := 5) (x := "_law_carrier") rfl (vis_of z27) z65 z66) pa_nil (stp rfl)) (stp rfl)) (hdb := d_q31) (he := stp rfl) (hpl := anp rfl)) (pa_cons (pe_var (i := 10) (x := "_law_due") rfl (vis_of z100) z211 z209) pa_nil (stp rfl)) (stp rfl)) (hdb := z150) (he := stp rfl) (hpl := anp rfl))))
 (pss_one (ps_ret pe_bl))
 pss_nil)
 (pss_one (ps_ret (pe_and (pe_cmpR (op_eqD HU) (z94 (z8.of (osc := defScope s_law) (tn := ["_law_pair"]) (cn := []) (caps := []) rfl rfl (by decide +kernel) (by decide +kernel) (by decide +kernel) (by decide +kernel) rfl) (calm0 rfl)  (pi_list (pe_var (i := 12) (x := "_law_kept") rfl (vis_of z87) z232 z228))
 (fun _ _ _ _ _ => (pg_name (i := 0) (show (["_law_pair"] : List Str).Nodup by decide +kernel) rfl (Or.inl rfl))) (fun _ _ _ _ _ => (z95 (pt_cmpR (z706 (K := K) rfl (hu65 HR)) (pe_ix (z582 (K := K) rfl) (pv 0) pe_int (fun _ _ => rfl)) (pe_ix (z582 (K := K) rfl) (pv 0) pe_int (fun _ _ => rfl)) (nomark _)))) (fun _ _ _ _ _ => (pv 0))) (pe_lst pa_nil) (nomark _)) (pe_one (pe_cmpR (op_eqK (hu65 HR)) (pe_var (i := 15) (x := "_law_told") rfl (vis_of z86) z221 z225) pe_dnewK (nomark _)))))))))))))))))))))))), ?_⟩
    refine z4 (fun σ H' => ∃ l w h sg, Same H H' ∧ z50 H' l w h sg ∧ Good w h sg ∧ σ = [some (V.ref a), some (V.ref l), none, none, none, none, none, none, none, none, none, none, none, none, none, none]) (fun nx hk => ?_) ?_
    · walk_at "RD"
      refine ⟨by omega, fun p hp => ⟨a, ns, 7, rfl, Same.seq (zz0 hp) hS, hl, by omega, by omega, fun r r0 r1 => ?_⟩⟩
      have hm : ∃ m, atI [V.int 2, V.int 3, V.int 4, V.int 6] (r % 4) = some (V.int m) ∧ 1 ≤ m ∧ m ≤ 10 := by
        have h : r % 4 = 0 ∨ r % 4 = 1 ∨ r % 4 = 2 ∨ r % 4 = 3 := by omega
        rcases h with h | h | h | h <;> rw [h]
        · exact ⟨2, rfl, by decide, by decide⟩
        · exact ⟨3, rfl, by decide, by decide⟩
        · exact ⟨4, rfl, by decide, by decide⟩
        · exact ⟨6, rfl, by decide, by decide⟩
      obtain ⟨m, e, m0, m1⟩ := hm
      exact ⟨_, rfl, by omega, _, SqL.of upd_same, _, e, a, ns, 0, m, rfl, Same.seq (zz0 hp) hS, hl, by omega, by omega, m0, m1, fun l H' w h sg nl s1 hL g => hk _ _ ⟨l, w, h, sg, (zz0 hp).trans s1, hL, g, rfl⟩⟩
    rintro σ H1 ⟨l, w, h, sg, s1, hL, g, rfl⟩
    have hS1 := Same.seq s1 hS
    refine z4 (fun σ H' => ∃ fl, Same H1 H' ∧ z40 ad.C_Floor H' fl w h sg ∧ σ = [some (V.ref a), some (V.ref l), some (V.ref fl), none, none, none, none, none, none, none, none, none, none, none, none, none]) (fun nx hk => ?_) ?_
    · walk_at "RD"
      refine ⟨_, .inl (SqL.of hL), fun cp ncp p dx np nd nn => ⟨p, dx, cp, w, h, sg, rfl, upd_same, ?_, g, fun H' dx' l2 n2 e1 e2 fr => ⟨rfl, ?_⟩⟩⟩
      · have c1 : cp ≠ p := fun z => by rw [z, upd_same] at np; cases np
        have c2 : cp ≠ dx := fun z => by rw [z, upd_same] at nd; cases nd
        show upd _ _ _ cp = _
        rw [upd_ne c1, upd_ne c2, upd_same]
      · refine hk _ _ ⟨p, fun b o e => ?_, ⟨⟨dx', l2, e1, e2⟩⟩, rfl⟩
        have e' : upd H1 cp (HO.lst ((linesOf w h sg).map V.str)) b = some o := (zz0 ncp) _ _ e
        exact fr b o (by rw [upd_ne (ne_of_none e' np), upd_ne (ne_of_none e' nd)]; exact e') (ne_of_none e' np)
    rintro σ H2 ⟨fl, s2, F2, rfl⟩
    refine z4 (fun σ H' => ∃ (cc : Int), H' = H2 ∧ 0 ≤ cc ∧ cc < 2147483647 ∧ σ = [some (V.ref a), some (V.ref l), some (V.ref fl), some (V.int cc), none, none, none, none, none, none, none, none, none, none, none, none]) (fun nx hk => ?_) ?_
    · walk_at "RD"
      exact ⟨a, ns, 8, rfl, Same.seq s2 hS1, hl, by omega, by omega, fun r r0 r1 => hk _ _ ⟨r, rfl, r0, r1, rfl⟩⟩
    rintro σ H2 ⟨cc, rfl, c0, c1, rfl⟩
    refine z4 (fun σ H' => ∃ (x : Str) (i : Nat), Same H2 H' ∧ kindsL[i]? = some x ∧ i ≤ 2 ∧ σ = [some (V.ref a), some (V.ref l), some (V.ref fl), some (V.int cc), some (V.str x), none, none, none, none, none, none, none, none, none, none, none]) (fun nx hk => ?_) ?_
    · walk_at "RD"
      refine ⟨by omega, fun q nq => ⟨by omega, _, SqL.of upd_same, ?_⟩⟩
      have hm : ∃ (x : Str) (i : Nat), atI [V.str (Str.ofString "cart"), V.str (Str.ofString "crawler"), V.str (Str.ofString "runner")] (cc % 3) = some (V.str x) ∧ kindsL[i]? = some x ∧ i ≤ 2 := by
        have h : cc % 3 = 0 ∨ cc % 3 = 1 ∨ cc % 3 = 2 := by omega
        rcases h with h | h | h <;> rw [h]
        · exact ⟨_, 0, rfl, rfl, by omega⟩
        · exact ⟨_, 1, rfl, rfl, by omega⟩
        · exact ⟨_, 2, rfl, rfl, by omega⟩
      obtain ⟨x, i, e1, e2, e3⟩ := hm
      exact ⟨_, e1, hk _ _ ⟨x, i, zz0 nq, e2, e3, rfl⟩⟩
    rintro σ H3 ⟨x, i, s3, hi, i2, rfl⟩
    refine z4 (fun σ H' => ∃ (p : Addr) (n : Int), Same H3 H' ∧ CarAt ad H' p i n ∧ σ = [some (V.ref a), some (V.ref l), some (V.ref fl), some (V.int cc), some (V.str x), some (V.ref p), none, none, none, none, none, none, none, none, none, none]) (fun nx hk => ?_) ?_
    · walk_at "RD"
      refine ⟨?_, by omega, i, x, _, rfl, by omega, hi, by omega, by omega, fun p H' s np hc => hk _ _ ⟨p, _, s, hc, rfl⟩⟩
      exact ⟨by decide, by decide⟩
    rintro σ H4 ⟨p, n, s4, hc, rfl⟩
    have hL4 : z50 H4 l w h sg := s4 _ _ (s3 _ _ (s2 _ _ hL))
    have F4 := (F2.same s3).same s4
    have hS4 := Same.seq s4 (Same.seq s3 (Same.seq s2 hS1))
    have stl := z76 g i
    refine z4 (fun σ H' => ∃ (al : Addr), Same H4 H' ∧ H' al = some (.lst ((v1 i sg).map V.int)) ∧ σ = [some (V.ref a), some (V.ref l), some (V.ref fl), some (V.int cc), some (V.str x), some (V.ref p), some (V.ref al), none, none, none, none, none, none, none, none, none]) (fun nx hk => ?_) ?_
    · walk_at "RD"
      refine ⟨l, w, h, sg, rfl, hL4, g, fun r H2 nr s2 hr => ⟨r, rfl, ⟨_, SqL.of hr⟩, z22 (src_list (SqL.of hr)) (stV i sg) (fun v => v) (fun y hy Q' hh => ?_) (fun y hy _ Q' hh => by walk_at "RD"; exact hh) (by rw [List.length_map]; have := z220 g; omega) (fun D nD => ?_)⟩⟩
      · obtain ⟨c, hcm, rfl⟩ := List.mem_map.mp hy
        have cF := z222 hcm
        walk_at "RD"
        exact ⟨l, w, h, sg, c, rfl, s2 _ _ hL4, g, cF.1, cF.2, i, _, x, rfl, hi, _, rfl, hh⟩
      · rw [z198]
        exact hk _ _ ⟨D, s2.trans (zz0 nD), upd_same, rfl⟩
    rintro σ H5 ⟨al, s5, hal, rfl⟩
    refine z4 (fun σ H' => ∃ (gl : Addr), Same H5 H' ∧ H' gl = some (.lst []) ∧ σ = [some (V.ref a), some (V.ref l), some (V.ref fl), some (V.int cc), some (V.str x), some (V.ref p), some (V.ref al), some (V.ref gl), none, none, none, none, none, none, none, none]) (fun nx hk => ?_) ?_
    · walk_at "RD"
      exact ⟨by omega, fun q nq => hk _ _ ⟨q, zz0 nq, upd_same, rfl⟩⟩
    rintro σ H6 ⟨gl0, s6, hgl0, rfl⟩
    refine z4 (fun σ H' => ∃ (ol : Addr), Same H6 H' ∧ H' ol = some (.lst []) ∧ σ = [some (V.ref a), some (V.ref l), some (V.ref fl), some (V.int cc), some (V.str x), some (V.ref p), some (V.ref al), some (V.ref gl0), some (V.ref ol), none, none, none, none, none, none, none]) (fun nx hk => ?_) ?_
    · walk_at "RD"
      exact ⟨by omega, fun q nq => hk _ _ ⟨q, zz0 nq, upd_same, rfl⟩⟩
    rintro σ H7 ⟨ol0, s7, hol0, rfl⟩
    have hS7 := Same.seq (s5.trans (s6.trans s7)) hS4
    have hal7 := (s6.trans s7) _ _ hal
    refine z4 (fun σ H' => ∃ (gl ol : Addr) (gs os : List Int), Same H7 H' ∧ H' gl = some (.lst (gs.map V.int)) ∧ H' ol = some (.lst (os.map V.int)) ∧ gs.length ≤ 200 ∧ os.length ≤ 200 ∧ (∀ c ∈ gs, c ∈ v1 i sg) ∧ (∀ c ∈ os, c ∈ v1 i sg) ∧ σ = [some (V.ref a), some (V.ref l), some (V.ref fl), some (V.int cc), some (V.str x), some (V.ref p), some (V.ref al), some (V.ref gl), some (V.ref ol), none, none, none, none, none, none, none]) (fun nx hk => ?_) ?_
    · simp only [tNever, z269, iRng1, iRng2, gTup, gTupL, gCons, gNil, tRevT, rRep01, rCatT, rCat, rRep, rJoin, tLRng2, tMethV, tDisp, tPairs, tYes, tDGet, rClear, rExtend, z241, rNeN, tDIn, tDNotIn, tDNewK, sDPut, tDGet1, tAug, ipI, rLtT, tThawK, tThawE, iDictK, rEqK, tCallX, tMethX, tMakeX, tRaise, noW, tAsg, tOp, tUn, tVar, tC, rI0, rI, rU, tTest, tIfS, tNext, tRet, tRetN, tDrop, gName, tCB, tCons, tNil, tAndV, tOrV, tNotV, tAnd, tOr, tNot, tB, tIf, tChain, tCall, tBM, tBM0, tLst, tTup, tNoPart, tPart, tSlS, tSl, tBreak, tCont, rSlA, rSlL, rPopAt, rIn, rIxL, rIxT, rIxS, rEq, rNe, scal, rAppend, rPop, rIndex, tFld, sFld, tMeth, tMake, tDNewK, gSub, rSetL, z188, tComp, sComp, capσ, iStr, iList, iTup, rEqD, cxK, cxA, cxKc, cxAc, L2.start, List.map_cons, List.map_nil, List.length_cons, List.length_nil, List.replicate_succ, List.replicate_zero, List.cons_append, List.nil_append, List.append_nil, Nat.reduceAdd, Nat.reduceSub, List.set_cons_zero, List.set_cons_succ, List.getElem?_cons_zero, List.getElem?_cons_succ, Option.getD_some, Option.getD_none, Option.some.injEq, V.int.injEq, V.ref.injEq, V.bl.injEq, V.str.injEq, V.ty.injEq, exists_eq_left', exists_eq_left, exists_and_left, and_assoc, List.cons.injEq, and_true, true_and, decide_eq_true_eq, Bool.not_eq_true', decide_eq_false_iff_not, Bool.false_eq_true, if_false, if_true, reduceIte, Bool.not_true, Bool.not_false, beq_self_eq_true]
      refine ⟨Nat.zero_le _, fun q nq => ⟨_, z234 (SqL.of ((zz0 nq) _ _ hal7)), _, .lst (SqL.of upd_same) .nil, shaped_ints _, rfl, ?_⟩⟩
      have sq := zz0 (o := HO.lst []) nq
      have hal9 := sq _ _ hal7
      have hS9 := Same.seq sq hS7
      by_cases es : v1 i sg = []
      · rw [if_neg (by rw [es]; decide)]
        exact hk _ _ ⟨gl0, ol0, [], [], sq, sq _ _ (s7 _ _ hgl0), sq _ _ hol0, by simp, by simp, by simp, by simp, rfl⟩
      · rw [if_pos (by
          cases e : v1 i sg with
          | nil => exact absurd e es
          | cons a b => rfl)]
        have nz : 0 < (v1 i sg).length := List.length_pos_iff.mpr es
        have pick : ∀ r : Int, 0 ≤ r → ∃ c, atI ((v1 i sg).map V.int) (r % ((v1 i sg).length : Int)) = some (V.int c) ∧ c ∈ v1 i sg := fun r r0 => by
          have h1 := Int.emod_nonneg r (show ((v1 i sg).length : Int) ≠ 0 by omega)
          have h2 := Int.emod_lt_of_pos r (show 0 < ((v1 i sg).length : Int) by omega)
          obtain ⟨k, hk⟩ := Int.eq_ofNat_of_zero_le h1
          have lt : k < (v1 i sg).length := by omega
          refine ⟨(v1 i sg)[k], ?_, List.getElem_mem lt⟩
          rw [hk]
          exact atI_nat (by rw [List.getElem?_map, List.getElem?_eq_getElem lt]; rfl)
        refine z4 (fun σ H' => ∃ (gl : Addr) (gs : List Int), Same H7 H' ∧ H' gl = some (.lst (gs.map V.int)) ∧ gs.length ≤ 5 ∧ (∀ c ∈ gs, c ∈ v1 i sg) ∧ σ = [some (V.ref a), some (V.ref l), some (V.ref fl), some (V.int cc), some (V.str x), some (V.ref p), some (V.ref al), some (V.ref gl), some (V.ref ol0), none, none, none, none, none, none, none]) (fun nx hk => ?_) ?_
        · walk_at "RD"
          refine ⟨⟨by decide, by decide⟩, by decide, by omega, by omega, z691 (n := (cc / 180 % 5).toNat) (fun j ys H' => H' = upd H7 q (HO.lst []) ∧ ∃ gs : List Int, ys = gs.map V.int ∧ gs.length = j ∧ ∀ c ∈ gs, c ∈ v1 i sg) ⟨rfl, [], rfl, rfl, by simp⟩ ?_ ?_⟩
          · rintro j ys H' hj ⟨rfl, gs, rfl, lg, gst⟩
            walk_at "RD"
            refine ⟨a, ns, _, rfl, hS9, hl, by omega, by omega, fun r r0 r1 => ⟨_, .inl (SqL.of hal9), _, rfl, by rw [List.length_map]; omega, _, SqL.of hal9, ?_⟩⟩
            obtain ⟨c, e, hcm⟩ := pick r r0
            rw [List.length_map]
            exact ⟨_, e, by rw [List.length_map]; omega, rfl, gs ++ [c], by simp, by simp [lg], fun z hz => (List.mem_append.mp hz).elim (gst z) (fun hz => by rw [List.mem_singleton.mp hz]; exact hcm)⟩
          · rintro ys H' ⟨rfl, gs, rfl, lg, gst⟩
            refine ⟨by rw [List.length_map]; omega, fun D nD => hk _ _ ⟨D, gs, sq.trans (zz0 nD), upd_same, by omega, gst, rfl⟩⟩
        rintro σ H8 ⟨gl, gs, s8, hgl, lgs, gst, rfl⟩
        walk_at "RD"
        obtain ⟨ys, ec, ym, yl⟩ := z688 gs none (some 1)
        refine ⟨_, SqL.of hgl, fun p1 np1 => ?_⟩
        rw [ec]
        have sp1 := zz0 (o := HO.lst (ys.map V.int)) np1
        have hal8 := (s8.trans sp1) _ _ hal7
        refine ⟨a, ns, 14, rfl, Same.seq (s8.trans sp1) hS7, hl, by omega, by omega, fun r r0 r1 => ⟨_, .inl (SqL.of hal8), _, rfl, by rw [List.length_map]; omega, _, SqL.of hal8, ?_⟩⟩
        obtain ⟨c, e, hcm⟩ := pick r r0
        rw [List.length_map]
        refine ⟨_, e, by omega, fun p2 np2 => ⟨_, (zz0 np2) _ _ upd_same, _, upd_same, by rw [List.length_map, List.length_cons, List.length_nil]; omega, fun p3 np3 => ?_⟩⟩
        have S3 := (zz0 (o := HO.lst [V.int c]) np2).trans (zz0 (o := HO.lst (ys.map V.int ++ [V.int c])) np3)
        refine hk _ _ ⟨gl, p3, gs, ys ++ [c], s8.trans (sp1.trans S3), (sp1.trans S3) _ _ hgl, ?_, by omega, by simp; omega, gst, fun z hz => ?_, rfl⟩
        · rw [upd_same, List.map_append]
          rfl
        · rcases List.mem_append.mp hz with hz | hz
          · exact gst z (ym z hz)
          · rw [List.mem_singleton.mp hz]
            exact hcm
    rintro σ H8 ⟨gl, ol, gs, os, s8, hgl, hol, lgs, los, gst, ost, rfl⟩
    have hal8 := s8 _ _ hal7
    have hL8 : z50 H8 l w h sg := s8 _ _ (s7 _ _ (s6 _ _ (s5 _ _ hL4)))
    refine z4 (fun σ H' => ∃ (ch : Addr), Same H8 H' ∧ H' ch = some (.lst (((z13 sg).filter fun c => stands i (at_ sg c)).map V.int)) ∧ σ = [some (V.ref a), some (V.ref l), some (V.ref fl), some (V.int cc), some (V.str x), some (V.ref p), some (V.ref al), some (V.ref gl), some (V.ref ol), some (V.ref ch), none, none, none, none, none, none]) (fun nx hk => ?_) ?_
    · walk_at "RD"
      refine ⟨⟨_, SqL.of hal8⟩, z22 (src_list (SqL.of hal8)) (chV sg) (fun v => v) (fun y hy Q' hh => ?_) (fun y hy _ Q' hh => by walk_at "RD"; exact hh) (by rw [List.length_map]; omega) (fun D nD => ?_)⟩
      · obtain ⟨c, hcm, rfl⟩ := List.mem_map.mp hy
        have cF := z222 (List.mem_filter.mp hcm).1
        walk_at "RD"
        refine ⟨l, w, h, sg, c, rfl, hL8, g, cF.1, cF.2, rfl, ?_⟩
        have e : chV sg (V.int c) = decide (chr1 (at_ sg c) = V.str (Str.ofString "+")) := decide_eq_decide.mpr q43.symm
        rw [← e]
        exact hh
      · rw [z722]
        exact hk _ _ ⟨D, zz0 nD, upd_same, rfl⟩
    rintro σ H9 ⟨ch, s9, hch, rfl⟩
    have CHst : ∀ c ∈ (z13 sg).filter fun c => stands i (at_ sg c), c ∈ v1 i sg := fun c hcm => by
      obtain ⟨h3, h4⟩ := List.mem_filter.mp hcm
      rw [z237] at h3
      exact List.mem_filter.mpr ⟨(List.mem_filter.mp h3).1, h4⟩
    have CHl : ((z13 sg).filter fun c => stands i (at_ sg c)).length ≤ 200 := Nat.le_trans (List.length_filter_le _ _) (by have := z196 g; omega)
    refine z4 (fun σ H' => ∃ (du : Addr) (kd : List (Int × Int)), Same H9 H' ∧ H' du = some (costsD kd) ∧ z55 i w sg ((z13 sg).filter fun c => stands i (at_ sg c)) kd ∧ σ = [some (V.ref a), some (V.ref l), some (V.ref fl), some (V.int cc), some (V.str x), some (V.ref p), some (V.ref al), some (V.ref gl), some (V.ref ol), some (V.ref ch), some (V.ref du), none, none, none, none, none]) (fun nx hk => ?_) ?_
    · walk_at "RD"
      exact ⟨x, i, l, ch, w, h, sg, _, rfl, hi, s9 _ _ hL8, g, hch, CHl, CHst, fun r kvs H' nr s hr hcs => hk _ _ ⟨r, kvs, s, hr, hcs, rfl⟩⟩
    rintro σ HB ⟨du, kd, sB, hdu, cdu, rfl⟩
    have s4B : Same H4 HB := s5.trans (s6.trans (s7.trans (s8.trans (s9.trans sB))))
    have hLB : z50 HB l w h sg := s4B _ _ hL4
    have FB := F4.same s4B
    have hcB := hc.same s4B
    have hglB := (s9.trans sB) _ _ hgl
    have holB := (s9.trans sB) _ _ hol
    clear hS hS1 hS4 hS7
    refine z4 (fun σ H' => ∃ (hd : Addr), HB hd = none ∧ H' = upd HB hd (.lst []) ∧ σ = [some (V.ref a), some (V.ref l), some (V.ref fl), some (V.int cc), some (V.str x), some (V.ref p), some (V.ref al), some (V.ref gl), some (V.ref ol), some (V.ref ch), some (V.ref du), some (V.ref hd), none, none, none, none]) (fun nx hk => ?_) ?_
    · walk_at "RD"
      exact ⟨Nat.zero_le _, fun q nq => hk _ _ ⟨q, nq, rfl, rfl⟩⟩
    rintro σ _ ⟨hd, nhd, rfl, rfl⟩
    refine z4 (fun σ H' => ∃ (kp : Addr), HB kp = none ∧ hd ≠ kp ∧ Same HB H' ∧ H' hd = some (.lst []) ∧ H' kp = some (.lst []) ∧ σ = [some (V.ref a), some (V.ref l), some (V.ref fl), some (V.int cc), some (V.str x), some (V.ref p), some (V.ref al), some (V.ref gl), some (V.ref ol), some (V.ref ch), some (V.ref du), some (V.ref hd), some (V.ref kp), none, none, none]) (fun nx hk => ?_) ?_
    · walk_at "RD"
      refine ⟨Nat.zero_le _, fun q nq => hk _ _ ⟨q, (zz0 nhd).free nq, fun z => ?_, (zz0 nhd).trans (zz0 nq), (zz0 nq) _ _ upd_same, upd_same, rfl⟩⟩
      rw [← z, upd_same] at nq
      cases nq
    rintro σ HC ⟨kp, nkp, hdkp, sC, hhd, hkp, rfl⟩
    refine z4 (fun σ H' => ∃ (x13 x14 : Option V), Same HB H' ∧ KeptD H' kp 4 ∧ σ = [some (V.ref a), some (V.ref l), some (V.ref fl), some (V.int cc), some (V.str x), some (V.ref p), some (V.ref al), some (V.ref gl), some (V.ref ol), some (V.ref ch), some (V.ref du), some (V.ref hd), some (V.ref kp), x13, x14, none]) (fun nx hk => ?_) ?_
    · simp only [tNever, z269, iRng1, iRng2, gTup, gTupL, gCons, gNil, tRevT, rRep01, rCatT, rCat, rRep, rJoin, tLRng2, tMethV, tDisp, tPairs, tYes, tDGet, rClear, rExtend, z241, rNeN, tDIn, tDNotIn, tDNewK, sDPut, tDGet1, tAug, ipI, rLtT, tThawK, tThawE, iDictK, rEqK, tCallX, tMethX, tMakeX, tRaise, noW, tAsg, tOp, tUn, tVar, tC, rI0, rI, rU, tTest, tIfS, tNext, tRet, tRetN, tDrop, gName, tCB, tCons, tNil, tAndV, tOrV, tNotV, tAnd, tOr, tNot, tB, tIf, tChain, tCall, tBM, tBM0, tLst, tTup, tNoPart, tPart, tSlS, tSl, tBreak, tCont, rSlA, rSlL, rPopAt, rIn, rIxL, rIxT, rIxS, rEq, rNe, scal, rAppend, rPop, rIndex, tFld, sFld, tMeth, tMake, tDNewK, gSub, rSetL, z188, tComp, sComp, capσ, iStr, iList, iTup, rEqD, cxK, cxA, cxKc, cxAc, L2.start, List.map_cons, List.map_nil, List.length_cons, List.length_nil, List.replicate_succ, List.replicate_zero, List.cons_append, List.nil_append, List.append_nil, Nat.reduceAdd, Nat.reduceSub, List.set_cons_zero, List.set_cons_succ, List.getElem?_cons_zero, List.getElem?_cons_succ, Option.getD_some, Option.getD_none, Option.some.injEq, V.int.injEq, V.ref.injEq, V.bl.injEq, V.str.injEq, V.ty.injEq, exists_eq_left', exists_eq_left, exists_and_left, and_assoc, List.cons.injEq, and_true, true_and, decide_eq_true_eq, Bool.not_eq_true', decide_eq_false_iff_not, Bool.false_eq_true, if_false, if_true, reduceIte, Bool.not_true, Bool.not_false, beq_self_eq_true]
      refine ⟨Nat.zero_le _, fun el nel => ⟨by omega, fun rw_ nrw => ?_⟩⟩
      have elhd : el ≠ hd := fun z => by rw [z, hhd] at nel; cases nel
      have elkp : el ≠ kp := fun z => by rw [z, hkp] at nel; cases nel
      have rwn := (zz0 (o := HO.lst []) nel).free nrw
      have rwhd : rw_ ≠ hd := fun z => by rw [z, hhd] at rwn; cases rwn
      have rwkp : rw_ ≠ kp := fun z => by rw [z, hkp] at rwn; cases rwn
      have S0 : Same HC (upd (upd HC el (HO.lst [])) rw_ (HO.lst [V.ref gl, V.ref ol, V.ref el, V.ref gl])) := (zz0 nel).trans (zz0 nrw)
      have hel : upd (upd HC el (HO.lst [])) rw_ (HO.lst [V.ref gl, V.ref ol, V.ref el, V.ref gl]) el = some (.lst []) := (zz0 nrw) _ _ upd_same
      have hrw : upd (upd HC el (HO.lst [])) rw_ (HO.lst [V.ref gl, V.ref ol, V.ref el, V.ref gl]) rw_ = some (.lst [V.ref gl, V.ref ol, V.ref el, V.ref gl]) := upd_same
      generalize upd (upd HC el (HO.lst [])) rw_ (HO.lst [V.ref gl, V.ref ol, V.ref el, V.ref gl]) = HE at S0 hel hrw ⊢
      refine ⟨⟨_, SqL.of hrw⟩, for_list (K := K) (a := rw_) (xs := [V.ref gl, V.ref ol, V.ref el, V.ref gl]) (fun j σ H' => ∃ (ms : List Int) (x13 x14 : Option V), Same HB H' ∧ H' rw_ = some (.lst [V.ref gl, V.ref ol, V.ref el, V.ref gl]) ∧ H' el = some (.lst []) ∧ H' hd = some (.lst (ms.map V.int)) ∧ KeptD H' kp j ∧ σ = [some (V.ref a), some (V.ref l), some (V.ref fl), some (V.int cc), some (V.str x), some (V.ref p), some (V.ref al), some (V.ref gl), some (V.ref ol), some (V.ref ch), some (V.ref du), some (V.ref hd), some (V.ref kp), x13, x14, none]) ⟨[], none, none, sC.trans S0, hrw, hel, S0 _ _ hhd, ⟨[], rfl, S0 _ _ hkp, by simp⟩, rfl⟩ ?_ ?_ ?_⟩
      · rintro j σ H' _ ⟨ms, x13, x14, _, h1, _⟩
        exact SqL.of h1
      · rintro j y σ HF hy ⟨ms, x13, x14, sF, hrwF, helF, hhdF, KF, rfl⟩
        have hj : j < 4 := (List.getElem?_eq_some_iff.mp hy).1
        have hrow : ∃ (ra : Addr) (rs : List Int), y = .ref ra ∧ ra ≠ hd ∧ ra ≠ kp ∧ HF ra = some (.lst (rs.map V.int)) ∧ rs.length ≤ 200 ∧ (∀ c ∈ rs, c ∈ v1 i sg) := by
          have g1 : ∃ (ra : Addr) (rs : List Int), V.ref gl = .ref ra ∧ ra ≠ hd ∧ ra ≠ kp ∧ HF ra = some (.lst (rs.map V.int)) ∧ rs.length ≤ 200 ∧ (∀ c ∈ rs, c ∈ v1 i sg) := ⟨gl, gs, rfl, ne_of_none hglB nhd, ne_of_none hglB nkp, sF _ _ hglB, lgs, gst⟩
          match j, hy with
          | 0, hy => cases hy; exact g1
          | 1, hy => cases hy; exact ⟨ol, os, rfl, ne_of_none holB nhd, ne_of_none holB nkp, sF _ _ holB, los, ost⟩
          | 2, hy => cases hy; exact ⟨el, [], rfl, elhd, elkp, helF, by simp, by simp⟩
          | 3, hy => cases hy; exact g1
          | (k + 4), hy => omega
        obtain ⟨ra, rs, rfl, rahd, rakp, hra, lrs, rst⟩ := hrow
        simp only [gName, List.set_cons_succ, List.set_cons_zero]
        refine z4 (fun σ H' => Same HF H' ∧ σ = [some (V.ref a), some (V.ref l), some (V.ref fl), some (V.int cc), some (V.str x), some (V.ref p), some (V.ref al), some (V.ref gl), some (V.ref ol), some (V.ref ch), some (V.ref du), some (V.ref hd), some (V.ref kp), some (V.ref ra), x14, none]) (fun nx hk => ?_) ?_
        · walk_at "RD"
          refine ⟨⟨by decide, by decide⟩, by decide, ?_⟩
          split
          · refine ⟨p, fl, i, n, w, h, sg, rfl, hcB.same sF, by omega, FB.same sF, g, fun r kvs H' nr s hr hcs => ?_⟩
            exact ⟨r, du, i, w, sg, _, kvs, kd, rfl, hr, s _ _ (sF _ _ hdu), hcs, cdu, fun H'' s2 => ⟨_, rfl, by rw [if_neg (by decide)]; exact hk _ _ ⟨s.trans s2, rfl⟩⟩⟩
          · exact hk _ _ ⟨Same.refl _, rfl⟩
        rintro σ HG ⟨sG, rfl⟩
        have hhdG := sG _ _ hhdF
        have nhdB : ∀ {b : Addr} {o : HO}, HB b = some o → b ≠ hd := fun e => ne_of_none e nhd
        refine z4 (fun σ H' => H' = upd HG hd (.lst []) ∧ σ = [some (V.ref a), some (V.ref l), some (V.ref fl), some (V.int cc), some (V.str x), some (V.ref p), some (V.ref al), some (V.ref gl), some (V.ref ol), some (V.ref ch), some (V.ref du), some (V.ref hd), some (V.ref kp), some (V.ref ra), x14, none]) (fun nx hk => ?_) ?_
        · walk_at "RD"
          exact ⟨.inl ⟨rfl, _, SqL.of hhdG⟩, _, hhdG, hk _ _ ⟨rfl, rfl⟩⟩
        rintro σ _ ⟨rfl, rfl⟩
        refine z4 (fun σ H' => H' = upd (upd HG hd (.lst [])) hd (.lst (rs.map V.int)) ∧ σ = [some (V.ref a), some (V.ref l), some (V.ref fl), some (V.int cc), some (V.str x), some (V.ref p), some (V.ref al), some (V.ref gl), some (V.ref ol), some (V.ref ch), some (V.ref du), some (V.ref hd), some (V.ref kp), some (V.ref ra), x14, none]) (fun nx hk => ?_) ?_
        · walk_at "RD"
          exact ⟨.inl ⟨rfl, _, SqL.of upd_same⟩, _, upd_same, _, by rw [upd_ne rahd]; exact sG _ _ hra, by rw [List.length_map, List.length_nil]; omega, hk _ _ ⟨rfl, rfl⟩⟩
        rintro σ _ ⟨rfl, rfl⟩
        have sH : Same HB (upd (upd HG hd (.lst [])) hd (.lst (rs.map V.int))) := fun b o e => by rw [upd_ne (nhdB e), upd_ne (nhdB e)]; exact (sF.trans sG) _ _ e
        have hhdH : upd (upd HG hd (.lst [])) hd (.lst (rs.map V.int)) hd = some (.lst (rs.map V.int)) := upd_same
        have hrwH : upd (upd HG hd (.lst [])) hd (.lst (rs.map V.int)) rw_ = some (.lst [V.ref gl, V.ref ol, V.ref el, V.ref gl]) := by rw [upd_ne rwhd, upd_ne rwhd]; exact sG _ _ hrwF
        have helH : upd (upd HG hd (.lst [])) hd (.lst (rs.map V.int)) el = some (.lst []) := by rw [upd_ne elhd, upd_ne elhd]; exact sG _ _ helF
        have hraH : upd (upd HG hd (.lst [])) hd (.lst (rs.map V.int)) ra = some (.lst (rs.map V.int)) := by rw [upd_ne rahd, upd_ne rahd]; exact sG _ _ hra
        have KH : KeptD (upd (upd HG hd (.lst [])) hd (.lst (rs.map V.int))) kp j := ((KF.same sG).put hhdG hdkp).put upd_same hdkp
        generalize upd (upd HG hd (.lst [])) hd (.lst (rs.map V.int)) = HH at sH hhdH hrwH helH hraH KH ⊢
        refine z4 (fun σ H' => ∃ (f : Addr) (kf : List (Int × Int)), HH f = none ∧ Same HH H' ∧ H' f = some (costsD kf) ∧ z55 i w sg rs kf ∧ σ = [some (V.ref a), some (V.ref l), some (V.ref fl), some (V.int cc), some (V.str x), some (V.ref p), some (V.ref al), some (V.ref gl), some (V.ref ol), some (V.ref ch), some (V.ref du), some (V.ref hd), some (V.ref kp), some (V.ref ra), some (V.ref f), none]) (fun nx hk => ?_) ?_
        · walk_at "RD"
          exact ⟨p, fl, hd, i, n, w, h, sg, rs, rfl, hcB.same sH, by omega, FB.same sH, g, hhdH, lrs, rst, fun r kvs H' nr s hr hcs => hk _ _ ⟨r, kvs, nr, s, hr, hcs, rfl⟩⟩
        rintro σ HI ⟨f, kf, nf, sI, hf, cf, rfl⟩
        have sBI := sH.trans sI
        refine z4 (fun σ H' => Same HI H' ∧ σ = [some (V.ref a), some (V.ref l), some (V.ref fl), some (V.int cc), some (V.str x), some (V.ref p), some (V.ref al), some (V.ref gl), some (V.ref ol), some (V.ref ch), some (V.ref du), some (V.ref hd), some (V.ref kp), some (V.ref ra), some (V.ref f), none]) (fun nx hk => ?_) ?_
        · walk_at "RD"
          refine ⟨x, i, l, ra, w, h, sg, rs, rfl, hi, sBI _ _ hLB, g, sI _ _ hraH, lrs, rst, fun r kvs H' nr s hr hcs => ⟨f, r, i, w, sg, rs, kf, kvs, rfl, s _ _ hf, hr, cf, hcs, fun H'' s2 => ⟨_, rfl, ?_⟩⟩⟩
          rw [if_neg (by decide)]
          have s3 := sI.trans (s.trans s2)
          refine ⟨_, z234 (SqL.of (s3 _ _ hhdH)), _, z234 (SqL.of (s3 _ _ hraH)), shaped_ints _, shaped_ints _, ?_⟩
          rw [z575 _ (SeqAt.canLay_of_shaped (shaped_ints rs)), if_neg (by decide)]
          exact hk _ _ ⟨s.trans s2, rfl⟩
        rintro σ HJ ⟨sJ, rfl⟩
        have sHJ := sI.trans sJ
        have KJ := KH.same sHJ
        have hfJ := sJ _ _ hf
        obtain ⟨ts, lts, hkpH, pts⟩ := id KH
        have hkpJ := sHJ _ _ hkpH
        have lkf := cf.len
        refine z4 (fun σ H' => H' = upd HJ f (costsD (putI kf (-1) j)) ∧ σ = [some (V.ref a), some (V.ref l), some (V.ref fl), some (V.int cc), some (V.str x), some (V.ref p), some (V.ref al), some (V.ref gl), some (V.ref ol), some (V.ref ch), some (V.ref du), some (V.ref hd), some (V.ref kp), some (V.ref ra), some (V.ref f), none]) (fun nx hk => ?_) ?_
        · walk_at "RD"
          refine ⟨_, .inl (SqL.of hkpJ), _, DPut.k (k := .inl (-1)) (show HJ f = some (.dK (kf.map fun q => ((Sum.inl q.1 : Key), V.int q.2))) from hfJ) (by rw [List.length_map]; omega), hk _ _ ⟨?_, rfl⟩⟩
          rw [List.length_map, lts, z361]
          rfl
        rintro σ _ ⟨rfl, rfl⟩
        have fne : ∀ {b : Addr} {o : HO}, HH b = some o → b ≠ f := fun e => ne_of_none e nf
        have keep : ∀ b o, HH b = some o → upd HJ f (costsD (putI kf (-1) j)) b = some o := fun b o e => by
          rw [upd_ne (fne e)]
          exact sHJ _ _ e
        have hfK : upd HJ f (costsD (putI kf (-1) j)) f = some (costsD (putI kf (-1) j)) := upd_same
        generalize upd HJ f (costsD (putI kf (-1) j)) = HK at keep hfK ⊢
        walk_at "RD"
        refine ⟨.inl ⟨rfl, _, SqL.of (keep _ _ hkpH)⟩, _, hfK, fun l1 nl1 => ⟨by omega, fun t1 nt1 => ?_⟩⟩
        have S2 := (zz0 (o := HO.dK ((putI kf (-1) j).map fun q => ((Sum.inl q.1 : Key), V.int q.2))) nl1).trans (zz0 (o := HO.tup [V.ref f, V.ref l1]) nt1)
        have hl1 := (zz0 (o := HO.tup [V.ref f, V.ref l1]) nt1) _ _ (upd_same (H := HK) (a := l1) (o := HO.dK ((putI kf (-1) j).map fun q => ((Sum.inl q.1 : Key), V.int q.2))))
        have ht1 := upd_same (H := upd HK l1 (HO.dK ((putI kf (-1) j).map fun q => ((Sum.inl q.1 : Key), V.int q.2)))) (a := t1) (o := HO.tup [V.ref f, V.ref l1])
        generalize upd (upd HK l1 (HO.dK ((putI kf (-1) j).map fun q => ((Sum.inl q.1 : Key), V.int q.2)))) t1 (HO.tup [V.ref f, V.ref l1]) = HL at S2 hl1 ht1 ⊢
        have keep2 : ∀ b o, HH b = some o → b ≠ kp → upd HL kp (HO.lst (ts.map V.ref ++ [V.ref t1])) b = some o := fun b o e n => by
          rw [upd_ne n]
          exact S2 _ _ (keep _ _ e)
        have hkpL := S2 _ _ (keep _ _ hkpH)
        have nlst : ∀ {b : Addr} {o : HO}, HL b = some o → (∀ xs, o ≠ .lst xs) → upd HL kp (HO.lst (ts.map V.ref ++ [V.ref t1])) b = some o := fun {b} {o} e n => by
          rw [upd_ne (fun z => by rw [z, hkpL] at e; cases e; exact n _ rfl)]
          exact e
        refine ⟨_, hkpL, by rw [List.length_map]; omega, fun b o e => keep2 _ _ (sH _ _ e) (ne_of_none e nkp), keep2 _ _ hrwH rwkp, keep2 _ _ helH elkp, rs, keep2 _ _ hhdH hdkp, ⟨ts ++ [t1], by rw [List.length_append, lts]; rfl, ?_, fun t ht => ?_⟩, _, rfl⟩
        · rw [upd_same, List.map_append]
          rfl
        · rcases List.mem_append.mp ht with z | z
          · exact (pts t z).keep fun b o e n => keep2 b o e fun zz => by
              rw [zz, hkpH] at e
              cases e
              exact n _ rfl
          · rw [List.mem_singleton.mp z]
            exact ⟨f, l1, putI kf (-1) j, nlst ht1 (fun _ z => by cases z), nlst (S2 _ _ hfK) (fun _ z => by unfold costsD at z; cases z), nlst hl1 (fun _ z => by cases z), z718 cf.nd⟩
      · rintro σ H' ⟨ms, x13, x14, h1, _, _, _, h2, rfl⟩
        exact hk _ _ ⟨x13, x14, h1, h2, rfl⟩
    rintro σ HD ⟨x13, x14, sD, KD, rfl⟩
    refine z4 (fun σ H' => ∃ (to_ : Addr) (kt : List (Int × Int)), HD to_ = none ∧ Same HD H' ∧ H' to_ = some (costsD kt) ∧ z55 i w sg ((z13 sg).filter fun c => stands i (at_ sg c)) kt ∧ σ = [some (V.ref a), some (V.ref l), some (V.ref fl), some (V.int cc), some (V.str x), some (V.ref p), some (V.ref al), some (V.ref gl), some (V.ref ol), some (V.ref ch), some (V.ref du), some (V.ref hd), some (V.ref kp), x13, x14, some (V.ref to_)]) (fun nx hk => ?_) ?_
    · walk_at "RD"
      exact ⟨p, fl, i, n, w, h, sg, rfl, hcB.same sD, by omega, FB.same sD, g, fun r kvs H' nr s hr hcs => hk _ _ ⟨r, kvs, nr, s, hr, hcs, rfl⟩⟩
    rintro σ HM ⟨to_, kt, nto, sM, hto, ct, rfl⟩
    refine z4 (fun σ H' => Same HM H' ∧ σ = [some (V.ref a), some (V.ref l), some (V.ref fl), some (V.int cc), some (V.str x), some (V.ref p), some (V.ref al), some (V.ref gl), some (V.ref ol), some (V.ref ch), some (V.ref du), some (V.ref hd), some (V.ref kp), x13, x14, some (V.ref to_)]) (fun nx hk => ?_) ?_
    · walk_at "RD"
      exact ⟨to_, du, i, w, sg, _, kt, kd, rfl, hto, (sD.trans sM) _ _ hdu, ct, cdu, fun H'' s2 => ⟨_, rfl, by rw [if_neg (by decide)]; exact hk _ _ ⟨s2, rfl⟩⟩⟩
    rintro σ HN ⟨sN, rfl⟩
    have sMN := sM.trans sN
    have htoN := sN _ _ hto
    refine z4 (fun σ H' => H' = upd HN to_ (.dK []) ∧ σ = [some (V.ref a), some (V.ref l), some (V.ref fl), some (V.int cc), some (V.str x), some (V.ref p), some (V.ref al), some (V.ref gl), some (V.ref ol), some (V.ref ch), some (V.ref du), some (V.ref hd), some (V.ref kp), x13, x14, some (V.ref to_)]) (fun nx hk => ?_) ?_
    · walk_at "RD"
      exact ⟨.inr (.inr (.inl ⟨rfl, .inl ⟨_, htoN⟩⟩)), _, htoN, hk _ _ ⟨rfl, rfl⟩⟩
    rintro σ _ ⟨rfl, rfl⟩
    have sO : Same HD (upd HN to_ (.dK [])) := fun b o e => by
      rw [upd_ne (ne_of_none e nto)]
      exact sMN _ _ e
    have htoO : upd HN to_ (.dK []) to_ = some (.dK []) := upd_same
    generalize upd HN to_ (.dK []) = HO_ at sO htoO ⊢
    have sBO := sD.trans sO
    refine z4 (fun σ H' => Same HO_ H' ∧ σ = [some (V.ref a), some (V.ref l), some (V.ref fl), some (V.int cc), some (V.str x), some (V.ref p), some (V.ref al), some (V.ref gl), some (V.ref ol), some (V.ref ch), some (V.ref du), some (V.ref hd), some (V.ref kp), x13, x14, some (V.ref to_)]) (fun nx hk => ?_) ?_
    · walk_at "RD"
      refine ⟨p, fl, i, n, w, h, sg, rfl, hcB.same sBO, by omega, FB.same sBO, g, fun r kvs H' nr s hr hcs => ?_⟩
      exact ⟨r, du, i, w, sg, _, kvs, kd, rfl, hr, s _ _ (sBO _ _ hdu), hcs, cdu, fun H'' s2 => ⟨_, rfl, by rw [if_neg (by decide)]; exact hk _ _ ⟨s.trans s2, rfl⟩⟩⟩
    rintro σ HP ⟨sP, rfl⟩
    have KP := (KD.same sO).same sP
    have htoP := sP _ _ htoO
    obtain ⟨ts, lts, hkpP, pts⟩ := KP
    walk_at "RD"
    refine ⟨⟨_, SqL.of hkpP⟩, z22 (src_list (SqL.of hkpP)) (fun _ => false) (fun v => v) (fun y hy Q' hh => ?_) (fun y hy z => absurd z (by simp)) (by rw [List.length_map]; omega) (fun D nD => ⟨Nat.zero_le _, fun q nq => ?_⟩)⟩
    · obtain ⟨t, ht, rfl⟩ := List.mem_map.mp hy
      obtain ⟨u, v, kvs, e1, e2, e3, nd⟩ := pts t ht
      walk_at "RD"
      refine ⟨_, SqT.of e1, _, rfl, _, SqT.of e1, _, rfl, ?_⟩
      refine ⟨u, rfl, v, rfl, _, e2, _, e3, _, fun _ => khits K HP kvs kvs, ?_⟩
      simp only [beq_self_eq_true, z392 nd]
      exact hh
    · have fz : ∀ xs : List V, (xs.filter fun _ => false) = [] := fun xs => by simp
      simp only [fz] at nq ⊢
      have S1 := (zz0 (o := HO.lst (List.map (fun v : V => v) [])) nD).trans (zz0 (o := HO.lst []) nq)
      refine ⟨_, z234 (ns := []) (SqL.of ((zz0 nq) _ _ upd_same)), _, .lst (SqL.of upd_same) .nil, rfl, rfl, ?_⟩
      rw [if_pos (by decide)]
      exact fun r nr => ⟨_, (S1.trans (zz0 nr)) _ _ htoP, _, upd_same, true, fun _ => .nil, hq _⟩
end

set_option maxHeartbeats 4000000 in
theorem all_mk {l : PySem.W.OpenLaw} {w : World} {K : PySem.W.Frag} {h : Heap} {mg : Str → Option Value} {fa : Addr} (X : K.In h) (G : h.Ns mainGlobals mg) (hfa : mg "law" = some (.ref fa))
    {C_Floor : Addr}
    {C_Cart : Addr}
    {C_Crawler : Addr}
    {C_Runner : Addr}
    {C_Carrier : Addr}
    {C_Heap : Addr}
    {K_KINDS : Addr} {kc_KINDS : Option Addr} {kn_KINDS : Nat} {ks_KINDS : Array (Option Value)} {kk_KINDS0 : Tok} {kk_KINDS1 : Tok} {kk_KINDS2 : Tok}
    {K_COMMON_SIGNS : Addr} {kc_COMMON_SIGNS : Option Addr} {kn_COMMON_SIGNS : Nat} {ks_COMMON_SIGNS : Array (Option Value)} {kk_COMMON_SIGNS0 : Tok} {kk_COMMON_SIGNS1 : Tok} {kk_COMMON_SIGNS2 : Tok}
    {f_q22 : Addr} {od_q22 an_q22 : Option Addr} {sl_q22 : Array (Option Value)} {oc_q22 kV_q22 dc_q22 pm_q22 cd_q22 ct_q22 : Value}
    {f_q29 : Addr} {od_q29 an_q29 : Option Addr} {sl_q29 : Array (Option Value)} {oc_q29 kV_q29 dc_q29 pm_q29 cd_q29 ct_q29 : Value}
    {f_q17 : Addr} {od_q17 an_q17 : Option Addr} {sl_q17 : Array (Option Value)} {oc_q17 kV_q17 dc_q17 pm_q17 cd_q17 ct_q17 : Value}
    {f_q23 : Addr} {od_q23 an_q23 : Option Addr} {sl_q23 : Array (Option Value)} {oc_q23 kV_q23 dc_q23 pm_q23 cd_q23 ct_q23 : Value}
    {f_q24 : Addr} {od_q24 an_q24 : Option Addr} {sl_q24 : Array (Option Value)} {oc_q24 kV_q24 dc_q24 pm_q24 cd_q24 ct_q24 : Value}
    {f_q5 : Addr} {od_q5 an_q5 : Option Addr} {sl_q5 : Array (Option Value)} {oc_q5 kV_q5 dc_q5 pm_q5 cd_q5 ct_q5 : Value}
    {f_q4 : Addr} {od_q4 an_q4 : Option Addr} {sl_q4 : Array (Option Value)} {oc_q4 kV_q4 dc_q4 pm_q4 cd_q4 ct_q4 : Value}
    {f_q1 : Addr} {od_q1 an_q1 : Option Addr} {sl_q1 : Array (Option Value)} {oc_q1 kV_q1 dc_q1 pm_q1 cd_q1 ct_q1 : Value}
    {f_q25 : Addr} {od_q25 an_q25 : Option Addr} {sl_q25 : Array (Option Value)} {oc_q25 kV_q25 dc_q25 pm_q25 cd_q25 ct_q25 : Value}
    {f_q18 : Addr} {od_q18 an_q18 : Option Addr} {sl_q18 : Array (Option Value)} {oc_q18 kV_q18 dc_q18 pm_q18 cd_q18 ct_q18 : Value}
    {f_q6 : Addr} {od_q6 an_q6 : Option Addr} {sl_q6 : Array (Option Value)} {oc_q6 kV_q6 dc_q6 pm_q6 cd_q6 ct_q6 : Value}
    {f_q30 : Addr} {od_q30 an_q30 : Option Addr} {sl_q30 : Array (Option Value)} {oc_q30 kV_q30 dc_q30 pm_q30 cd_q30 ct_q30 : Value}
    {f_q31 : Addr} {od_q31 an_q31 : Option Addr} {sl_q31 : Array (Option Value)} {oc_q31 kV_q31 dc_q31 pm_q31 cd_q31 ct_q31 : Value}
    {f_q32 : Addr} {od_q32 an_q32 : Option Addr} {sl_q32 : Array (Option Value)} {oc_q32 kV_q32 dc_q32 pm_q32 cd_q32 ct_q32 : Value}
    {f_q33 : Addr} {od_q33 an_q33 : Option Addr} {sl_q33 : Array (Option Value)} {oc_q33 kV_q33 dc_q33 pm_q33 cd_q33 ct_q33 : Value}
    {f_q26 : Addr} {od_q26 an_q26 : Option Addr} {sl_q26 : Array (Option Value)} {oc_q26 kV_q26 dc_q26 pm_q26 cd_q26 ct_q26 : Value}
    {f_q14 : Addr} {od_q14 an_q14 : Option Addr} {sl_q14 : Array (Option Value)} {oc_q14 kV_q14 dc_q14 pm_q14 cd_q14 ct_q14 : Value}
    {f_q19 : Addr} {od_q19 an_q19 : Option Addr} {sl_q19 : Array (Option Value)} {oc_q19 kV_q19 dc_q19 pm_q19 cd_q19 ct_q19 : Value}
    {f_q27 : Addr} {od_q27 an_q27 : Option Addr} {sl_q27 : Array (Option Value)} {oc_q27 kV_q27 dc_q27 pm_q27 cd_q27 ct_q27 : Value}
    {f_q20 : Addr} {od_q20 an_q20 : Option Addr} {sl_q20 : Array (Option Value)} {oc_q20 kV_q20 dc_q20 pm_q20 cd_q20 ct_q20 : Value}
    {f_q9 : Addr} {od_q9 an_q9 : Option Addr} {sl_q9 : Array (Option Value)} {oc_q9 kV_q9 dc_q9 pm_q9 cd_q9 ct_q9 : Value}
    {f_q28 : Addr} {od_q28 an_q28 : Option Addr} {sl_q28 : Array (Option Value)} {oc_q28 kV_q28 dc_q28 pm_q28 cd_q28 ct_q28 : Value}
    {f_q15 : Addr} {od_q15 an_q15 : Option Addr} {sl_q15 : Array (Option Value)} {oc_q15 kV_q15 dc_q15 pm_q15 cd_q15 ct_q15 : Value}
    {f_q7 : Addr} {od_q7 an_q7 : Option Addr} {sl_q7 : Array (Option Value)} {oc_q7 kV_q7 dc_q7 pm_q7 cd_q7 ct_q7 : Value}
    {f_q10 : Addr} {od_q10 an_q10 : Option Addr} {sl_q10 : Array (Option Value)} {oc_q10 kV_q10 dc_q10 pm_q10 cd_q10 ct_q10 : Value}
    {f_q11 : Addr} {od_q11 an_q11 : Option Addr} {sl_q11 : Array (Option Value)} {oc_q11 kV_q11 dc_q11 pm_q11 cd_q11 ct_q11 : Value}
    {f_q2 : Addr} {od_q2 an_q2 : Option Addr} {sl_q2 : Array (Option Value)} {oc_q2 kV_q2 dc_q2 pm_q2 cd_q2 ct_q2 : Value}
    {f_q12 : Addr} {od_q12 an_q12 : Option Addr} {sl_q12 : Array (Option Value)} {oc_q12 kV_q12 dc_q12 pm_q12 cd_q12 ct_q12 : Value}
    {f_q8 : Addr} {od_q8 an_q8 : Option Addr} {sl_q8 : Array (Option Value)} {oc_q8 kV_q8 dc_q8 pm_q8 cd_q8 ct_q8 : Value}
    {f_q0 : Addr} {od_q0 an_q0 : Option Addr} {sl_q0 : Array (Option Value)} {oc_q0 kV_q0 dc_q0 pm_q0 cd_q0 ct_q0 : Value}
    {f_q3 : Addr} {od_q3 an_q3 : Option Addr} {sl_q3 : Array (Option Value)} {oc_q3 kV_q3 dc_q3 pm_q3 cd_q3 ct_q3 : Value}
    {f_q13 : Addr} {od_q13 an_q13 : Option Addr} {sl_q13 : Array (Option Value)} {oc_q13 kV_q13 dc_q13 pm_q13 cd_q13 ct_q13 : Value}
    {f_q16 : Addr} {od_q16 an_q16 : Option Addr} {sl_q16 : Array (Option Value)} {oc_q16 kV_q16 dc_q16 pm_q16 cd_q16 ct_q16 : Value}
    {f_q21 : Addr} {od_q21 an_q21 : Option Addr} {sl_q21 : Array (Option Value)} {oc_q21 kV_q21 dc_q21 pm_q21 cd_q21 ct_q21 : Value}
    {dt_q21 : Addr} {dd_q21 : Option Addr} {dc_q21_ : Value} {dn_q21 : Nat} {ds_q21 : Array (Option Value)} {td_carrier_of0 : Tok}
    {f_Lat : Addr} {od_Lat an_Lat : Option Addr} {sl_Lat : Array (Option Value)} {oc_Lat kV_Lat dc_Lat pm_Lat cd_Lat ct_Lat : Value}
    {f_q36 : Addr} {od_q36 an_q36 : Option Addr} {sl_q36 : Array (Option Value)} {oc_q36 kV_q36 dc_q36 pm_q36 cd_q36 ct_q36 : Value}
    {f_q37 : Addr} {od_q37 an_q37 : Option Addr} {sl_q37 : Array (Option Value)} {oc_q37 kV_q37 dc_q37 pm_q37 cd_q37 ct_q37 : Value}
    {f_q38 : Addr} {od_q38 an_q38 : Option Addr} {sl_q38 : Array (Option Value)} {oc_q38 kV_q38 dc_q38 pm_q38 cd_q38 ct_q38 : Value}
    {f_Lsign : Addr} {od_Lsign an_Lsign : Option Addr} {sl_Lsign : Array (Option Value)} {oc_Lsign kV_Lsign dc_Lsign pm_Lsign cd_Lsign ct_Lsign : Value}
    {f_q39 : Addr} {od_q39 an_q39 : Option Addr} {sl_q39 : Array (Option Value)} {oc_q39 kV_q39 dc_q39 pm_q39 cd_q39 ct_q39 : Value}
    {f_q34 : Addr} {od_q34 an_q34 : Option Addr} {sl_q34 : Array (Option Value)} {oc_q34 kV_q34 dc_q34 pm_q34 cd_q34 ct_q34 : Value}
    {f_q35 : Addr} {od_q35 an_q35 : Option Addr} {sl_q35 : Array (Option Value)} {oc_q35 kV_q35 dc_q35 pm_q35 cd_q35 ct_q35 : Value}
    {f_Lcost : Addr} {od_Lcost an_Lcost : Option Addr} {sl_Lcost : Array (Option Value)} {oc_Lcost kV_Lcost dc_Lcost pm_Lcost cd_Lcost ct_Lcost : Value}
    {f_q40 : Addr} {od_q40 an_q40 : Option Addr} {sl_q40 : Array (Option Value)} {oc_q40 kV_q40 dc_q40 pm_q40 cd_q40 ct_q40 : Value}
    {f_q41 : Addr} {od_q41 an_q41 : Option Addr} {sl_q41 : Array (Option Value)} {oc_q41 kV_q41 dc_q41 pm_q41 cd_q41 ct_q41 : Value}
    {f_Lsame : Addr} {od_Lsame an_Lsame : Option Addr} {sl_Lsame : Array (Option Value)} {oc_Lsame kV_Lsame dc_Lsame pm_Lsame cd_Lsame ct_Lsame : Value}
    {f_law : Addr} {od_law an_law : Option Addr} {sl_law : Array (Option Value)} {oc_law kV_law dc_law pm_law cd_law ct_law : Value}
    {t_WALL : Tok}
    {t_CHARGER : Tok}
    {t_SIGNS : Tok}
    {t_MOST_ROWS : Tok}
    {t_MOST_SIGNS : Tok}
    {t_MOST_FULL : Tok}
    {t_ROUGH : Tok}
    {t_LANE : Tok}
    (aC_Floor : PySem.W.nsIn K mainGlobals "Floor" = some (some (.ref C_Floor)))
    (pg_Floor : PySem.W.plainGet K C_Floor Str.empty = true) (hd_Floor : PySem.W.hasDictIn K C_Floor = true) (po_Floor : PySem.W.plainOver K C_Floor = true) (sa_Floor : PySem.W.findIn K (.ref C_Floor) "__setattr__" = some (some (.builtin "object.__setattr__"))) (kc_Floor : PySem.W.keepIn K (.ref C_Floor) = true)
    (mk_Floor : PySem.W.makesIn K C_Floor = true)
    (n_Floor_wide : PySem.W.findIn K (.ref C_Floor) "wide" = some none)
    (n_Floor_high : PySem.W.findIn K (.ref C_Floor) "high" = some none)
    (n_Floor_lines : PySem.W.findIn K (.ref C_Floor) "lines" = some none)
    (n_Floor_signs : PySem.W.findIn K (.ref C_Floor) "signs" = some none)
    (aC_Cart : PySem.W.nsIn K mainGlobals "Cart" = some (some (.ref C_Cart)))
    (pg_Cart : PySem.W.plainGet K C_Cart Str.empty = true) (hd_Cart : PySem.W.hasDictIn K C_Cart = true) (po_Cart : PySem.W.plainOver K C_Cart = true) (sa_Cart : PySem.W.findIn K (.ref C_Cart) "__setattr__" = some (some (.builtin "object.__setattr__"))) (kc_Cart : PySem.W.keepIn K (.ref C_Cart) = true)
    (mk_Cart : PySem.W.makesIn K C_Cart = true)
    (n_Cart_full : PySem.W.findIn K (.ref C_Cart) "full" = some none)
    (aC_Crawler : PySem.W.nsIn K mainGlobals "Crawler" = some (some (.ref C_Crawler)))
    (pg_Crawler : PySem.W.plainGet K C_Crawler Str.empty = true) (hd_Crawler : PySem.W.hasDictIn K C_Crawler = true) (po_Crawler : PySem.W.plainOver K C_Crawler = true) (sa_Crawler : PySem.W.findIn K (.ref C_Crawler) "__setattr__" = some (some (.builtin "object.__setattr__"))) (kc_Crawler : PySem.W.keepIn K (.ref C_Crawler) = true)
    (mk_Crawler : PySem.W.makesIn K C_Crawler = true)
    (n_Crawler_full : PySem.W.findIn K (.ref C_Crawler) "full" = some none)
    (aC_Runner : PySem.W.nsIn K mainGlobals "Runner" = some (some (.ref C_Runner)))
    (pg_Runner : PySem.W.plainGet K C_Runner Str.empty = true) (hd_Runner : PySem.W.hasDictIn K C_Runner = true) (po_Runner : PySem.W.plainOver K C_Runner = true) (sa_Runner : PySem.W.findIn K (.ref C_Runner) "__setattr__" = some (some (.builtin "object.__setattr__"))) (kc_Runner : PySem.W.keepIn K (.ref C_Runner) = true)
    (mk_Runner : PySem.W.makesIn K C_Runner = true)
    (n_Runner_full : PySem.W.findIn K (.ref C_Runner) "full" = some none)
    (aC_Carrier : PySem.W.nsIn K mainGlobals "Carrier" = some (some (.ref C_Carrier)))
    (pg_Carrier : PySem.W.plainGet K C_Carrier Str.empty = true) (hd_Carrier : PySem.W.hasDictIn K C_Carrier = true) (po_Carrier : PySem.W.plainOver K C_Carrier = true) (sa_Carrier : PySem.W.findIn K (.ref C_Carrier) "__setattr__" = some (some (.builtin "object.__setattr__"))) (kc_Carrier : PySem.W.keepIn K (.ref C_Carrier) = true)
    (mk_Carrier : PySem.W.makesIn K C_Carrier = true)
    (n_Carrier_full : PySem.W.findIn K (.ref C_Carrier) "full" = some none)
    (aC_Heap : PySem.W.nsIn K mainGlobals "Heap" = some (some (.ref C_Heap)))
    (pg_Heap : PySem.W.plainGet K C_Heap Str.empty = true) (hd_Heap : PySem.W.hasDictIn K C_Heap = true) (po_Heap : PySem.W.plainOver K C_Heap = true) (sa_Heap : PySem.W.findIn K (.ref C_Heap) "__setattr__" = some (some (.builtin "object.__setattr__"))) (kc_Heap : PySem.W.keepIn K (.ref C_Heap) = true)
    (mk_Heap : PySem.W.makesIn K C_Heap = true)
    (n_Heap_things : PySem.W.findIn K (.ref C_Heap) "things" = some none)
    (x_KINDS : PySem.W.nsIn K mainGlobals "KINDS" = some (some (.ref K_KINDS))) (lk_KINDS : K.lookup K_KINDS = some ⟨.type "tuple", kc_KINDS, .seq #[.str (Str.ofString "cart") kk_KINDS0, .str (Str.ofString "crawler") kk_KINDS1, .str (Str.ofString "runner") kk_KINDS2] kn_KINDS, ks_KINDS⟩)
    (x_COMMON_SIGNS : PySem.W.nsIn K mainGlobals "COMMON_SIGNS" = some (some (.ref K_COMMON_SIGNS))) (lk_COMMON_SIGNS : K.lookup K_COMMON_SIGNS = some ⟨.type "tuple", kc_COMMON_SIGNS, .seq #[.str (Str.ofString ".") kk_COMMON_SIGNS0, .str (Str.ofString "+") kk_COMMON_SIGNS1, .str (Str.ofString "|") kk_COMMON_SIGNS2] kn_COMMON_SIGNS, ks_COMMON_SIGNS⟩)
    (cgx : PySem.W.specialIn K (.builtin "object.__class__") "__get__" = some (some (.builtin "getset_descriptor.__get__")))
    (ctx : PySem.W.takesIn K (.builtin "object.__class__") = some true)
    (ca_Cart : PySem.W.findIn K (.ref C_Cart) "__class__" = some (some (.builtin "object.__class__")))
    (cm_Cart : PySem.W.mroIn K C_Cart (.type "object") = some true)
    (is_Cart_Carrier : PySem.W.kitOne K (.ref C_Cart) (.ref C_Carrier) = some true)
    (is_Cart_Cart : PySem.W.kitOne K (.ref C_Cart) (.ref C_Cart) = some true)
    (is_Cart_Crawler : PySem.W.kitOne K (.ref C_Cart) (.ref C_Crawler) = some false)
    (is_Cart_Runner : PySem.W.kitOne K (.ref C_Cart) (.ref C_Runner) = some false)
    (ca_Crawler : PySem.W.findIn K (.ref C_Crawler) "__class__" = some (some (.builtin "object.__class__")))
    (cm_Crawler : PySem.W.mroIn K C_Crawler (.type "object") = some true)
    (is_Crawler_Carrier : PySem.W.kitOne K (.ref C_Crawler) (.ref C_Carrier) = some true)
    (is_Crawler_Cart : PySem.W.kitOne K (.ref C_Crawler) (.ref C_Cart) = some false)
    (is_Crawler_Crawler : PySem.W.kitOne K (.ref C_Crawler) (.ref C_Crawler) = some true)
    (is_Crawler_Runner : PySem.W.kitOne K (.ref C_Crawler) (.ref C_Runner) = some false)
    (ca_Runner : PySem.W.findIn K (.ref C_Runner) "__class__" = some (some (.builtin "object.__class__")))
    (cm_Runner : PySem.W.mroIn K C_Runner (.type "object") = some true)
    (is_Runner_Carrier : PySem.W.kitOne K (.ref C_Runner) (.ref C_Carrier) = some true)
    (is_Runner_Cart : PySem.W.kitOne K (.ref C_Runner) (.ref C_Cart) = some false)
    (is_Runner_Crawler : PySem.W.kitOne K (.ref C_Runner) (.ref C_Crawler) = some false)
    (is_Runner_Runner : PySem.W.kitOne K (.ref C_Runner) (.ref C_Runner) = some true)
    (ca_Carrier : PySem.W.findIn K (.ref C_Carrier) "__class__" = some (some (.builtin "object.__class__")))
    (cm_Carrier : PySem.W.mroIn K C_Carrier (.type "object") = some true)
    (is_Carrier_Carrier : PySem.W.kitOne K (.ref C_Carrier) (.ref C_Carrier) = some true)
    (is_Carrier_Cart : PySem.W.kitOne K (.ref C_Carrier) (.ref C_Cart) = some false)
    (is_Carrier_Crawler : PySem.W.kitOne K (.ref C_Carrier) (.ref C_Crawler) = some false)
    (is_Carrier_Runner : PySem.W.kitOne K (.ref C_Carrier) (.ref C_Runner) = some false)
    (a_q22 : PySem.W.findIn K (.ref C_Heap) "__init__" = some (some (.ref f_q22))) (i_q22 : PySem.W.isFn K (.ref f_q22) = true)
    (l_q22 : K.lookup f_q22 = some ⟨oc_q22, od_q22, .func (PySem.W.fnOf "__init__" "Heap.__init__" (defArgs s_q22) (defBody s_q22) (defScope s_q22) .none kV_q22 dc_q22 pm_q22 an_q22 cd_q22 ct_q22), sl_q22⟩) (c_q22 : PySem.W.codeIn K cd_q22 "Heap.__init__" = true) (k_q22 : PySem.W.keepIn K (.ref f_q22) = true)
    (a_q29 : PySem.W.findIn K (.ref C_Heap) "put" = some (some (.ref f_q29))) (i_q29 : PySem.W.isFn K (.ref f_q29) = true)
    (l_q29 : K.lookup f_q29 = some ⟨oc_q29, od_q29, .func (PySem.W.fnOf "put" "Heap.put" (defArgs s_q29) (defBody s_q29) (defScope s_q29) .none kV_q29 dc_q29 pm_q29 an_q29 cd_q29 ct_q29), sl_q29⟩) (c_q29 : PySem.W.codeIn K cd_q29 "Heap.put" = true) (k_q29 : PySem.W.keepIn K (.ref f_q29) = true)
    (a_q17 : PySem.W.findIn K (.ref C_Heap) "least" = some (some (.ref f_q17))) (i_q17 : PySem.W.isFn K (.ref f_q17) = true)
    (l_q17 : K.lookup f_q17 = some ⟨oc_q17, od_q17, .func (PySem.W.fnOf "least" "Heap.least" (defArgs s_q17) (defBody s_q17) (defScope s_q17) .none kV_q17 dc_q17 pm_q17 an_q17 cd_q17 ct_q17), sl_q17⟩) (c_q17 : PySem.W.codeIn K cd_q17 "Heap.least" = true) (k_q17 : PySem.W.keepIn K (.ref f_q17) = true)
    (a_q23 : PySem.W.findIn K (.ref C_Heap) "take" = some (some (.ref f_q23))) (i_q23 : PySem.W.isFn K (.ref f_q23) = true)
    (l_q23 : K.lookup f_q23 = some ⟨oc_q23, od_q23, .func (PySem.W.fnOf "take" "Heap.take" (defArgs s_q23) (defBody s_q23) (defScope s_q23) .none kV_q23 dc_q23 pm_q23 an_q23 cd_q23 ct_q23), sl_q23⟩) (c_q23 : PySem.W.codeIn K cd_q23 "Heap.take" = true) (k_q23 : PySem.W.keepIn K (.ref f_q23) = true)
    (a_q24 : PySem.W.findIn K (.ref C_Heap) "size" = some (some (.ref f_q24))) (i_q24 : PySem.W.isFn K (.ref f_q24) = true)
    (l_q24 : K.lookup f_q24 = some ⟨oc_q24, od_q24, .func (PySem.W.fnOf "size" "Heap.size" (defArgs s_q24) (defBody s_q24) (defScope s_q24) .none kV_q24 dc_q24 pm_q24 an_q24 cd_q24 ct_q24), sl_q24⟩) (c_q24 : PySem.W.codeIn K cd_q24 "Heap.size" = true) (k_q24 : PySem.W.keepIn K (.ref f_q24) = true)
    (a_q5 : PySem.W.findIn K (.ref C_Heap) "lift_last" = some (some (.ref f_q5))) (i_q5 : PySem.W.isFn K (.ref f_q5) = true)
    (l_q5 : K.lookup f_q5 = some ⟨oc_q5, od_q5, .func (PySem.W.fnOf "lift_last" "Heap.lift_last" (defArgs s_q5) (defBody s_q5) (defScope s_q5) .none kV_q5 dc_q5 pm_q5 an_q5 cd_q5 ct_q5), sl_q5⟩) (c_q5 : PySem.W.codeIn K cd_q5 "Heap.lift_last" = true) (k_q5 : PySem.W.keepIn K (.ref f_q5) = true)
    (a_q4 : PySem.W.findIn K (.ref C_Heap) "sink_first" = some (some (.ref f_q4))) (i_q4 : PySem.W.isFn K (.ref f_q4) = true)
    (l_q4 : K.lookup f_q4 = some ⟨oc_q4, od_q4, .func (PySem.W.fnOf "sink_first" "Heap.sink_first" (defArgs s_q4) (defBody s_q4) (defScope s_q4) .none kV_q4 dc_q4 pm_q4 an_q4 cd_q4 ct_q4), sl_q4⟩) (c_q4 : PySem.W.codeIn K cd_q4 "Heap.sink_first" = true) (k_q4 : PySem.W.keepIn K (.ref f_q4) = true)
    (a_q1 : PySem.W.findIn K (.ref C_Heap) "lesser_below" = some (some (.ref f_q1))) (i_q1 : PySem.W.isFn K (.ref f_q1) = true)
    (l_q1 : K.lookup f_q1 = some ⟨oc_q1, od_q1, .func (PySem.W.fnOf "lesser_below" "Heap.lesser_below" (defArgs s_q1) (defBody s_q1) (defScope s_q1) .none kV_q1 dc_q1 pm_q1 an_q1 cd_q1 ct_q1), sl_q1⟩) (c_q1 : PySem.W.codeIn K cd_q1 "Heap.lesser_below" = true) (k_q1 : PySem.W.keepIn K (.ref f_q1) = true)
    (a_q25 : PySem.W.findIn K (.ref C_Heap) "swap" = some (some (.ref f_q25))) (i_q25 : PySem.W.isFn K (.ref f_q25) = true)
    (l_q25 : K.lookup f_q25 = some ⟨oc_q25, od_q25, .func (PySem.W.fnOf "swap" "Heap.swap" (defArgs s_q25) (defBody s_q25) (defScope s_q25) .none kV_q25 dc_q25 pm_q25 an_q25 cd_q25 ct_q25), sl_q25⟩) (c_q25 : PySem.W.codeIn K cd_q25 "Heap.swap" = true) (k_q25 : PySem.W.keepIn K (.ref f_q25) = true)
    (a_q18 : PySem.W.nsIn K mainGlobals "steps_into" = some (some (.ref f_q18)))
    (l_q18 : K.lookup f_q18 = some ⟨oc_q18, od_q18, .func (PySem.W.fnOf "steps_into" "steps_into" (defArgs s_q18) (defBody s_q18) (defScope s_q18) .none kV_q18 dc_q18 pm_q18 an_q18 cd_q18 ct_q18), sl_q18⟩) (c_q18 : PySem.W.codeIn K cd_q18 "steps_into" = true) (k_q18 : PySem.W.keepIn K (.ref f_q18) = true)
    (a_q6 : PySem.W.nsIn K mainGlobals "standing_cells" = some (some (.ref f_q6)))
    (l_q6 : K.lookup f_q6 = some ⟨oc_q6, od_q6, .func (PySem.W.fnOf "standing_cells" "standing_cells" (defArgs s_q6) (defBody s_q6) (defScope s_q6) .none kV_q6 dc_q6 pm_q6 an_q6 cd_q6 ct_q6), sl_q6⟩) (c_q6 : PySem.W.codeIn K cd_q6 "standing_cells" = true) (k_q6 : PySem.W.keepIn K (.ref f_q6) = true)
    (a_q30 : PySem.W.nsIn K mainGlobals "costs_to" = some (some (.ref f_q30)))
    (l_q30 : K.lookup f_q30 = some ⟨oc_q30, od_q30, .func (PySem.W.fnOf "costs_to" "costs_to" (defArgs s_q30) (defBody s_q30) (defScope s_q30) .none kV_q30 dc_q30 pm_q30 an_q30 cd_q30 ct_q30), sl_q30⟩) (c_q30 : PySem.W.codeIn K cd_q30 "costs_to" = true) (k_q30 : PySem.W.keepIn K (.ref f_q30) = true)
    (a_q31 : PySem.W.nsIn K mainGlobals "needs_of" = some (some (.ref f_q31)))
    (l_q31 : K.lookup f_q31 = some ⟨oc_q31, od_q31, .func (PySem.W.fnOf "needs_of" "needs_of" (defArgs s_q31) (defBody s_q31) (defScope s_q31) .none kV_q31 dc_q31 pm_q31 an_q31 cd_q31 ct_q31), sl_q31⟩) (c_q31 : PySem.W.codeIn K cd_q31 "needs_of" = true) (k_q31 : PySem.W.keepIn K (.ref f_q31) = true)
    (a_q32 : PySem.W.nsIn K mainGlobals "is_whole" = some (some (.ref f_q32)))
    (l_q32 : K.lookup f_q32 = some ⟨oc_q32, od_q32, .func (PySem.W.fnOf "is_whole" "is_whole" (defArgs s_q32) (defBody s_q32) (defScope s_q32) .none kV_q32 dc_q32 pm_q32 an_q32 cd_q32 ct_q32), sl_q32⟩) (c_q32 : PySem.W.codeIn K cd_q32 "is_whole" = true) (k_q32 : PySem.W.keepIn K (.ref f_q32) = true)
    (a_q33 : PySem.W.nsIn K mainGlobals "is_among" = some (some (.ref f_q33)))
    (l_q33 : K.lookup f_q33 = some ⟨oc_q33, od_q33, .func (PySem.W.fnOf "is_among" "is_among" (defArgs s_q33) (defBody s_q33) (defScope s_q33) .none kV_q33 dc_q33 pm_q33 an_q33 cd_q33 ct_q33), sl_q33⟩) (c_q33 : PySem.W.codeIn K cd_q33 "is_among" = true) (k_q33 : PySem.W.keepIn K (.ref f_q33) = true)
    (a_q26 : PySem.W.nsIn K mainGlobals "check_row" = some (some (.ref f_q26)))
    (l_q26 : K.lookup f_q26 = some ⟨oc_q26, od_q26, .func (PySem.W.fnOf "check_row" "check_row" (defArgs s_q26) (defBody s_q26) (defScope s_q26) .none kV_q26 dc_q26 pm_q26 an_q26 cd_q26 ct_q26), sl_q26⟩) (c_q26 : PySem.W.codeIn K cd_q26 "check_row" = true) (k_q26 : PySem.W.keepIn K (.ref f_q26) = true)
    (a_q14 : PySem.W.nsIn K mainGlobals "check_floor" = some (some (.ref f_q14)))
    (l_q14 : K.lookup f_q14 = some ⟨oc_q14, od_q14, .func (PySem.W.fnOf "check_floor" "check_floor" (defArgs s_q14) (defBody s_q14) (defScope s_q14) .none kV_q14 dc_q14 pm_q14 an_q14 cd_q14 ct_q14), sl_q14⟩) (c_q14 : PySem.W.codeIn K cd_q14 "check_floor" = true) (k_q14 : PySem.W.keepIn K (.ref f_q14) = true)
    (a_q19 : PySem.W.findIn K (.ref C_Floor) "__init__" = some (some (.ref f_q19))) (i_q19 : PySem.W.isFn K (.ref f_q19) = true)
    (l_q19 : K.lookup f_q19 = some ⟨oc_q19, od_q19, .func (PySem.W.fnOf "__init__" "Floor.__init__" (defArgs s_q19) (defBody s_q19) (defScope s_q19) .none kV_q19 dc_q19 pm_q19 an_q19 cd_q19 ct_q19), sl_q19⟩) (c_q19 : PySem.W.codeIn K cd_q19 "Floor.__init__" = true) (k_q19 : PySem.W.keepIn K (.ref f_q19) = true)
    (a_q27 : PySem.W.findIn K (.ref C_Floor) "has" = some (some (.ref f_q27))) (i_q27 : PySem.W.isFn K (.ref f_q27) = true)
    (l_q27 : K.lookup f_q27 = some ⟨oc_q27, od_q27, .func (PySem.W.fnOf "has" "Floor.has" (defArgs s_q27) (defBody s_q27) (defScope s_q27) .none kV_q27 dc_q27 pm_q27 an_q27 cd_q27 ct_q27), sl_q27⟩) (c_q27 : PySem.W.codeIn K cd_q27 "Floor.has" = true) (k_q27 : PySem.W.keepIn K (.ref f_q27) = true)
    (a_q20 : PySem.W.findIn K (.ref C_Floor) "sign" = some (some (.ref f_q20))) (i_q20 : PySem.W.isFn K (.ref f_q20) = true)
    (l_q20 : K.lookup f_q20 = some ⟨oc_q20, od_q20, .func (PySem.W.fnOf "sign" "Floor.sign" (defArgs s_q20) (defBody s_q20) (defScope s_q20) .none kV_q20 dc_q20 pm_q20 an_q20 cd_q20 ct_q20), sl_q20⟩) (c_q20 : PySem.W.codeIn K cd_q20 "Floor.sign" = true) (k_q20 : PySem.W.keepIn K (.ref f_q20) = true)
    (a_q9 : PySem.W.findIn K (.ref C_Floor) "column" = some (some (.ref f_q9))) (i_q9 : PySem.W.isFn K (.ref f_q9) = true)
    (l_q9 : K.lookup f_q9 = some ⟨oc_q9, od_q9, .func (PySem.W.fnOf "column" "Floor.column" (defArgs s_q9) (defBody s_q9) (defScope s_q9) .none kV_q9 dc_q9 pm_q9 an_q9 cd_q9 ct_q9), sl_q9⟩) (c_q9 : PySem.W.codeIn K cd_q9 "Floor.column" = true) (k_q9 : PySem.W.keepIn K (.ref f_q9) = true)
    (a_q28 : PySem.W.findIn K (.ref C_Floor) "row" = some (some (.ref f_q28))) (i_q28 : PySem.W.isFn K (.ref f_q28) = true)
    (l_q28 : K.lookup f_q28 = some ⟨oc_q28, od_q28, .func (PySem.W.fnOf "row" "Floor.row" (defArgs s_q28) (defBody s_q28) (defScope s_q28) .none kV_q28 dc_q28 pm_q28 an_q28 cd_q28 ct_q28), sl_q28⟩) (c_q28 : PySem.W.codeIn K cd_q28 "Floor.row" = true) (k_q28 : PySem.W.keepIn K (.ref f_q28) = true)
    (a_q15 : PySem.W.findIn K (.ref C_Floor) "cells" = some (some (.ref f_q15))) (i_q15 : PySem.W.isFn K (.ref f_q15) = true)
    (l_q15 : K.lookup f_q15 = some ⟨oc_q15, od_q15, .func (PySem.W.fnOf "cells" "Floor.cells" (defArgs s_q15) (defBody s_q15) (defScope s_q15) .none kV_q15 dc_q15 pm_q15 an_q15 cd_q15 ct_q15), sl_q15⟩) (c_q15 : PySem.W.codeIn K cd_q15 "Floor.cells" = true) (k_q15 : PySem.W.keepIn K (.ref f_q15) = true)
    (a_q7 : PySem.W.findIn K (.ref C_Floor) "chargers" = some (some (.ref f_q7))) (i_q7 : PySem.W.isFn K (.ref f_q7) = true)
    (l_q7 : K.lookup f_q7 = some ⟨oc_q7, od_q7, .func (PySem.W.fnOf "chargers" "Floor.chargers" (defArgs s_q7) (defBody s_q7) (defScope s_q7) .none kV_q7 dc_q7 pm_q7 an_q7 cd_q7 ct_q7), sl_q7⟩) (c_q7 : PySem.W.codeIn K cd_q7 "Floor.chargers" = true) (k_q7 : PySem.W.keepIn K (.ref f_q7) = true)
    (a_q10 : PySem.W.findIn K (.ref C_Floor) "beside" = some (some (.ref f_q10))) (i_q10 : PySem.W.isFn K (.ref f_q10) = true)
    (l_q10 : K.lookup f_q10 = some ⟨oc_q10, od_q10, .func (PySem.W.fnOf "beside" "Floor.beside" (defArgs s_q10) (defBody s_q10) (defScope s_q10) .none kV_q10 dc_q10 pm_q10 an_q10 cd_q10 ct_q10), sl_q10⟩) (c_q10 : PySem.W.codeIn K cd_q10 "Floor.beside" = true) (k_q10 : PySem.W.keepIn K (.ref f_q10) = true)
    (a_q11 : PySem.W.findIn K (.ref C_Carrier) "__init__" = some (some (.ref f_q11))) (i_q11 : PySem.W.isFn K (.ref f_q11) = true)
    (l_q11 : K.lookup f_q11 = some ⟨oc_q11, od_q11, .func (PySem.W.fnOf "__init__" "Carrier.__init__" (defArgs s_q11) (defBody s_q11) (defScope s_q11) .none kV_q11 dc_q11 pm_q11 an_q11 cd_q11 ct_q11), sl_q11⟩) (c_q11 : PySem.W.codeIn K cd_q11 "Carrier.__init__" = true) (k_q11 : PySem.W.keepIn K (.ref f_q11) = true)
    (a_q2 : PySem.W.findIn K (.ref C_Carrier) "may_stand" = some (some (.ref f_q2))) (i_q2 : PySem.W.isFn K (.ref f_q2) = true)
    (l_q2 : K.lookup f_q2 = some ⟨oc_q2, od_q2, .func (PySem.W.fnOf "may_stand" "Carrier.may_stand" (defArgs s_q2) (defBody s_q2) (defScope s_q2) .none kV_q2 dc_q2 pm_q2 an_q2 cd_q2 ct_q2), sl_q2⟩) (c_q2 : PySem.W.codeIn K cd_q2 "Carrier.may_stand" = true) (k_q2 : PySem.W.keepIn K (.ref f_q2) = true)
    (a_q12 : PySem.W.findIn K (.ref C_Carrier) "fare" = some (some (.ref f_q12))) (i_q12 : PySem.W.isFn K (.ref f_q12) = true)
    (l_q12 : K.lookup f_q12 = some ⟨oc_q12, od_q12, .func (PySem.W.fnOf "fare" "Carrier.fare" (defArgs s_q12) (defBody s_q12) (defScope s_q12) .none kV_q12 dc_q12 pm_q12 an_q12 cd_q12 ct_q12), sl_q12⟩) (c_q12 : PySem.W.codeIn K cd_q12 "Carrier.fare" = true) (k_q12 : PySem.W.keepIn K (.ref f_q12) = true)
    (a_q8 : PySem.W.findIn K (.ref C_Carrier) "steps" = some (some (.ref f_q8))) (i_q8 : PySem.W.isFn K (.ref f_q8) = true)
    (l_q8 : K.lookup f_q8 = some ⟨oc_q8, od_q8, .func (PySem.W.fnOf "steps" "Carrier.steps" (defArgs s_q8) (defBody s_q8) (defScope s_q8) .none kV_q8 dc_q8 pm_q8 an_q8 cd_q8 ct_q8), sl_q8⟩) (c_q8 : PySem.W.codeIn K cd_q8 "Carrier.steps" = true) (k_q8 : PySem.W.keepIn K (.ref f_q8) = true)
    (a_q0 : PySem.W.findIn K (.ref C_Carrier) "fare_if_standing" = some (some (.ref f_q0))) (i_q0 : PySem.W.isFn K (.ref f_q0) = true)
    (l_q0 : K.lookup f_q0 = some ⟨oc_q0, od_q0, .func (PySem.W.fnOf "fare_if_standing" "Carrier.fare_if_standing" (defArgs s_q0) (defBody s_q0) (defScope s_q0) .none kV_q0 dc_q0 pm_q0 an_q0 cd_q0 ct_q0), sl_q0⟩) (c_q0 : PySem.W.codeIn K cd_q0 "Carrier.fare_if_standing" = true) (k_q0 : PySem.W.keepIn K (.ref f_q0) = true)
    (a_q3 : PySem.W.findIn K (.ref C_Crawler) "may_stand" = some (some (.ref f_q3))) (i_q3 : PySem.W.isFn K (.ref f_q3) = true)
    (l_q3 : K.lookup f_q3 = some ⟨oc_q3, od_q3, .func (PySem.W.fnOf "may_stand" "Crawler.may_stand" (defArgs s_q3) (defBody s_q3) (defScope s_q3) .none kV_q3 dc_q3 pm_q3 an_q3 cd_q3 ct_q3), sl_q3⟩) (c_q3 : PySem.W.codeIn K cd_q3 "Crawler.may_stand" = true) (k_q3 : PySem.W.keepIn K (.ref f_q3) = true)
    (a_q13 : PySem.W.findIn K (.ref C_Crawler) "fare" = some (some (.ref f_q13))) (i_q13 : PySem.W.isFn K (.ref f_q13) = true)
    (l_q13 : K.lookup f_q13 = some ⟨oc_q13, od_q13, .func (PySem.W.fnOf "fare" "Crawler.fare" (defArgs s_q13) (defBody s_q13) (defScope s_q13) .none kV_q13 dc_q13 pm_q13 an_q13 cd_q13 ct_q13), sl_q13⟩) (c_q13 : PySem.W.codeIn K cd_q13 "Crawler.fare" = true) (k_q13 : PySem.W.keepIn K (.ref f_q13) = true)
    (a_q16 : PySem.W.findIn K (.ref C_Runner) "fare" = some (some (.ref f_q16))) (i_q16 : PySem.W.isFn K (.ref f_q16) = true)
    (l_q16 : K.lookup f_q16 = some ⟨oc_q16, od_q16, .func (PySem.W.fnOf "fare" "Runner.fare" (defArgs s_q16) (defBody s_q16) (defScope s_q16) .none kV_q16 dc_q16 pm_q16 an_q16 cd_q16 ct_q16), sl_q16⟩) (c_q16 : PySem.W.codeIn K cd_q16 "Runner.fare" = true) (k_q16 : PySem.W.keepIn K (.ref f_q16) = true)
    (a_q21 : PySem.W.nsIn K mainGlobals "carrier_of" = some (some (.ref f_q21)))
    (l_q21 : K.lookup f_q21 = some ⟨oc_q21, od_q21, .func (PySem.W.fnOf "carrier_of" "carrier_of" (defArgs s_q21) (defBody s_q21) (defScope s_q21) (.ref dt_q21) kV_q21 dc_q21 pm_q21 an_q21 cd_q21 ct_q21), sl_q21⟩) (c_q21 : PySem.W.codeIn K cd_q21 "carrier_of" = true) (k_q21 : PySem.W.keepIn K (.ref f_q21) = true)
    (df_q21 : K.lookup dt_q21 = some ⟨dc_q21_, dd_q21, .seq #[.int 20 td_carrier_of0] dn_q21, ds_q21⟩)
    (a_Lat : PySem.W.nsIn K mainGlobals "_law_at" = some (some (.ref f_Lat)))
    (l_Lat : K.lookup f_Lat = some ⟨oc_Lat, od_Lat, .func (PySem.W.fnOf "_law_at" "_law_at" (defArgs s_Lat) (defBody s_Lat) (defScope s_Lat) .none kV_Lat dc_Lat pm_Lat an_Lat cd_Lat ct_Lat), sl_Lat⟩) (c_Lat : PySem.W.codeIn K cd_Lat "_law_at" = true) (k_Lat : PySem.W.keepIn K (.ref f_Lat) = true)
    (a_q36 : PySem.W.nsIn K mainGlobals "_law_mixed" = some (some (.ref f_q36)))
    (l_q36 : K.lookup f_q36 = some ⟨oc_q36, od_q36, .func (PySem.W.fnOf "_law_mixed" "_law_mixed" (defArgs s_q36) (defBody s_q36) (defScope s_q36) .none kV_q36 dc_q36 pm_q36 an_q36 cd_q36 ct_q36), sl_q36⟩) (c_q36 : PySem.W.codeIn K cd_q36 "_law_mixed" = true) (k_q36 : PySem.W.keepIn K (.ref f_q36) = true)
    (a_q37 : PySem.W.nsIn K mainGlobals "_law_whole" = some (some (.ref f_q37)))
    (l_q37 : K.lookup f_q37 = some ⟨oc_q37, od_q37, .func (PySem.W.fnOf "_law_whole" "_law_whole" (defArgs s_q37) (defBody s_q37) (defScope s_q37) .none kV_q37 dc_q37 pm_q37 an_q37 cd_q37 ct_q37), sl_q37⟩) (c_q37 : PySem.W.codeIn K cd_q37 "_law_whole" = true) (k_q37 : PySem.W.keepIn K (.ref f_q37) = true)
    (a_q38 : PySem.W.nsIn K mainGlobals "_law_lines" = some (some (.ref f_q38)))
    (l_q38 : K.lookup f_q38 = some ⟨oc_q38, od_q38, .func (PySem.W.fnOf "_law_lines" "_law_lines" (defArgs s_q38) (defBody s_q38) (defScope s_q38) .none kV_q38 dc_q38 pm_q38 an_q38 cd_q38 ct_q38), sl_q38⟩) (c_q38 : PySem.W.codeIn K cd_q38 "_law_lines" = true) (k_q38 : PySem.W.keepIn K (.ref f_q38) = true)
    (a_Lsign : PySem.W.nsIn K mainGlobals "_law_sign" = some (some (.ref f_Lsign)))
    (l_Lsign : K.lookup f_Lsign = some ⟨oc_Lsign, od_Lsign, .func (PySem.W.fnOf "_law_sign" "_law_sign" (defArgs z141) (defBody z141) (defScope z141) .none kV_Lsign dc_Lsign pm_Lsign an_Lsign cd_Lsign ct_Lsign), sl_Lsign⟩) (c_Lsign : PySem.W.codeIn K cd_Lsign "_law_sign" = true) (k_Lsign : PySem.W.keepIn K (.ref f_Lsign) = true)
    (a_q39 : PySem.W.nsIn K mainGlobals "_law_cells" = some (some (.ref f_q39)))
    (l_q39 : K.lookup f_q39 = some ⟨oc_q39, od_q39, .func (PySem.W.fnOf "_law_cells" "_law_cells" (defArgs s_q39) (defBody s_q39) (defScope s_q39) .none kV_q39 dc_q39 pm_q39 an_q39 cd_q39 ct_q39), sl_q39⟩) (c_q39 : PySem.W.codeIn K cd_q39 "_law_cells" = true) (k_q39 : PySem.W.keepIn K (.ref f_q39) = true)
    (a_q34 : PySem.W.nsIn K mainGlobals "_law_beside" = some (some (.ref f_q34)))
    (l_q34 : K.lookup f_q34 = some ⟨oc_q34, od_q34, .func (PySem.W.fnOf "_law_beside" "_law_beside" (defArgs s_q34) (defBody s_q34) (defScope s_q34) .none kV_q34 dc_q34 pm_q34 an_q34 cd_q34 ct_q34), sl_q34⟩) (c_q34 : PySem.W.codeIn K cd_q34 "_law_beside" = true) (k_q34 : PySem.W.keepIn K (.ref f_q34) = true)
    (a_q35 : PySem.W.nsIn K mainGlobals "_law_stands" = some (some (.ref f_q35)))
    (l_q35 : K.lookup f_q35 = some ⟨oc_q35, od_q35, .func (PySem.W.fnOf "_law_stands" "_law_stands" (defArgs s_q35) (defBody s_q35) (defScope s_q35) .none kV_q35 dc_q35 pm_q35 an_q35 cd_q35 ct_q35), sl_q35⟩) (c_q35 : PySem.W.codeIn K cd_q35 "_law_stands" = true) (k_q35 : PySem.W.keepIn K (.ref f_q35) = true)
    (a_Lcost : PySem.W.nsIn K mainGlobals "_law_cost" = some (some (.ref f_Lcost)))
    (l_Lcost : K.lookup f_Lcost = some ⟨oc_Lcost, od_Lcost, .func (PySem.W.fnOf "_law_cost" "_law_cost" (defArgs z49) (defBody z49) (defScope z49) .none kV_Lcost dc_Lcost pm_Lcost an_Lcost cd_Lcost ct_Lcost), sl_Lcost⟩) (c_Lcost : PySem.W.codeIn K cd_Lcost "_law_cost" = true) (k_Lcost : PySem.W.keepIn K (.ref f_Lcost) = true)
    (a_q40 : PySem.W.nsIn K mainGlobals "_law_steps" = some (some (.ref f_q40)))
    (l_q40 : K.lookup f_q40 = some ⟨oc_q40, od_q40, .func (PySem.W.fnOf "_law_steps" "_law_steps" (defArgs s_q40) (defBody s_q40) (defScope s_q40) .none kV_q40 dc_q40 pm_q40 an_q40 cd_q40 ct_q40), sl_q40⟩) (c_q40 : PySem.W.codeIn K cd_q40 "_law_steps" = true) (k_q40 : PySem.W.keepIn K (.ref f_q40) = true)
    (a_q41 : PySem.W.nsIn K mainGlobals "_law_costs" = some (some (.ref f_q41)))
    (l_q41 : K.lookup f_q41 = some ⟨oc_q41, od_q41, .func (PySem.W.fnOf "_law_costs" "_law_costs" (defArgs s_q41) (defBody s_q41) (defScope s_q41) .none kV_q41 dc_q41 pm_q41 an_q41 cd_q41 ct_q41), sl_q41⟩) (c_q41 : PySem.W.codeIn K cd_q41 "_law_costs" = true) (k_q41 : PySem.W.keepIn K (.ref f_q41) = true)
    (a_Lsame : PySem.W.nsIn K mainGlobals "_law_same" = some (some (.ref f_Lsame)))
    (l_Lsame : K.lookup f_Lsame = some ⟨oc_Lsame, od_Lsame, .func (PySem.W.fnOf "_law_same" "_law_same" (defArgs z93) (defBody z93) (defScope z93) .none kV_Lsame dc_Lsame pm_Lsame an_Lsame cd_Lsame ct_Lsame), sl_Lsame⟩) (c_Lsame : PySem.W.codeIn K cd_Lsame "_law_same" = true) (k_Lsame : PySem.W.keepIn K (.ref f_Lsame) = true)
    (a_law : PySem.W.nsIn K mainGlobals "law" = some (some (.ref f_law)))
    (l_law : K.lookup f_law = some ⟨oc_law, od_law, .func (PySem.W.fnOf "law" "law" (defArgs s_law) (defBody s_law) (defScope s_law) .none kV_law dc_law pm_law an_law cd_law ct_law), sl_law⟩) (c_law : PySem.W.codeIn K cd_law "law" = true) (k_law : PySem.W.keepIn K (.ref f_law) = true)
    (as_Cart_may_stand : PySem.W.findIn K (.ref C_Cart) "may_stand" = some (some (.ref f_q2)))
    (as_Cart_fare : PySem.W.findIn K (.ref C_Cart) "fare" = some (some (.ref f_q12)))
    (as_Cart_steps : PySem.W.findIn K (.ref C_Cart) "steps" = some (some (.ref f_q8)))
    (as_Cart_fare_if_standing : PySem.W.findIn K (.ref C_Cart) "fare_if_standing" = some (some (.ref f_q0)))
    (as_Crawler_steps : PySem.W.findIn K (.ref C_Crawler) "steps" = some (some (.ref f_q8)))
    (as_q13_if_standing : PySem.W.findIn K (.ref C_Crawler) "fare_if_standing" = some (some (.ref f_q0)))
    (as_Runner_may_stand : PySem.W.findIn K (.ref C_Runner) "may_stand" = some (some (.ref f_q2)))
    (as_Runner_steps : PySem.W.findIn K (.ref C_Runner) "steps" = some (some (.ref f_q8)))
    (as_q16_if_standing : PySem.W.findIn K (.ref C_Runner) "fare_if_standing" = some (some (.ref f_q0)))
    (as_Cart_init : PySem.W.findIn K (.ref C_Cart) "__init__" = some (some (.ref f_q11)))
    (as_Crawler_init : PySem.W.findIn K (.ref C_Crawler) "__init__" = some (some (.ref f_q11)))
    (as_Runner_init : PySem.W.findIn K (.ref C_Runner) "__init__" = some (some (.ref f_q11)))
    (z_len : PySem.W.nsIn K mainGlobals "len" = some none)
    (z_range : PySem.W.nsIn K mainGlobals "range" = some none)
    (z_isinstance : PySem.W.nsIn K mainGlobals "isinstance" = some none)
    (z_all : PySem.W.nsIn K mainGlobals "all" = some none)
    (z_int : PySem.W.nsIn K mainGlobals "int" = some none)
    (z_bool : PySem.W.nsIn K mainGlobals "bool" = some none)
    (z_str : PySem.W.nsIn K mainGlobals "str" = some none)
    (z_list : PySem.W.nsIn K mainGlobals "list" = some none)
    (z_tuple : PySem.W.nsIn K mainGlobals "tuple" = some none)
    (z_dict : PySem.W.nsIn K mainGlobals "dict" = some none)
    (z_min : PySem.W.nsIn K mainGlobals "min" = some none)
    (z_max : PySem.W.nsIn K mainGlobals "max" = some none)
    (x_WALL : PySem.W.nsIn K mainGlobals "WALL" = some (some (.str (Str.ofString "#") t_WALL)))
    (x_CHARGER : PySem.W.nsIn K mainGlobals "CHARGER" = some (some (.str (Str.ofString "+") t_CHARGER)))
    (x_SIGNS : PySem.W.nsIn K mainGlobals "SIGNS" = some (some (.str (Str.ofString ".#+~|") t_SIGNS)))
    (x_MOST_ROWS : PySem.W.nsIn K mainGlobals "MOST_ROWS" = some (some (.int 10 t_MOST_ROWS)))
    (x_MOST_SIGNS : PySem.W.nsIn K mainGlobals "MOST_SIGNS" = some (some (.int 10 t_MOST_SIGNS)))
    (x_MOST_FULL : PySem.W.nsIn K mainGlobals "MOST_FULL" = some (some (.int 60 t_MOST_FULL)))
    (x_ROUGH : PySem.W.nsIn K mainGlobals "ROUGH" = some (some (.str (Str.ofString "~") t_ROUGH)))
    (x_LANE : PySem.W.nsIn K mainGlobals "LANE" = some (some (.str (Str.ofString "|") t_LANE)))
    : ∃ fd : FuncData, (∀ (s : Shared) (v : Value), BindsTo s fd ⟨[v], []⟩ [("_law_script", v)]) ∧ ∀ base : Heap, K.In base → base.Ns mainGlobals mg → FnOk l.prog w K mg base CX0 9 fa fd ["_law_script"] (spLaw K) := by
  obtain rfl : f_law = fa := by
    have e := hfa.symm.trans (PySem.W.mg_of X G a_law)
    cases e
    rfl
  let A0 : Ad := ⟨f_q22, f_q29, f_q17, f_q23, f_q24, f_q5, f_q4, f_q1, f_q25, f_q18, f_q6, f_q30, f_q31, f_q32, f_q33, f_q26, f_q14, f_q19, f_q27, f_q20, f_q9, f_q28, f_q15, f_q7, f_q10, f_q11, f_q2, f_q12, f_q8, f_q0, f_q3, f_q13, f_q16, f_q21, f_Lat, f_q36, f_q37, f_q38, f_Lsign, f_q39, f_q34, f_q35, f_Lcost, f_q40, f_q41, f_Lsame, f_law, C_Floor, C_Cart, C_Crawler, C_Runner, C_Carrier, C_Heap, K_KINDS, K_COMMON_SIGNS⟩
  have T : Txt K mg A0 := by
    constructor
    · exact PySem.W.mg_none_of X G z_len
    · exact PySem.W.mg_none_of X G z_range
    · exact PySem.W.mg_none_of X G z_isinstance
    · exact PySem.W.mg_none_of X G z_all
    · exact PySem.W.mg_none_of X G z_int
    · exact PySem.W.mg_none_of X G z_bool
    · exact PySem.W.mg_none_of X G z_str
    · exact PySem.W.mg_none_of X G z_list
    · exact PySem.W.mg_none_of X G z_tuple
    · exact PySem.W.mg_none_of X G z_dict
    · exact PySem.W.mg_none_of X G z_min
    · exact PySem.W.mg_none_of X G z_max
    · exact ⟨_, PySem.W.mg_of X G x_WALL, ⟨_, rfl⟩⟩
    · exact ⟨_, PySem.W.mg_of X G x_CHARGER, ⟨_, rfl⟩⟩
    · exact ⟨_, PySem.W.mg_of X G x_ROUGH, ⟨_, rfl⟩⟩
    · exact ⟨_, PySem.W.mg_of X G x_LANE, ⟨_, rfl⟩⟩
    · exact ⟨_, PySem.W.mg_of X G x_SIGNS, ⟨_, rfl⟩⟩
    · exact ⟨_, PySem.W.mg_of X G x_MOST_ROWS, ⟨_, rfl⟩⟩
    · exact ⟨_, PySem.W.mg_of X G x_MOST_SIGNS, ⟨_, rfl⟩⟩
    · exact ⟨_, PySem.W.mg_of X G x_KINDS, rfl⟩
    · exact ⟨_, PySem.W.mg_of X G x_MOST_FULL, ⟨_, rfl⟩⟩
    · exact ⟨_, PySem.W.mg_of X G x_COMMON_SIGNS, rfl⟩
    · exact ⟨a_q29, i_q29, k_q29⟩
    · exact ⟨a_q17, i_q17, k_q17⟩
    · exact ⟨a_q23, i_q23, k_q23⟩
    · exact ⟨a_q24, i_q24, k_q24⟩
    · exact ⟨a_q5, i_q5, k_q5⟩
    · exact ⟨a_q4, i_q4, k_q4⟩
    · exact ⟨a_q1, i_q1, k_q1⟩
    · exact ⟨a_q25, i_q25, k_q25⟩
    · exact PySem.W.mg_of X G a_q18
    · exact k_q18
    · exact PySem.W.mg_of X G a_q6
    · exact k_q6
    · exact PySem.W.mg_of X G a_q30
    · exact k_q30
    · exact PySem.W.mg_of X G a_q31
    · exact k_q31
    · exact PySem.W.mg_of X G a_q32
    · exact k_q32
    · exact PySem.W.mg_of X G a_q33
    · exact k_q33
    · exact PySem.W.mg_of X G a_q26
    · exact k_q26
    · exact PySem.W.mg_of X G a_q14
    · exact k_q14
    · exact ⟨a_q27, i_q27, k_q27⟩
    · exact ⟨a_q20, i_q20, k_q20⟩
    · exact ⟨a_q9, i_q9, k_q9⟩
    · exact ⟨a_q28, i_q28, k_q28⟩
    · exact ⟨a_q15, i_q15, k_q15⟩
    · exact ⟨a_q7, i_q7, k_q7⟩
    · exact ⟨a_q10, i_q10, k_q10⟩
    · exact ⟨a_q2, i_q2, k_q2⟩
    · exact ⟨a_q12, i_q12, k_q12⟩
    · exact ⟨a_q8, i_q8, k_q8⟩
    · exact ⟨a_q0, i_q0, k_q0⟩
    · exact ⟨a_q3, i_q3, k_q3⟩
    · exact ⟨a_q13, i_q13, k_q13⟩
    · exact ⟨a_q16, i_q16, k_q16⟩
    · exact PySem.W.mg_of X G a_q21
    · exact k_q21
    · exact PySem.W.mg_of X G a_Lat
    · exact k_Lat
    · exact PySem.W.mg_of X G a_q36
    · exact k_q36
    · exact PySem.W.mg_of X G a_q37
    · exact k_q37
    · exact PySem.W.mg_of X G a_q38
    · exact k_q38
    · exact PySem.W.mg_of X G a_Lsign
    · exact k_Lsign
    · exact PySem.W.mg_of X G a_q39
    · exact k_q39
    · exact PySem.W.mg_of X G a_q34
    · exact k_q34
    · exact PySem.W.mg_of X G a_q35
    · exact k_q35
    · exact PySem.W.mg_of X G a_Lcost
    · exact k_Lcost
    · exact PySem.W.mg_of X G a_q40
    · exact k_q40
    · exact PySem.W.mg_of X G a_q41
    · exact k_q41
    · exact PySem.W.mg_of X G a_Lsame
    · exact k_Lsame
    · exact PySem.W.mg_of X G a_law
    · exact k_law
    · exact PySem.W.mg_of X G aC_Floor
    · exact ⟨pg_Floor, hd_Floor, po_Floor, sa_Floor⟩
    · exact n_Floor_wide
    · exact n_Floor_high
    · exact n_Floor_lines
    · exact n_Floor_signs
    · exact ⟨mk_Floor, a_q19, i_q19, kc_Floor⟩
    · exact PySem.W.mg_of X G aC_Cart
    · exact ⟨pg_Cart, hd_Cart, po_Cart, sa_Cart⟩
    · exact n_Cart_full
    · exact ⟨mk_Cart, as_Cart_init, i_q11, kc_Cart⟩
    · exact PySem.W.mg_of X G aC_Crawler
    · exact ⟨pg_Crawler, hd_Crawler, po_Crawler, sa_Crawler⟩
    · exact n_Crawler_full
    · exact ⟨mk_Crawler, as_Crawler_init, i_q11, kc_Crawler⟩
    · exact PySem.W.mg_of X G aC_Runner
    · exact ⟨pg_Runner, hd_Runner, po_Runner, sa_Runner⟩
    · exact n_Runner_full
    · exact ⟨mk_Runner, as_Runner_init, i_q11, kc_Runner⟩
    · exact PySem.W.mg_of X G aC_Carrier
    · exact ⟨pg_Carrier, hd_Carrier, po_Carrier, sa_Carrier⟩
    · exact n_Carrier_full
    · exact ⟨mk_Carrier, a_q11, i_q11, kc_Carrier⟩
    · exact PySem.W.mg_of X G aC_Heap
    · exact ⟨pg_Heap, hd_Heap, po_Heap, sa_Heap⟩
    · exact n_Heap_things
    · exact ⟨mk_Heap, a_q22, i_q22, kc_Heap⟩
    · exact ⟨as_Cart_may_stand, i_q2, k_q2⟩
    · exact ⟨as_Cart_fare, i_q12, k_q12⟩
    · exact ⟨as_Cart_steps, i_q8, k_q8⟩
    · exact ⟨as_Cart_fare_if_standing, i_q0, k_q0⟩
    · exact ⟨as_Crawler_steps, i_q8, k_q8⟩
    · exact ⟨as_q13_if_standing, i_q0, k_q0⟩
    · exact ⟨as_Runner_may_stand, i_q2, k_q2⟩
    · exact ⟨as_Runner_steps, i_q8, k_q8⟩
    · exact ⟨as_q16_if_standing, i_q0, k_q0⟩
    · exact cgx
    · exact ctx
    · exact ca_Cart
    · exact cm_Cart
    · exact is_Cart_Carrier
    · exact is_Cart_Cart
    · exact is_Cart_Crawler
    · exact is_Cart_Runner
    · exact ca_Crawler
    · exact cm_Crawler
    · exact is_Crawler_Carrier
    · exact is_Crawler_Cart
    · exact is_Crawler_Crawler
    · exact is_Crawler_Runner
    · exact ca_Runner
    · exact cm_Runner
    · exact is_Runner_Carrier
    · exact is_Runner_Cart
    · exact is_Runner_Crawler
    · exact is_Runner_Runner
    · exact ca_Carrier
    · exact cm_Carrier
    · exact is_Carrier_Carrier
    · exact is_Carrier_Cart
    · exact is_Carrier_Crawler
    · exact is_Carrier_Runner
    · exact fun H => .inr ⟨_, _, _, lk_KINDS, rfl, rfl, (show (3 : Nat) ≤ sizeLine by rw [sizeLine_eq]; decide), .cons ⟨_, rfl⟩ (.cons ⟨_, rfl⟩ (.cons ⟨_, rfl⟩  .nil))⟩
    · exact fun H => .inr ⟨_, _, _, lk_COMMON_SIGNS, rfl, rfl, (show (3 : Nat) ≤ sizeLine by rw [sizeLine_eq]; decide), .cons ⟨_, rfl⟩ (.cons ⟨_, rfl⟩ (.cons ⟨_, rfl⟩  .nil))⟩
  have F_q22 := fun_mk (st := s_q22) l_q22 c_q22 k_q22
  have B_q22 := F_q22.binds (ps := ["self"]) fun _ _ _ _ _ _ us hl => match us, hl with | [_], _ => rfl
  have F_q29 := fun_mk (st := s_q29) l_q29 c_q29 k_q29
  have B_q29 := F_q29.binds (ps := ["self", "thing"]) fun _ _ _ _ _ _ us hl => match us, hl with | [_, _], _ => rfl
  have F_q17 := fun_mk (st := s_q17) l_q17 c_q17 k_q17
  have B_q17 := F_q17.binds (ps := ["self"]) fun _ _ _ _ _ _ us hl => match us, hl with | [_], _ => rfl
  have F_q23 := fun_mk (st := s_q23) l_q23 c_q23 k_q23
  have B_q23 := F_q23.binds (ps := ["self"]) fun _ _ _ _ _ _ us hl => match us, hl with | [_], _ => rfl
  have F_q24 := fun_mk (st := s_q24) l_q24 c_q24 k_q24
  have B_q24 := F_q24.binds (ps := ["self"]) fun _ _ _ _ _ _ us hl => match us, hl with | [_], _ => rfl
  have F_q5 := fun_mk (st := s_q5) l_q5 c_q5 k_q5
  have B_q5 := F_q5.binds (ps := ["self"]) fun _ _ _ _ _ _ us hl => match us, hl with | [_], _ => rfl
  have F_q4 := fun_mk (st := s_q4) l_q4 c_q4 k_q4
  have B_q4 := F_q4.binds (ps := ["self"]) fun _ _ _ _ _ _ us hl => match us, hl with | [_], _ => rfl
  have F_q1 := fun_mk (st := s_q1) l_q1 c_q1 k_q1
  have B_q1 := F_q1.binds (ps := ["self", "place"]) fun _ _ _ _ _ _ us hl => match us, hl with | [_, _], _ => rfl
  have F_q25 := fun_mk (st := s_q25) l_q25 c_q25 k_q25
  have B_q25 := F_q25.binds (ps := ["self", "place", "other"]) fun _ _ _ _ _ _ us hl => match us, hl with | [_, _, _], _ => rfl
  have F_q18 := fun_mk (st := s_q18) l_q18 c_q18 k_q18
  have B_q18 := F_q18.binds (ps := ["floor", "carrier"]) fun _ _ _ _ _ _ us hl => match us, hl with | [_, _], _ => rfl
  have F_q6 := fun_mk (st := s_q6) l_q6 c_q6 k_q6
  have B_q6 := F_q6.binds (ps := ["floor", "carrier"]) fun _ _ _ _ _ _ us hl => match us, hl with | [_, _], _ => rfl
  have F_q30 := fun_mk (st := s_q30) l_q30 c_q30 k_q30
  have B_q30 := F_q30.binds (ps := ["floor", "carrier", "goals"]) fun _ _ _ _ _ _ us hl => match us, hl with | [_, _, _], _ => rfl
  have F_q31 := fun_mk (st := s_q31) l_q31 c_q31 k_q31
  have B_q31 := F_q31.binds (ps := ["floor", "carrier"]) fun _ _ _ _ _ _ us hl => match us, hl with | [_, _], _ => rfl
  have F_q32 := fun_mk (st := s_q32) l_q32 c_q32 k_q32
  have B_q32 := F_q32.binds (ps := ["thing"]) fun _ _ _ _ _ _ us hl => match us, hl with | [_], _ => rfl
  have F_q33 := fun_mk (st := s_q33) l_q33 c_q33 k_q33
  have B_q33 := F_q33.binds (ps := ["thing", "least", "most"]) fun _ _ _ _ _ _ us hl => match us, hl with | [_, _, _], _ => rfl
  have F_q26 := fun_mk (st := s_q26) l_q26 c_q26 k_q26
  have B_q26 := F_q26.binds (ps := ["line", "wide"]) fun _ _ _ _ _ _ us hl => match us, hl with | [_, _], _ => rfl
  have F_q14 := fun_mk (st := s_q14) l_q14 c_q14 k_q14
  have B_q14 := F_q14.binds (ps := ["lines"]) fun _ _ _ _ _ _ us hl => match us, hl with | [_], _ => rfl
  have F_q19 := fun_mk (st := s_q19) l_q19 c_q19 k_q19
  have B_q19 := F_q19.binds (ps := ["self", "lines"]) fun _ _ _ _ _ _ us hl => match us, hl with | [_, _], _ => rfl
  have F_q27 := fun_mk (st := s_q27) l_q27 c_q27 k_q27
  have B_q27 := F_q27.binds (ps := ["self", "cell"]) fun _ _ _ _ _ _ us hl => match us, hl with | [_, _], _ => rfl
  have F_q20 := fun_mk (st := s_q20) l_q20 c_q20 k_q20
  have B_q20 := F_q20.binds (ps := ["self", "cell"]) fun _ _ _ _ _ _ us hl => match us, hl with | [_, _], _ => rfl
  have F_q9 := fun_mk (st := s_q9) l_q9 c_q9 k_q9
  have B_q9 := F_q9.binds (ps := ["self", "cell"]) fun _ _ _ _ _ _ us hl => match us, hl with | [_, _], _ => rfl
  have F_q28 := fun_mk (st := s_q28) l_q28 c_q28 k_q28
  have B_q28 := F_q28.binds (ps := ["self", "cell"]) fun _ _ _ _ _ _ us hl => match us, hl with | [_, _], _ => rfl
  have F_q15 := fun_mk (st := s_q15) l_q15 c_q15 k_q15
  have B_q15 := F_q15.binds (ps := ["self"]) fun _ _ _ _ _ _ us hl => match us, hl with | [_], _ => rfl
  have F_q7 := fun_mk (st := s_q7) l_q7 c_q7 k_q7
  have B_q7 := F_q7.binds (ps := ["self"]) fun _ _ _ _ _ _ us hl => match us, hl with | [_], _ => rfl
  have F_q10 := fun_mk (st := s_q10) l_q10 c_q10 k_q10
  have B_q10 := F_q10.binds (ps := ["self", "cell"]) fun _ _ _ _ _ _ us hl => match us, hl with | [_, _], _ => rfl
  have F_q11 := fun_mk (st := s_q11) l_q11 c_q11 k_q11
  have B_q11 := F_q11.binds (ps := ["self", "full"]) fun _ _ _ _ _ _ us hl => match us, hl with | [_, _], _ => rfl
  have F_q2 := fun_mk (st := s_q2) l_q2 c_q2 k_q2
  have B_q2 := F_q2.binds (ps := ["self", "sign"]) fun _ _ _ _ _ _ us hl => match us, hl with | [_, _], _ => rfl
  have F_q12 := fun_mk (st := s_q12) l_q12 c_q12 k_q12
  have B_q12 := F_q12.binds (ps := ["self", "floor", "cell", "other"]) fun _ _ _ _ _ _ us hl => match us, hl with | [_, _, _, _], _ => rfl
  have F_q8 := fun_mk (st := s_q8) l_q8 c_q8 k_q8
  have B_q8 := F_q8.binds (ps := ["self", "floor", "cell"]) fun _ _ _ _ _ _ us hl => match us, hl with | [_, _, _], _ => rfl
  have F_q0 := fun_mk (st := s_q0) l_q0 c_q0 k_q0
  have B_q0 := F_q0.binds (ps := ["self", "floor", "cell", "other"]) fun _ _ _ _ _ _ us hl => match us, hl with | [_, _, _, _], _ => rfl
  have F_q3 := fun_mk (st := s_q3) l_q3 c_q3 k_q3
  have B_q3 := F_q3.binds (ps := ["self", "sign"]) fun _ _ _ _ _ _ us hl => match us, hl with | [_, _], _ => rfl
  have F_q13 := fun_mk (st := s_q13) l_q13 c_q13 k_q13
  have B_q13 := F_q13.binds (ps := ["self", "floor", "cell", "other"]) fun _ _ _ _ _ _ us hl => match us, hl with | [_, _, _, _], _ => rfl
  have F_q16 := fun_mk (st := s_q16) l_q16 c_q16 k_q16
  have B_q16 := F_q16.binds (ps := ["self", "floor", "cell", "other"]) fun _ _ _ _ _ _ us hl => match us, hl with | [_, _, _, _], _ => rfl
  have F_q21 := z712 (st := s_q21) l_q21 c_q21 k_q21 df_q21
  have B_q21 := F_q21.binds (ps := ["kind", "full"]) (ds := []) fun _ _ _ _ _ _ _ us hl => match us, hl with | [_, _], _ => ⟨_, rfl, rfl⟩
  have BD_q21 := F_q21.binds (ps := ["kind", "full"]) (ds := [.int 20 td_carrier_of0]) fun _ _ _ _ _ _ _ us hl => match us, hl with | [], hl => by simp at hl | [_], _ => ⟨_, rfl, rfl⟩ | (_ :: _ :: _), hl => by simp at hl
  have F_Lat := fun_mk (st := s_Lat) l_Lat c_Lat k_Lat
  have B_Lat := F_Lat.binds (ps := ["_law_script", "_law_k"]) fun _ _ _ _ _ _ us hl => match us, hl with | [_, _], _ => rfl
  have F_q36 := fun_mk (st := s_q36) l_q36 c_q36 k_q36
  have B_q36 := F_q36.binds (ps := ["_law_cell", "_law_k"]) fun _ _ _ _ _ _ us hl => match us, hl with | [_, _], _ => rfl
  have F_q37 := fun_mk (st := s_q37) l_q37 c_q37 k_q37
  have B_q37 := F_q37.binds (ps := ["_law_thing"]) fun _ _ _ _ _ _ us hl => match us, hl with | [_], _ => rfl
  have F_q38 := fun_mk (st := s_q38) l_q38 c_q38 k_q38
  have B_q38 := F_q38.binds (ps := ["_law_script", "_law_k", "_law_most"]) fun _ _ _ _ _ _ us hl => match us, hl with | [_, _, _], _ => rfl
  have F_Lsign := fun_mk (st := z141) l_Lsign c_Lsign k_Lsign
  have B_Lsign := F_Lsign.binds (ps := ["_law_lines_here", "_law_cell"]) fun _ _ _ _ _ _ us hl => match us, hl with | [_, _], _ => rfl
  have F_q39 := fun_mk (st := s_q39) l_q39 c_q39 k_q39
  have B_q39 := F_q39.binds (ps := ["_law_lines_here"]) fun _ _ _ _ _ _ us hl => match us, hl with | [_], _ => rfl
  have F_q34 := fun_mk (st := s_q34) l_q34 c_q34 k_q34
  have B_q34 := F_q34.binds (ps := ["_law_lines_here", "_law_cell"]) fun _ _ _ _ _ _ us hl => match us, hl with | [_, _], _ => rfl
  have F_q35 := fun_mk (st := s_q35) l_q35 c_q35 k_q35
  have B_q35 := F_q35.binds (ps := ["_law_kind", "_law_sign_here"]) fun _ _ _ _ _ _ us hl => match us, hl with | [_, _], _ => rfl
  have F_Lcost := fun_mk (st := z49) l_Lcost c_Lcost k_Lcost
  have B_Lcost := F_Lcost.binds (ps := ["_law_kind", "_law_lines_here", "_law_cell", "_law_other"]) fun _ _ _ _ _ _ us hl => match us, hl with | [_, _, _, _], _ => rfl
  have F_q40 := fun_mk (st := s_q40) l_q40 c_q40 k_q40
  have B_q40 := F_q40.binds (ps := ["_law_kind", "_law_lines_here", "_law_cell"]) fun _ _ _ _ _ _ us hl => match us, hl with | [_, _, _], _ => rfl
  have F_q41 := fun_mk (st := s_q41) l_q41 c_q41 k_q41
  have B_q41 := F_q41.binds (ps := ["_law_kind", "_law_lines_here", "_law_goals"]) fun _ _ _ _ _ _ us hl => match us, hl with | [_, _, _], _ => rfl
  have F_Lsame := fun_mk (st := z93) l_Lsame c_Lsame k_Lsame
  have B_Lsame := F_Lsame.binds (ps := ["_law_found", "_law_due"]) fun _ _ _ _ _ _ us hl => match us, hl with | [_, _], _ => rfl
  have F_law := fun_mk (st := s_law) l_law c_law k_law
  refine ⟨PySem.W.fnOf "law" "law" (defArgs s_law) (defBody s_law) (defScope s_law) .none kV_law dc_law pm_law an_law cd_law ct_law, ?bd, fun base _ _ => ?fn⟩
  case fn =>
    have G_q32 : FnOk l.prog w K mg base CX0 1 f_q32 _ ["thing"] (z339 K) := ok_q32 (ad := A0) F_q32 T
    have G_q33 : FnOk l.prog w K mg base CX0 2 f_q33 _ ["thing", "least", "most"] (z401 K) := ok_q33 (ad := A0) F_q33 T B_q32 G_q32
    have G_q26 : FnOk l.prog w K mg base CX0 1 f_q26 _ ["line", "wide"] (spRow) := ok_q26 (ad := A0) F_q26 T
    have G_q14 : FnOk l.prog w K mg base CX0 3 f_q14 _ ["lines"] (z524) := ok_q14 (ad := A0) F_q14 T B_q33 G_q33 B_q26 G_q26
    have G_q19 : FnOk l.prog w K mg base CX0 4 f_q19 _ ["self", "lines"] (spInit C_Floor) := ok_q19 (ad := A0) F_q19 T B_q14 G_q14
    have G_q27 : FnOk l.prog w K mg base CX0 3 f_q27 _ ["self", "cell"] (spHas K C_Floor) := ok_q27 (ad := A0) F_q27 T B_q33 G_q33
    have G_q20 : FnOk l.prog w K mg base CX0 1 f_q20 _ ["self", "cell"] (spSign C_Floor) := ok_q20 (ad := A0) F_q20 T
    have G_q9 : FnOk l.prog w K mg base CX0 1 f_q9 _ ["self", "cell"] (spCol C_Floor) := ok_q9 (ad := A0) F_q9 T
    have G_q28 : FnOk l.prog w K mg base CX0 1 f_q28 _ ["self", "cell"] (z534 C_Floor) := ok_q28 (ad := A0) F_q28 T
    have G_q10 : FnOk l.prog w K mg base CX0 4 f_q10 _ ["self", "cell"] (z436 C_Floor) := ok_q10 (ad := A0) F_q10 T B_q9 G_q9 B_q27 G_q27
    have G_q15 : FnOk l.prog w K mg base CX0 4 f_q15 _ ["self"] (z447 C_Floor) := ok_q15 (ad := A0) F_q15 T B_q27 G_q27
    have G_q7 : FnOk l.prog w K mg base CX0 1 f_q7 _ ["self"] (z286 C_Floor) := ok_q7 (ad := A0) F_q7 T
    have G_q11 : FnOk l.prog w K mg base CX0 1 f_q11 _ ["self", "full"] (z463 A0) := ok_q11 (ad := A0) F_q11 T
    have G_q2 : FnOk l.prog w K mg base CX0 1 f_q2 _ ["self", "sign"] (spMay 0) := ok_q2 (ad := A0) F_q2 T
    have G_q3 : FnOk l.prog w K mg base CX0 1 f_q3 _ ["self", "sign"] (spMay 1) := ok_q3 (ad := A0) F_q3 T
    have G_q12 : FnOk l.prog w K mg base CX0 1 f_q12 _ ["self", "floor", "cell", "other"] (spFare C_Floor 0) := ok_q12 (ad := A0) F_q12 T
    have G_q13 : FnOk l.prog w K mg base CX0 2 f_q13 _ ["self", "floor", "cell", "other"] (spFare C_Floor 1) := ok_q13 (ad := A0) F_q13 T B_q20 G_q20
    have G_q16 : FnOk l.prog w K mg base CX0 2 f_q16 _ ["self", "floor", "cell", "other"] (spFare C_Floor 2) := ok_q16 (ad := A0) F_q16 T B_q28 G_q28 B_q20 G_q20
    have G_q0 : FnOk l.prog w K mg base CX0 3 f_q0 _ ["self", "floor", "cell", "other"] (z369 A0) := ok_q0 (ad := A0) F_q0 T B_q2 G_q2 B_q3 G_q3 B_q20 G_q20 B_q12 G_q12 B_q13 G_q13 B_q16 G_q16
    have G_q8 : FnOk l.prog w K mg base CX0 5 f_q8 _ ["self", "floor", "cell"] (z468 A0) := ok_q8 (ad := A0) F_q8 T B_q10 G_q10 B_q0 G_q0
    have G_q21 : FnOk l.prog w K mg base CX0 3 f_q21 _ ["kind", "full"] (spMake A0) := ok_q21 (ad := A0) F_q21 T B_q33 G_q33 B_q11 G_q11
    have G_Lat : FnOk l.prog w K mg base CX0 1 f_Lat _ ["_law_script", "_law_k"] (spAt K) := ok_Lat (ad := A0) F_Lat T
    have G_q36 : FnOk l.prog w K mg base CX0 1 f_q36 _ ["_law_cell", "_law_k"] (z595) := ok_q36 (ad := A0) F_q36 T
    have G_q37 : FnOk l.prog w K mg base CX0 1 f_q37 _ ["_law_thing"] (z339 K) := ok_q37 (ad := A0) F_q37 T
    have G_q38 : FnOk l.prog w K mg base CX0 2 f_q38 _ ["_law_script", "_law_k", "_law_most"] (z612 K) := ok_q38 (ad := A0) F_q38 T B_Lat G_Lat B_q36 G_q36
    have G_Lsign : FnOk l.prog w K mg base CX0 1 f_Lsign _ ["_law_lines_here", "_law_cell"] (z340) := z687 (ad := A0) F_Lsign T
    have G_q39 : FnOk l.prog w K mg base CX0 2 f_q39 _ ["_law_lines_here"] (z310) := ok_q39 (ad := A0) F_q39 T B_Lsign G_Lsign
    have G_q34 : FnOk l.prog w K mg base CX0 3 f_q34 _ ["_law_lines_here", "_law_cell"] (z360) := ok_q34 (ad := A0) F_q34 T B_q39 G_q39
    have G_q35 : FnOk l.prog w K mg base CX0 1 f_q35 _ ["_law_kind", "_law_sign_here"] (z293) := ok_q35 (ad := A0) F_q35 T
    have G_Lcost : FnOk l.prog w K mg base CX0 2 f_Lcost _ ["_law_kind", "_law_lines_here", "_law_cell", "_law_other"] (z538) := z674 (ad := A0) F_Lcost T B_q35 G_q35 B_Lsign G_Lsign
    have G_q40 : FnOk l.prog w K mg base CX0 4 f_q40 _ ["_law_kind", "_law_lines_here", "_law_cell"] (z429) := ok_q40 (ad := A0) F_q40 T B_q34 G_q34 B_Lcost G_Lcost
    have G_q22 : FnOk l.prog w K mg base CX0 1 f_q22 _ ["self"] (z536 A0) := ok_q22 (ad := A0) F_q22 T
    have G_q25 : FnOk l.prog w K mg base CX0 1 f_q25 _ ["self", "place", "other"] (spSwap A0) := ok_q25 (ad := A0) F_q25 T
    have G_q1 : FnOk l.prog w K mg base CX0 1 f_q1 _ ["self", "place"] (z434 A0) := ok_q1 (ad := A0) F_q1 T
    have G_q5 : FnOk l.prog w K mg base CX0 2 f_q5 _ ["self"] (spLift A0) := ok_q5 (ad := A0) F_q5 T B_q25 G_q25
    have G_q4 : FnOk l.prog w K mg base CX0 2 f_q4 _ ["self"] (spSink A0) := ok_q4 (ad := A0) F_q4 T B_q25 G_q25 B_q1 G_q1
    have G_q17 : FnOk l.prog w K mg base CX0 1 f_q17 _ ["self"] (z555 A0) := ok_q17 (ad := A0) F_q17 T
    have G_q29 : FnOk l.prog w K mg base CX0 3 f_q29 _ ["self", "thing"] (spHPut A0) := ok_q29 (ad := A0) F_q29 T B_q5 G_q5
    have G_q23 : FnOk l.prog w K mg base CX0 3 f_q23 _ ["self"] (spTake A0) := ok_q23 (ad := A0) F_q23 T B_q17 G_q17 B_q4 G_q4
    have G_q24 : FnOk l.prog w K mg base CX0 1 f_q24 _ ["self"] (spSize A0) := ok_q24 (ad := A0) F_q24 T
    have G_q6 : FnOk l.prog w K mg base CX0 5 f_q6 _ ["floor", "carrier"] (z441 A0) := ok_q6 (ad := A0) F_q6 T B_q15 G_q15 B_q20 G_q20 B_q2 G_q2 B_q3 G_q3
    have G_q18 : FnOk l.prog w K mg base CX0 6 f_q18 _ ["floor", "carrier"] (spInto A0) := ok_q18 (ad := A0) F_q18 T B_q15 G_q15 B_q6 G_q6 B_q8 G_q8
    have G_q30 : FnOk l.prog w K mg base CX0 7 f_q30 _ ["floor", "carrier", "goals"] (z454 A0) := ok_q30 (ad := A0) F_q30 T B_q18 G_q18 B_q22 G_q22 B_q29 G_q29 B_q24 G_q24 B_q23 G_q23
    have G_q31 : FnOk l.prog w K mg base CX0 8 f_q31 _ ["floor", "carrier"] (z558 A0) := ok_q31 (ad := A0) F_q31 T B_q7 G_q7 B_q20 G_q20 B_q2 G_q2 B_q3 G_q3 B_q30 G_q30
    have G_q41 : FnOk l.prog w K mg base CX0 5 f_q41 _ ["_law_kind", "_law_lines_here", "_law_goals"] (z432) := ok_q41 (ad := A0) F_q41 T B_q39 G_q39 B_q35 G_q35 B_Lsign G_Lsign B_q40 G_q40
    have G_Lsame : FnOk l.prog w K mg base CX0 2 f_Lsame _ ["_law_found", "_law_due"] (z527) := z679 (ad := A0) F_Lsame T B_q37 G_q37
    exact ok_law F_law T B_q38 G_q38 B_Lat G_Lat B_q19 G_q19 B_q21 BD_q21 G_q21 B_q39 G_q39 B_q35 G_q35 B_Lsign G_Lsign B_q41 G_q41 B_Lsame G_Lsame B_q31 G_q31 B_q30 G_q30
  case bd => exact fun s v => .of_eq rfl
theorem walk {l : PySem.W.OpenLaw} {q : Program} {loose : List Str} {XP : (Str → Option Value) → Heap → Prop} {YP : World → Heap → Prop} {d : DefRec} {K : Params → PySem.W.Frag} (hn : l.most = some 63) (hdf : d.params.defaults = [])
    (hY : ∀ (w : World) (h : Heap), YP w h → (K w.params).In h)
    (F : ∀ (w : World) (mg : Str → Option Value) (fa : Addr) (h : Heap), (K w.params).In h → h.Ns mainGlobals mg → mg d.name = some (.ref fa) →
      ∃ fd : FuncData, (∀ (s : Shared) (u : Value), BindsTo s fd ⟨[u], []⟩ [("_law_script", u)]) ∧ ∀ base : Heap, (K w.params).In base → base.Ns mainGlobals mg → FnOk l.prog w (K w.params) mg base CX0 9 fa fd ["_law_script"] (spLaw (K w.params))) :
    PySem.W.WalkO q loose XP YP l.row.toRowW d [] (fun f vs => PySem.call f vs) :=
  L2.walk_of (n := 63) (k := 9) (x := "_law_script") (CX := fun _ => CX0) (sp := fun w => spLaw (K w.params)) hn (by decide) hdf ⟨rfl, by decide, by decide⟩ hY F (fun _ _ a ns hl _ hS => ⟨a, ns, rfl, hS, hl, fun _ => rfl⟩) fun _ _ _ _ _ z => z
end Pf
open PySem PySem.W PyProof.Rows
set_option maxRecDepth 100000 in
set_option maxHeartbeats 0 in
theorem PySem.Challenge.cw_floorways_k08_costs_holds : PySem.Challenge.rw_floorways_k08_costs.Holds := by
  w_on; o_law; k_head; (case hw => w_witness2)
  k_fill
  refine Pf.walk (l := PySem.Challenge.rw_floorways_k08_costs) rfl rfl (fun w h Y => PySem.W.kIn_of Y) ?F
  case F =>
    intro w mg fa h KX G hmg
    refine' Pf.all_mk KX G hmg ?aC_Floor ?pg_Floor ?hd_Floor ?po_Floor ?sa_Floor ?kc_Floor ?mk_Floor ?n_Floor_wide ?n_Floor_high ?n_Floor_lines ?n_Floor_signs ?aC_Cart ?pg_Cart ?hd_Cart ?po_Cart ?sa_Cart ?kc_Cart ?mk_Cart ?n_Cart_full ?aC_Crawler ?pg_Crawler ?hd_Crawler ?po_Crawler ?sa_Crawler ?kc_Crawler ?mk_Crawler ?n_Crawler_full ?aC_Runner ?pg_Runner ?hd_Runner ?po_Runner ?sa_Runner ?kc_Runner ?mk_Runner ?n_Runner_full ?aC_Carrier ?pg_Carrier ?hd_Carrier ?po_Carrier ?sa_Carrier ?kc_Carrier ?mk_Carrier ?n_Carrier_full ?aC_Heap ?pg_Heap ?hd_Heap ?po_Heap ?sa_Heap ?kc_Heap ?mk_Heap ?n_Heap_things ?x_KINDS ?lk_KINDS ?x_COMMON_SIGNS ?lk_COMMON_SIGNS ?cgx ?ctx ?ca_Cart ?cm_Cart ?is_Cart_Carrier ?is_Cart_Cart ?is_Cart_Crawler ?is_Cart_Runner ?ca_Crawler ?cm_Crawler ?is_Crawler_Carrier ?is_Crawler_Cart ?is_Crawler_Crawler ?is_Crawler_Runner ?ca_Runner ?cm_Runner ?is_Runner_Carrier ?is_Runner_Cart ?is_Runner_Crawler ?is_Runner_Runner ?ca_Carrier ?cm_Carrier ?is_Carrier_Carrier ?is_Carrier_Cart ?is_Carrier_Crawler ?is_Carrier_Runner ?a_q22 ?i_q22 ?l_q22 ?c_q22 ?k_q22 ?a_q29 ?i_q29 ?l_q29 ?c_q29 ?k_q29 ?a_q17 ?i_q17 ?l_q17 ?c_q17 ?k_q17 ?a_q23 ?i_q23 ?l_q23 ?c_q23 ?k_q23 ?a_q24 ?i_q24 ?l_q24 ?c_q24 ?k_q24 ?a_q5 ?i_q5 ?l_q5 ?c_q5 ?k_q5 ?a_q4 ?i_q4 ?l_q4 ?c_q4 ?k_q4 ?a_q1 ?i_q1 ?l_q1 ?c_q1 ?k_q1 ?a_q25 ?i_q25 ?l_q25 ?c_q25 ?k_q25 ?a_q18 ?l_q18 ?c_q18 ?k_q18 ?a_q6 ?l_q6 ?c_q6 ?k_q6 ?a_q30 ?l_q30 ?c_q30 ?k_q30 ?a_q31 ?l_q31 ?c_q31 ?k_q31 ?a_q32 ?l_q32 ?c_q32 ?k_q32 ?a_q33 ?l_q33 ?c_q33 ?k_q33 ?a_q26 ?l_q26 ?c_q26 ?k_q26 ?a_q14 ?l_q14 ?c_q14 ?k_q14 ?a_q19 ?i_q19 ?l_q19 ?c_q19 ?k_q19 ?a_q27 ?i_q27 ?l_q27 ?c_q27 ?k_q27 ?a_q20 ?i_q20 ?l_q20 ?c_q20 ?k_q20 ?a_q9 ?i_q9 ?l_q9 ?c_q9 ?k_q9 ?a_q28 ?i_q28 ?l_q28 ?c_q28 ?k_q28 ?a_q15 ?i_q15 ?l_q15 ?c_q15 ?k_q15 ?a_q7 ?i_q7 ?l_q7 ?c_q7 ?k_q7 ?a_q10 ?i_q10 ?l_q10 ?c_q10 ?k_q10 ?a_q11 ?i_q11 ?l_q11 ?c_q11 ?k_q11 ?a_q2 ?i_q2 ?l_q2 ?c_q2 ?k_q2 ?a_q12 ?i_q12 ?l_q12 ?c_q12 ?k_q12 ?a_q8 ?i_q8 ?l_q8 ?c_q8 ?k_q8 ?a_q0 ?i_q0 ?l_q0 ?c_q0 ?k_q0 ?a_q3 ?i_q3 ?l_q3 ?c_q3 ?k_q3 ?a_q13 ?i_q13 ?l_q13 ?c_q13 ?k_q13 ?a_q16 ?i_q16 ?l_q16 ?c_q16 ?k_q16 ?a_q21 ?l_q21 ?c_q21 ?k_q21 ?df_q21 ?a_Lat ?l_Lat ?c_Lat ?k_Lat ?a_q36 ?l_q36 ?c_q36 ?k_q36 ?a_q37 ?l_q37 ?c_q37 ?k_q37 ?a_q38 ?l_q38 ?c_q38 ?k_q38 ?a_Lsign ?l_Lsign ?c_Lsign ?k_Lsign ?a_q39 ?l_q39 ?c_q39 ?k_q39 ?a_q34 ?l_q34 ?c_q34 ?k_q34 ?a_q35 ?l_q35 ?c_q35 ?k_q35 ?a_Lcost ?l_Lcost ?c_Lcost ?k_Lcost ?a_q40 ?l_q40 ?c_q40 ?k_q40 ?a_q41 ?l_q41 ?c_q41 ?k_q41 ?a_Lsame ?l_Lsame ?c_Lsame ?k_Lsame ?a_law ?l_law ?c_law ?k_law ?as_Cart_may_stand ?as_Cart_fare ?as_Cart_steps ?as_Cart_fare_if_standing ?as_Crawler_steps ?as_q13_if_standing ?as_Runner_may_stand ?as_Runner_steps ?as_q16_if_standing ?as_Cart_init ?as_Crawler_init ?as_Runner_init ?z_len ?z_range ?z_isinstance ?z_all ?z_int ?z_bool ?z_str ?z_list ?z_tuple ?z_dict ?z_min ?z_max ?x_WALL ?x_CHARGER ?x_SIGNS ?x_MOST_ROWS ?x_MOST_SIGNS ?x_MOST_FULL ?x_ROUGH ?x_LANE
    (case aC_Floor => k_is)
    (case pg_Floor => k_is)
    (case hd_Floor => k_is)
    (case po_Floor => k_is)
    (case sa_Floor => k_is)
    (case kc_Floor => k_is)
    (case mk_Floor => k_is)
    (case n_Floor_wide => k_is)
    (case n_Floor_high => k_is)
    (case n_Floor_lines => k_is)
    (case n_Floor_signs => k_is)
    (case aC_Cart => k_is)
    (case pg_Cart => k_is)
    (case hd_Cart => k_is)
    (case po_Cart => k_is)
    (case sa_Cart => k_is)
    (case kc_Cart => k_is)
    (case mk_Cart => k_is)
    (case n_Cart_full => k_is)
    (case aC_Crawler => k_is)
    (case pg_Crawler => k_is)
    (case hd_Crawler => k_is)
    (case po_Crawler => k_is)
    (case sa_Crawler => k_is)
    (case kc_Crawler => k_is)
    (case mk_Crawler => k_is)
    (case n_Crawler_full => k_is)
    (case aC_Runner => k_is)
    (case pg_Runner => k_is)
    (case hd_Runner => k_is)
    (case po_Runner => k_is)
    (case sa_Runner => k_is)
    (case kc_Runner => k_is)
    (case mk_Runner => k_is)
    (case n_Runner_full => k_is)
    (case aC_Carrier => k_is)
    (case pg_Carrier => k_is)
    (case hd_Carrier => k_is)
    (case po_Carrier => k_is)
    (case sa_Carrier => k_is)
    (case kc_Carrier => k_is)
    (case mk_Carrier => k_is)
    (case n_Carrier_full => k_is)
    (case aC_Heap => k_is)
    (case pg_Heap => k_is)
    (case hd_Heap => k_is)
    (case po_Heap => k_is)
    (case sa_Heap => k_is)
    (case kc_Heap => k_is)
    (case mk_Heap => k_is)
    (case n_Heap_things => k_is)
    (case x_KINDS => k_is)
    (case lk_KINDS => k_is)
    (case x_COMMON_SIGNS => k_is)
    (case lk_COMMON_SIGNS => k_is)
    (case cgx => k_is)
    (case ctx => k_is)
    (case ca_Cart => k_is)
    (case cm_Cart => k_is)
    (case is_Cart_Carrier => first | k_is | kit_is | kernel_rfl)
    (case is_Cart_Cart => first | k_is | kit_is | kernel_rfl)
    (case is_Cart_Crawler => first | k_is | kit_is | kernel_rfl)
    (case is_Cart_Runner => first | k_is | kit_is | kernel_rfl)
    (case ca_Crawler => k_is)
    (case cm_Crawler => k_is)
    (case is_Crawler_Carrier => first | k_is | kit_is | kernel_rfl)
    (case is_Crawler_Cart => first | k_is | kit_is | kernel_rfl)
    (case is_Crawler_Crawler => first | k_is | kit_is | kernel_rfl)
    (case is_Crawler_Runner => first | k_is | kit_is | kernel_rfl)
    (case ca_Runner => k_is)
    (case cm_Runner => k_is)
    (case is_Runner_Carrier => first | k_is | kit_is | kernel_rfl)
    (case is_Runner_Cart => first | k_is | kit_is | kernel_rfl)
    (case is_Runner_Crawler => first | k_is | kit_is | kernel_rfl)
    (case is_Runner_Runner => first | k_is | kit_is | kernel_rfl)
    (case ca_Carrier => k_is)
    (case cm_Carrier => k_is)
    (case is_Carrier_Carrier => first | k_is | kit_is | kernel_rfl)
    (case is_Carrier_Cart => first | k_is | kit_is | kernel_rfl)
    (case is_Carrier_Crawler => first | k_is | kit_is | kernel_rfl)
    (case is_Carrier_Runner => first | k_is | kit_is | kernel_rfl)
    (case a_q22 => k_is)
    (case i_q22 => k_is)
    (case l_q22 => k_is)
    (case c_q22 => k_is)
    (case k_q22 => k_is)
    (case a_q29 => k_is)
    (case i_q29 => k_is)
    (case l_q29 => k_is)
    (case c_q29 => k_is)
    (case k_q29 => k_is)
    (case a_q17 => k_is)
    (case i_q17 => k_is)
    (case l_q17 => k_is)
    (case c_q17 => k_is)
    (case k_q17 => k_is)
    (case a_q23 => k_is)
    (case i_q23 => k_is)
    (case l_q23 => k_is)
    (case c_q23 => k_is)
    (case k_q23 => k_is)
    (case a_q24 => k_is)
    (case i_q24 => k_is)
    (case l_q24 => k_is)
    (case c_q24 => k_is)
    (case k_q24 => k_is)
    (case a_q5 => k_is)
    (case i_q5 => k_is)
    (case l_q5 => k_is)
    (case c_q5 => k_is)
    (case k_q5 => k_is)
    (case a_q4 => k_is)
    (case i_q4 => k_is)
    (case l_q4 => k_is)
    (case c_q4 => k_is)
    (case k_q4 => k_is)
    (case a_q1 => k_is)
    (case i_q1 => k_is)
    (case l_q1 => k_is)
    (case c_q1 => k_is)
    (case k_q1 => k_is)
    (case a_q25 => k_is)
    (case i_q25 => k_is)
    (case l_q25 => k_is)
    (case c_q25 => k_is)
    (case k_q25 => k_is)
    (case a_q18 => k_is)
    (case l_q18 => k_is)
    (case c_q18 => k_is)
    (case k_q18 => k_is)
    (case a_q6 => k_is)
    (case l_q6 => k_is)
    (case c_q6 => k_is)
    (case k_q6 => k_is)
    (case a_q30 => k_is)
    (case l_q30 => k_is)
    (case c_q30 => k_is)
    (case k_q30 => k_is)
    (case a_q31 => k_is)
    (case l_q31 => k_is)
    (case c_q31 => k_is)
    (case k_q31 => k_is)
    (case a_q32 => k_is)
    (case l_q32 => k_is)
    (case c_q32 => k_is)
    (case k_q32 => k_is)
    (case a_q33 => k_is)
    (case l_q33 => k_is)
    (case c_q33 => k_is)
    (case k_q33 => k_is)
    (case a_q26 => k_is)
    (case l_q26 => k_is)
    (case c_q26 => k_is)
    (case k_q26 => k_is)
    (case a_q14 => k_is)
    (case l_q14 => k_is)
    (case c_q14 => k_is)
    (case k_q14 => k_is)
    (case a_q19 => k_is)
    (case i_q19 => k_is)
    (case l_q19 => k_is)
    (case c_q19 => k_is)
    (case k_q19 => k_is)
    (case a_q27 => k_is)
    (case i_q27 => k_is)
    (case l_q27 => k_is)
    (case c_q27 => k_is)
    (case k_q27 => k_is)
    (case a_q20 => k_is)
    (case i_q20 => k_is)
    (case l_q20 => k_is)
    (case c_q20 => k_is)
    (case k_q20 => k_is)
    (case a_q9 => k_is)
    (case i_q9 => k_is)
    (case l_q9 => k_is)
    (case c_q9 => k_is)
    (case k_q9 => k_is)
    (case a_q28 => k_is)
    (case i_q28 => k_is)
    (case l_q28 => k_is)
    (case c_q28 => k_is)
    (case k_q28 => k_is)
    (case a_q15 => k_is)
    (case i_q15 => k_is)
    (case l_q15 => k_is)
    (case c_q15 => k_is)
    (case k_q15 => k_is)
    (case a_q7 => k_is)
    (case i_q7 => k_is)
    (case l_q7 => k_is)
    (case c_q7 => k_is)
    (case k_q7 => k_is)
    (case a_q10 => k_is)
    (case i_q10 => k_is)
    (case l_q10 => k_is)
    (case c_q10 => k_is)
    (case k_q10 => k_is)
    (case a_q11 => k_is)
    (case i_q11 => k_is)
    (case l_q11 => k_is)
    (case c_q11 => k_is)
    (case k_q11 => k_is)
    (case a_q2 => k_is)
    (case i_q2 => k_is)
    (case l_q2 => k_is)
    (case c_q2 => k_is)
    (case k_q2 => k_is)
    (case a_q12 => k_is)
    (case i_q12 => k_is)
    (case l_q12 => k_is)
    (case c_q12 => k_is)
    (case k_q12 => k_is)
    (case a_q8 => k_is)
    (case i_q8 => k_is)
    (case l_q8 => k_is)
    (case c_q8 => k_is)
    (case k_q8 => k_is)
    (case a_q0 => k_is)
    (case i_q0 => k_is)
    (case l_q0 => k_is)
    (case c_q0 => k_is)
    (case k_q0 => k_is)
    (case a_q3 => k_is)
    (case i_q3 => k_is)
    (case l_q3 => k_is)
    (case c_q3 => k_is)
    (case k_q3 => k_is)
    (case a_q13 => k_is)
    (case i_q13 => k_is)
    (case l_q13 => k_is)
    (case c_q13 => k_is)
    (case k_q13 => k_is)
    (case a_q16 => k_is)
    (case i_q16 => k_is)
    (case l_q16 => k_is)
    (case c_q16 => k_is)
    (case k_q16 => k_is)
    (case a_q21 => k_is)
    (case l_q21 => k_is)
    (case c_q21 => k_is)
    (case k_q21 => k_is)
    (case df_q21 => k_is)
    (case a_Lat => k_is)
    (case l_Lat => k_is)
    (case c_Lat => k_is)
    (case k_Lat => k_is)
    (case a_q36 => k_is)
    (case l_q36 => k_is)
    (case c_q36 => k_is)
    (case k_q36 => k_is)
    (case a_q37 => k_is)
    (case l_q37 => k_is)
    (case c_q37 => k_is)
    (case k_q37 => k_is)
    (case a_q38 => k_is)
    (case l_q38 => k_is)
    (case c_q38 => k_is)
    (case k_q38 => k_is)
    (case a_Lsign => k_is)
    (case l_Lsign => k_is)
    (case c_Lsign => k_is)
    (case k_Lsign => k_is)
    (case a_q39 => k_is)
    (case l_q39 => k_is)
    (case c_q39 => k_is)
    (case k_q39 => k_is)
    (case a_q34 => k_is)
    (case l_q34 => k_is)
    (case c_q34 => k_is)
    (case k_q34 => k_is)
    (case a_q35 => k_is)
    (case l_q35 => k_is)
    (case c_q35 => k_is)
    (case k_q35 => k_is)
    (case a_Lcost => k_is)
    (case l_Lcost => k_is)
    (case c_Lcost => k_is)
    (case k_Lcost => k_is)
    (case a_q40 => k_is)
    (case l_q40 => k_is)
    (case c_q40 => k_is)
    (case k_q40 => k_is)
    (case a_q41 => k_is)
    (case l_q41 => k_is)
    (case c_q41 => k_is)
    (case k_q41 => k_is)
    (case a_Lsame => k_is)
    (case l_Lsame => k_is)
    (case c_Lsame => k_is)
    (case k_Lsame => k_is)
    (case a_law => k_is)
    (case l_law => k_is)
    (case c_law => k_is)
    (case k_law => k_is)
    (case as_Cart_may_stand => k_is)
    (case as_Cart_fare => k_is)
    (case as_Cart_steps => k_is)
    (case as_Cart_fare_if_standing => k_is)
    (case as_Crawler_steps => k_is)
    (case as_q13_if_standing => k_is)
    (case as_Runner_may_stand => k_is)
    (case as_Runner_steps => k_is)
    (case as_q16_if_standing => k_is)
    (case as_Cart_init => k_is)
    (case as_Crawler_init => k_is)
    (case as_Runner_init => k_is)
    (case z_len => k_is)
    (case z_range => k_is)
    (case z_isinstance => k_is)
    (case z_all => k_is)
    (case z_int => k_is)
    (case z_bool => k_is)
    (case z_str => k_is)
    (case z_list => k_is)
    (case z_tuple => k_is)
    (case z_dict => k_is)
    (case z_min => k_is)
    (case z_max => k_is)
    (case x_WALL => k_is)
    (case x_CHARGER => k_is)
    (case x_SIGNS => k_is)
    (case x_MOST_ROWS => k_is)
    (case x_MOST_SIGNS => k_is)
    (case x_MOST_FULL => k_is)
    (case x_ROUGH => k_is)
    (case x_LANE => k_is)
