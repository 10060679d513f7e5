import PyProof.Rows.All
import PyProof.StrLoop
import PyProof.TupleIter
import PyProof.RangeIter
import Wide.All
import OpenK.AllK
import Wide.FinOn
import Lean
import PyProof.EqAt
import PyProof.EqKinds
import PyProof.TupleCall
import KE.KRevIter
import PyProof.CollectIter
import PyProof.ListRange
import PyProof.StationsW
import KE.KTryMore
import PyProof.RulesAs
import PyProof.Rows.TupDisplay
import KE.KEqDict
import PyProof.SeqI3
import KE.KDictOf
import PyProof.AttrMissHeap
import PyProof.AttrMissSeq
import PyProof.CollectWalk
import PyProof.ListStr
import PySem.Challenge.RW_floorways_k12_ways_walked
def PySem.W.Fast.tw5810670959829414084 : Unit := ()
def PySem.W.Fast.tw15179349142762165594 : Unit := ()
def PySem.W.Fast.tw5712268565440319759 : Unit := ()
def PySem.W.Fast.tw13564087570456761428 : Unit := ()
def PySem.W.Fast.tw16326140044057165287 : Unit := ()
def PySem.W.Fast.tw12439961556138305662 : Unit := ()
def PySem.W.Fast.tw13007154273734897251 : Unit := ()
def PySem.W.Fast.tw15464004470845946367 : Unit := ()
def PySem.W.Fast.tw6214103342038178072 : Unit := ()
def PySem.W.Fast.tw18040289818531039250 : Unit := ()
def PySem.W.Fast.tw3159056516588367146 : Unit := ()
def PySem.W.Fast.tw2712238746697419446 : Unit := ()
def PySem.W.Fast.tw7255167077606185102 : Unit := ()
def PySem.W.Fast.tw4700200723630737184 : Unit := ()
def PySem.W.Fast.tw3777007951318479714 : Unit := ()
def PySem.W.Fast.tw17354833474778568777 : Unit := ()
def PySem.W.Fast.tw10543069638925843316 : Unit := ()
def PySem.W.Fast.tw553864977857415991 : Unit := ()
def PySem.W.Fast.tw12387227925031801219 : Unit := ()
def PySem.W.Fast.tw13521952657807549384 : Unit := ()
def PySem.W.Fast.tw13231529338611432387 : Unit := ()
def PySem.W.Fast.tw15693034135087161706 : Unit := ()
def PySem.W.Fast.tw1071974442736259005 : Unit := ()
def PySem.W.Fast.tw8130065935535911426 : Unit := ()
def PySem.W.Fast.tw3007451481729721214 : Unit := ()
def PySem.W.Fast.tw13455895724822323800 : Unit := ()
def PySem.W.Fast.tw53695789530662926 : Unit := ()
def PySem.W.Fast.tw6150878275738237990 : Unit := ()
def PySem.W.Fast.tw3061726977498914917 : Unit := ()
def PySem.W.Fast.tw4727073102303648419 : Unit := ()
def PySem.W.Fast.tw13811635808414297338 : Unit := ()
def PySem.W.Fast.tw5241712493101436920 : Unit := ()
def PySem.W.Fast.tw1398277912248976561 : Unit := ()
def PySem.W.Fast.tw2719727214506061697 : Unit := ()
def PySem.W.Fast.tw3353632978712060758 : Unit := ()
def PySem.W.Fast.tw1159131671543071906 : Unit := ()
def PySem.W.Fast.tw14685254126284035007 : Unit := ()
def PySem.W.Fast.tw14933343030270986832 : Unit := ()
def PySem.W.Fast.tw9649492076351304568 : Unit := ()
def PySem.W.Fast.tw9174462823311828369 : Unit := ()
def PySem.W.Fast.tw13023648716667572094 : Unit := ()
def PySem.W.Fast.tw11740241364096002721 : Unit := ()
def PySem.W.Fast.tw2833547073245832922 : Unit := ()
def PySem.W.Fast.tw14593320194694529955 : Unit := ()
def PySem.W.Fast.tw10637992354371670636 : Unit := ()
def PySem.W.Fast.tw826167902794737218 : Unit := ()
def PySem.W.Fast.tw9065884543125504529 : Unit := ()
def PySem.W.Fast.tw9619892102802830841 : Unit := ()
def PySem.W.Fast.tw3506251448492891549 : Unit := ()
def PySem.W.Fast.tw2595210125716685882 : Unit := ()
def PySem.W.Fast.tw7844848893915305354 : Unit := ()
def PySem.W.Fast.tw9484044715117938075 : Unit := ()
def PySem.W.Fast.tw1519553675708251774 : Unit := ()
def PySem.W.Fast.tw17359504266841221391 : Unit := ()
def PySem.W.Fast.tw5059557791124236321 : Unit := ()
def PySem.W.Fast.tw4369599953012869903 : Unit := ()
def PySem.W.Fast.tw9117500729527350855 : Unit := ()
def PySem.W.Fast.tw11728527710703491923 : Unit := ()
def PySem.W.Fast.tw11985104991598662321 : Unit := ()
def PySem.W.Fast.tw2594824346461026048 : Unit := ()
def PySem.W.Fast.tw9493833835902573525 : Unit := ()
def PySem.W.Fast.tw13924253920937557903 : Unit := ()
def PySem.W.Fast.tw2955263916571151347 : Unit := ()
def PySem.W.Fast.tw9622291159666558147 : Unit := ()
def PySem.W.Fast.tw11054277429311065754 : Unit := ()
def PySem.W.Fast.tw9855913766326512840 : Unit := ()
def PySem.W.Fast.tw15876468338617059856 : Unit := ()
def PySem.W.Fast.tw7057000788674532742 : Unit := ()
def PySem.W.Fast.tw3045656681650389628 : Unit := ()
def PySem.W.Fast.tw14665052220792737905 : Unit := ()
def PySem.W.Fast.tw13598732940827489253 : Unit := ()
def PySem.W.Fast.tw18326131861224568080 : Unit := ()
def PySem.W.Fast.tw7480934014491172076 : Unit := ()
def PySem.W.Fast.tw149428038647236603 : Unit := ()
def PySem.W.Fast.tw12289572483166193275 : Unit := ()
def PySem.W.Fast.tw8332085206097091178 : Unit := ()
def PySem.W.Fast.tw17121808759102428005 : Unit := ()
def PySem.W.Fast.tw2086036966854978734 : Unit := ()
def PySem.W.Fast.tw12334150065087506365 : Unit := ()
def PySem.W.Fast.tw16665735453680996755 : Unit := ()
def PySem.W.Fast.tw12465990581480650968 : Unit := ()
def PySem.W.Fast.tw9123635170296079801 : Unit := ()
def PySem.W.Fast.tw7248706459203365318 : Unit := ()
def PySem.W.Fast.tw15558196406107955890 : Unit := ()
def PySem.W.Fast.tw16021112278569539287 : Unit := ()
def PySem.W.Fast.tw7989669724534257044 : Unit := ()
def PySem.W.Fast.tw6911158426240466932 : Unit := ()
def PySem.W.Fast.tw13760361069791862177 : Unit := ()
def PySem.W.Fast.tw3385292526799530222 : Unit := ()
def PySem.W.Fast.tw8880640206396499239 : Unit := ()
def PySem.W.Fast.tw11821243341032876686 : Unit := ()
def PySem.W.Fast.tw14181965890021437611 : Unit := ()
def PySem.W.Fast.tw13971687730327895503 : Unit := ()
def PySem.W.Fast.tw684918098197914412 : Unit := ()
def PySem.W.Fast.tw11553685014317782425 : Unit := ()
def PySem.W.Fast.tw12078575831007063551 : Unit := ()
def PySem.W.Fast.tw18309524751943195755 : Unit := ()
def PySem.W.Fast.tw6882282831685279592 : Unit := ()
def PySem.W.Fast.tw11817518194064282116 : Unit := ()
def PySem.W.Fast.tw2938530256257951016 : Unit := ()
def PySem.W.Fast.tw17639048366443047070 : Unit := ()
def PySem.W.Fast.tw10868767362759518212 : Unit := ()
def PySem.W.Fast.tw2705012639797942423 : Unit := ()
def PySem.W.Fast.tw6062551811708461252 : Unit := ()
def PySem.W.Fast.tw15381486442671712025 : Unit := ()
def PySem.W.Fast.tw15093137146692128159 : Unit := ()
def PySem.W.Fast.tw17471197131740670187 : Unit := ()
def PySem.W.Fast.tw15026395527686379712 : Unit := ()
def PySem.W.Fast.tw11265096513675357664 : Unit := ()
def PySem.W.Fast.tw1660633477492531124 : Unit := ()
def PySem.W.Fast.tw14625495564288404245 : Unit := ()
def PySem.W.Fast.tw9829032885301687916 : Unit := ()
def PySem.W.Fast.tw17826185369878448782 : Unit := ()
def PySem.W.Fast.tw16896936662651014140 : Unit := ()
def PySem.W.Fast.tw10922554775354535214 : Unit := ()
def PySem.W.Fast.tw11595889924712692215 : Unit := ()
def PySem.W.Fast.tw329498535085221996 : Unit := ()
def PySem.W.Fast.tw13571473123176074816 : Unit := ()
def PySem.W.Fast.tw10381880856072113878 : Unit := ()
def PySem.W.Fast.tw18410756610173053317 : Unit := ()
def PySem.W.Fast.tw10811311364849254574 : Unit := ()
def PySem.W.Fast.tw618399519883637417 : Unit := ()
def PySem.W.Fast.tw661545143457183458 : Unit := ()
def PySem.W.Fast.tw17223334974019213748 : Unit := ()
def PySem.W.Fast.tw623768900761563796 : Unit := ()
def PySem.W.Fast.tw10924737815958041129 : Unit := ()
def PySem.W.Fast.tw14562877808854107880 : Unit := ()
def PySem.W.Fast.tw13577339617500933120 : Unit := ()
def PySem.W.Fast.tw1859607026625600073 : Unit := ()
def PySem.W.Fast.tw17825129755076953215 : Unit := ()
def PySem.W.Fast.tw16230807587359963015 : Unit := ()
def PySem.W.Fast.tw15932755103309238517 : Unit := ()
def PySem.W.Fast.tw5479672400584261223 : Unit := ()
def PySem.W.Fast.tw9511151596124400787 : Unit := ()
def PySem.W.Fast.tw16194605183442352062 : Unit := ()
def PySem.W.Fast.tw13976003111808481571 : Unit := ()
def PySem.W.Fast.tw10537889405379575691 : Unit := ()
def PySem.W.Fast.tw17167506640531860775 : Unit := ()
def PySem.W.Fast.tw14517590187709281875 : Unit := ()
def PySem.W.Fast.tw5913196701650486410 : Unit := ()
def PySem.W.Fast.tw11521259666437504410 : Unit := ()
def PySem.W.Fast.tw17912265748110343667 : Unit := ()
def PySem.W.Fast.tw10249173121860557903 : Unit := ()
def PySem.W.Fast.tw9029761594925678247 : Unit := ()
def PySem.W.Fast.tw12008462193124506954 : Unit := ()
def PySem.W.Fast.tw17322151586480883867 : Unit := ()
def PySem.W.Fast.tw15145933318256147229 : Unit := ()
def PySem.W.Fast.tw13410532940755704254 : Unit := ()
def PySem.W.Fast.tw295593787127292466 : Unit := ()
def PySem.W.Fast.tw12633767987212992387 : Unit := ()
def PySem.W.Fast.tw12519517464523193077 : Unit := ()
def PySem.W.Fast.tw10725096133072374563 : Unit := ()
def PySem.W.Fast.tw18124230345643118037 : Unit := ()
def PySem.W.Fast.tw10188164882852421507 : Unit := ()
def PySem.W.Fast.tw7455206427629106026 : Unit := ()
def PySem.W.Fast.tw2037297693933340848 : Unit := ()
def PySem.W.Fast.tw16646144564881098393 : Unit := ()
def PySem.W.Fast.tw6759019668370088315 : Unit := ()
def PySem.W.Fast.tw2632242334559269658 : Unit := ()
def PySem.W.Fast.tw9544034189572786723 : Unit := ()
def PySem.W.Fast.tw5002829162720270025 : Unit := ()
def PySem.W.Fast.tw12739562427861502814 : Unit := ()
def PySem.W.Fast.tw5523013609877069211 : Unit := ()
def PySem.W.Fast.tw9484687523433247821 : Unit := ()
def PySem.W.Fast.tw12846986839691070 : Unit := ()
def PySem.W.Fast.tw11748648920221506624 : Unit := ()
def PySem.W.Fast.tw1178395425053927043 : Unit := ()
set_option Elab.async false
set_option linter.all false
set_option maxRecDepth 100000
namespace L2
open PySem PyProof.Rows PySem.Calls
def Hd (A : Around) (h : Heap) : Prop :=
  A.handled = none ∨ ∃ (ea C : Addr) (dx : Option Addr) (vs : Array Value) (sl : Array (Option Value)), A.handled = some (.ref ea) ∧ h.get? ea = some ⟨.ref C, dx, .fields vs, sl⟩ ∧ vs[2]? = some Value.none
theorem Hd.keeps {A : Around} {h h' : Heap} (d : Hd A h) (k : ∀ b o, h.get? b = some o → h'.get? b = some o) : Hd A h' := by
  rcases d with d | ⟨ea, C, dx, vs, sl, d1, d2, d3⟩
  · exact .inl d
  · exact .inr ⟨ea, C, dx, vs, sl, d1, k _ _ d2, d3⟩
theorem Hd.update {A : Around} {h : Heap} (d : Hd A h) {it : Addr} {o : Obj} {n : String} (ho : h.get? it = some o) (hc : o.cls = .type n) (f : Obj → Obj) : Hd A (h.update it f) := by
  rcases d with d | ⟨ea, C, dx, vs, sl, d1, d2, d3⟩
  · exact .inl d
  · refine .inr ⟨ea, C, dx, vs, sl, d1, ?_, d3⟩
    rw [Heap.get?_update_other h f (fun z => ?_)]
    · exact d2
    · subst z
      rw [ho] at d2
      cases d2
      cases hc
section
variable {prog : Program} {w : World} {A : Around} {E : Value → Shared → Prop} {s : Shared}
theorem entry_unchain : entryFor table "proto.unchain" = some Builtin.«proto.unchain» := entryFor_of_tree (by kernel_rfl)
theorem raise_new {α : Type} {Q : α → Shared → Prop} {e : Addr} {c : Value} {d : Option Addr} {ws : Array Value} {sl : Array (Option Value)} (hd : Hd A s.heap) (hn : ∀ ea, A.handled = some (.ref ea) → ea ≠ e) (he : s.heap.get? e = some ⟨c, d, .fields ws, sl⟩) (hz : 2 < ws.size)
    (k : ∀ h', (∀ b o, b ≠ e → s.heap.get? b = some o → h'.get? b = some o) → (∃ o, h'.get? e = some o ∧ o.cls = c) → E (.ref e) { s with heap := h' }) : wpAny (model prog w) A (raiseNew (.ref e) : Sem α) Q E s := by
  rcases hd with hd | ⟨ea, C, dx, vs, sl2, d1, d2, d3⟩
  · unfold raiseNew
    refine wpAny_bind (wpAny_handled ?_)
    rw [hd]
    exact wpAny_bind (wpAny_pure (wpAny_throw (k _ (fun _ _ _ z => z) ⟨_, he, rfl⟩)))
  · have ne := hn ea d1
    unfold raiseNew
    refine wpAny_bind (wpAny_handled ?_)
    rw [d1]
    have hb : (Value.ref ea != Value.ref e) = true := by simp [ne]
    dsimp only
    rw [if_pos hb]
    refine wpAny_bind (wpAny_holding (wpAny_runValue (codeAny_builtin entry_unchain ?_)))
    show wpAny _ _ (field (.ref ea) 2 >>= _) _ _ s
    refine wpAny_bind (wpAny_field d2 rfl d3 ?_)
    rw [if_pos (by decide)]
    refine wpAny_bind (wpAny_pure (wpAny_pure ?_))
    unfold updateField
    refine wpAny_bind (wpAny_bind (wpAny_load he ?_))
    show wpAny _ _ (if 2 < ws.size then _ else _) _ _ s
    rw [if_pos hz]
    refine wpAny_update he (wpAny_throw (k _ (fun b o hb z => ?_) ⟨_, Heap.get?_update_self _ he rfl, rfl⟩))
    rw [Heap.get?_update_other _ _ (Ne.symm hb)]
    exact z
theorem stop_told {α : Type} {Q : α → Shared → Prop} (hd : Hd A s.heap) (k : ∀ h' e, (∀ b o, s.heap.get? b = some o → h'.get? b = some o) → (∃ o, h'.get? e = some o ∧ o.cls = .type "StopIteration") → E (.ref e) { s with heap := h' }) :
    wpAny (model prog w) A (newExc (.type "StopIteration") [] >>= fun e => (raiseNew e : Sem α)) Q E s := by
  refine wpAny_bind ?_
  simp only [newExc, newTuple]
  refine wpAny_bind (wpAny_newObj_type ?_ (by size_fits))
  refine wpAny_bind (m := firstArgMember _ _) (wpAny_of_eq (a := Value.none) (by first | rfl | (simp only [firstArgMember]; rfl)) ?_)
  refine wpAny_newObj_type ?_ (by size_fits)
  have up : ∀ b o, s.heap.get? b = some o → ((s.heap.push { cls := .type "tuple", data := .seq #[] }).push { cls := .type "StopIteration", data := .fields (#[Value.ref s.heap.objs.size, .none, .none, .none, .bool false, .none] ++ ownMembersOf (.type "StopIteration") []) }).get? b = some o :=
    fun b o z => Heap.get?_push_of_some _ (Heap.get?_push_of_some _ z)
  have lt : ∀ b o, s.heap.get? b = some o → b ≠ (s.heap.push { cls := .type "tuple", data := .seq #[] }).objs.size := fun b o z => Nat.ne_of_lt (Heap.lt_size (Heap.get?_push_of_some _ z))
  refine raise_new (hd.keeps up) (fun ea z => ?_) (Heap.get?_push_size _ rfl) (by rw [Array.size_append]; exact Nat.lt_of_lt_of_le (show 2 < 6 by decide) (Nat.le_add_right 6 _)) fun h' k1 k2 => k h' _ (fun b o z => k1 b o (lt b o z) (up b o z)) k2
  rcases hd with hd | ⟨eb, C, dx, vs, sl, d1, d2, d3⟩
  · rw [hd] at z
    cases z
  · rw [d1] at z
    cases z
    exact lt _ _ d2
theorem stop_seen {Q : Option Value → Shared → Prop} {e : Addr} (he : ∃ o, s.heap.get? e = some o ∧ o.cls = .type "StopIteration") (h : Q none s) :
    wpAny (model prog w) A (do if ← isInstance (.ref e) (.type "StopIteration") then pure none else throw (.ref e)) Q E s :=
  wpAny_bind (wpAny_isInstance (T := "StopIteration") (b := true) he isSubtype_stop (wpAny_pure h))
theorem list_end {it l : Addr} {i : Nat} {items : Array Value} {Q : Option Value → Shared → Prop} (hh : Hd A s.heap) (hit : s.heap.IsListIter it l i) (hl : s.heap.IsList l items) (hx : items[i]? = none)
    (hQ : ∀ h', Heap.ExtBut it s.heap h' → Q none { s with heap := h' }) : wpAny (model prog w) A (pyNext (.ref it)) Q E s := by
  obtain ⟨o, ho, hc, hd⟩ := id hit
  obtain ⟨_, hol, _, _, hdl⟩ := hl
  unfold pyNext
  refine wpAny_bind (wpAny_attempt (wpAny_callSpecial?_slot (name := Str.ofString "__next__") hit.typeIs slot_listiter_next (wpAny_call_entry slot_listiter_next hit.typeIs entry_listiter_next ?_ (args_listiter_next _))))
  show wpAny _ _ (field (.ref it) 0 >>= _) _ _ s
  refine wpAny_bind (wpAny_field ho hd (x := .ref l) rfl ?_)
  rw [if_neg (fun z : (Value.ref l == Value.none) = true => nomatch z)]
  show wpAny _ _ (field (.ref it) 1 >>= _) _ _ s
  refine wpAny_bind (wpAny_field ho hd (x := .int i 0) rfl ?_)
  show wpAny _ _ (seqItems? (.ref l) >>= _) _ _ s
  refine wpAny_bind (wpAny_seqItems hol hdl ?_)
  simp only [Int.toNat_natCast, hx]
  refine wpAny_bind (wpAny_rule (wpAny_bind (wpAny_setField ho hd (by simp) ?_)))
  refine stop_told (hh.update (A := A) ho hc _) fun h' e k1 k2 => stop_seen k2 (hQ h' fun b o hb z => k1 b o ?_)
  rw [Heap.get?_update_other _ _ (Ne.symm hb)]
  exact z
theorem tuple_end {it t : Addr} {i : Nat} {items : Array Value} {Q : Option Value → Shared → Prop} (hh : Hd A s.heap) (hit : s.heap.IsTupleIter it t i) (ht : s.heap.IsTuple t items) (hx : items[i]? = none)
    (hQ : ∀ h', Heap.ExtBut it s.heap h' → Q none { s with heap := h' }) : wpAny (model prog w) A (pyNext (.ref it)) Q E s := by
  obtain ⟨o, ho, hc, hd⟩ := id hit
  obtain ⟨_, hol, _, _, hdl⟩ := ht
  unfold pyNext
  refine wpAny_bind (wpAny_attempt (wpAny_callSpecial?_slot (name := Str.ofString "__next__") hit.typeIs F.slot_tuple_iterator_next (wpAny_call_entry F.slot_tuple_iterator_next hit.typeIs F.entry_tuple_iterator_next ?_ (F.args_tuple_iterator_next_1 _))))
  show wpAny _ _ (field (.ref it) 0 >>= _) _ _ s
  refine wpAny_bind (wpAny_field ho hd (x := .ref t) rfl ?_)
  rw [if_neg (fun z : (Value.ref t == Value.none) = true => nomatch z)]
  show wpAny _ _ (field (.ref it) 1 >>= _) _ _ s
  refine wpAny_bind (wpAny_field ho hd (x := .int i 0) rfl ?_)
  show wpAny _ _ (seqItems? (.ref t) >>= _) _ _ s
  refine wpAny_bind (wpAny_seqItems hol hdl ?_)
  simp only [Int.toNat_natCast, hx]
  refine wpAny_bind (wpAny_rule (wpAny_bind (wpAny_setField ho hd (by simp) ?_)))
  refine stop_told (hh.update (A := A) ho hc _) fun h' e k1 k2 => stop_seen k2 (hQ h' fun b o hb z => k1 b o ?_)
  rw [Heap.get?_update_other _ _ (Ne.symm hb)]
  exact z
theorem range_end {it : Addr} {x left step : Int} {Q : Option Value → Shared → Prop} (hh : Hd A s.heap) (hit : IsRangeIter s.heap it x left step) (hleft : left ≤ 0)
    (hQ : ∀ h', Heap.ExtBut it s.heap h' → Q none { s with heap := h' }) : wpAny (model prog w) A (pyNext (.ref it)) Q E s := by
  have hT : s.TypeIs (.ref it) "range_iterator" := ⟨_, hit, rfl⟩
  unfold pyNext
  refine wpAny_bind (wpAny_attempt (wpAny_callSpecial?_slot (name := Str.ofString "__next__") hT F.slot_range_iterator_next (wpAny_call_entry F.slot_range_iterator_next hT F.entry_range_iterator_next ?_ (F.args_range_iterator_next_1 _))))
  show wpAny _ _ (field (.ref it) 0 >>= _) _ _ s
  refine wpAny_bind (wpAny_field hit rfl (x := rawInt x) rfl ?_)
  show wpAny _ _ (field (.ref it) 1 >>= _) _ _ s
  refine wpAny_bind (wpAny_field hit rfl (x := rawInt left) rfl ?_)
  show wpAny _ _ (field (.ref it) 2 >>= _) _ _ s
  refine wpAny_bind (wpAny_field hit rfl (x := rawInt step) rfl ?_)
  show wpAny _ _ (if left ≤ 0 then _ else _) _ _ s
  rw [if_pos hleft]
  refine wpAny_bind (wpAny_rule (wpAny_bind ?_))
  exact stop_told (A := A.in1) hh fun h' e k1 k2 => stop_seen k2 (hQ h' fun b o hb z => k1 b o z)
theorem chars_end {it : Addr} {n : String} {x : Str} {t : Tok} {i : Nat} {Q : Option Value → Shared → Prop} (hn : n = "str_ascii_iterator" ∨ n = "str_iterator") (hh : Hd A s.heap) (hit : s.heap.IsStrIter it n x t i) (hx : x.cps[i]? = none)
    (hQ : ∀ h', Heap.ExtBut it s.heap h' → Q none { s with heap := h' }) : wpAny (model prog w) A (pyNext (.ref it)) Q E s := by
  obtain ⟨o, ho, hc, hd⟩ := id hit
  unfold pyNext
  rcases hn with rfl | rfl
  · refine wpAny_bind (wpAny_attempt (wpAny_callSpecial?_slot (name := Str.ofString "__next__") hit.typeIs F.slot_str_ascii_iterator_next (wpAny_call_entry F.slot_str_ascii_iterator_next hit.typeIs F.entry_str_ascii_iterator_next ?_ (F.args_str_ascii_iterator_next_1 _))))
    show wpAny _ _ (field (.ref it) 0 >>= _) _ _ s
    refine wpAny_bind (wpAny_field ho hd (x := .str x t) rfl ?_)
    show wpAny _ _ (field (.ref it) 1 >>= _) _ _ s
    refine wpAny_bind (wpAny_field ho hd (x := .int i 0) rfl ?_)
    simp only [Int.toNat_natCast, hx]
    refine wpAny_bind (wpAny_rule (wpAny_bind (wpAny_setField ho hd (by simp) (wpAny_bind (wpAny_letGo ?_)))))
    refine stop_told (hh.update (A := A) ho hc _) fun h' e k1 k2 => stop_seen k2 (hQ h' fun b o hb z => k1 b o ?_)
    rw [Heap.get?_update_other _ _ (Ne.symm hb)]
    exact z
  · refine wpAny_bind (wpAny_attempt (wpAny_callSpecial?_slot (name := Str.ofString "__next__") hit.typeIs F.slot_str_iterator_next (wpAny_call_entry F.slot_str_iterator_next hit.typeIs F.entry_str_iterator_next ?_ (F.args_str_iterator_next_1 _))))
    show wpAny _ _ (field (.ref it) 0 >>= _) _ _ s
    refine wpAny_bind (wpAny_field ho hd (x := .str x t) rfl ?_)
    show wpAny _ _ (field (.ref it) 1 >>= _) _ _ s
    refine wpAny_bind (wpAny_field ho hd (x := .int i 0) rfl ?_)
    simp only [Int.toNat_natCast, hx]
    refine wpAny_bind (wpAny_rule (wpAny_bind (wpAny_setField ho hd (by simp) (wpAny_bind (wpAny_letGo ?_)))))
    refine stop_told (hh.update (A := A) ho hc _) fun h' e k1 k2 => stop_seen k2 (hQ h' fun b o hb z => k1 b o ?_)
    rw [Heap.get?_update_other _ _ (Ne.symm hb)]
    exact z
end
end L2
set_option Elab.async false
set_option linter.all false
set_option maxRecDepth 100000
namespace L2
open PySem PySem.Spec PyProof.Rows
abbrev Key := Sum Int Str
def keyIs : Key → Value → Bool
  | .inl k, v => Value.isInt k v
  | .inr x, v => Value.isStrOf x v
def keyH (w : World) : Key → Int
  | .inl k => hashInt k
  | .inr x => hashStr w x
theorem keyIs_shape : ∀ {k : Key} {v : Value}, keyIs k v = true → (∃ i t, k = Sum.inl i ∧ v = Value.int i t) ∨ (∃ x t, k = Sum.inr x ∧ v = Value.str x t)
  | .inl i, v, h => by
    obtain ⟨t, e⟩ := Value.isInt_shape (k := i) (v := v) h
    exact .inl ⟨i, t, rfl, e⟩
  | .inr x, v, h => by
    obtain ⟨t, e⟩ := Value.isStrOf_shape (x := x) (v := v) h
    exact .inr ⟨x, t, rfl, e⟩
theorem keyIs_int (i : Int) (t : Tok) : keyIs (.inl i) (.int i t) = true := by simp [keyIs, Value.isInt]
theorem keyIs_str (x : Str) (t : Tok) : keyIs (.inr x) (.str x t) = true := by simp [keyIs, Value.isStrOf]
theorem key_ll (a b : Int) : decide ((Sum.inl a : Key) = Sum.inl b) = (a == b) := by
  by_cases e : a = b
  · subst e; simp
  · have h : ¬ (Sum.inl a : Key) = Sum.inl b := fun q => e (Sum.inl.inj q)
    rw [decide_eq_false h]
    exact (beq_eq_false_iff_ne.mpr e).symm
theorem key_rr (a b : Str) : decide ((Sum.inr a : Key) = Sum.inr b) = decide (a = b) := by
  by_cases e : a = b
  · subst e; simp
  · have h : ¬ (Sum.inr a : Key) = Sum.inr b := fun q => e (Sum.inr.inj q)
    rw [decide_eq_false h, decide_eq_false e]
theorem key_lr (a : Int) (b : Str) : decide ((Sum.inl a : Key) = Sum.inr b) = false := decide_eq_false (fun q => nomatch q)
theorem key_rl (a : Str) (b : Int) : decide ((Sum.inr a : Key) = Sum.inl b) = false := decide_eq_false (fun q => nomatch q)
def mixKind (prog : Program) (w : World) : PySem.KeyKind prog w Key where
  is := keyIs
  hash := keyH w
  inj := fun v a b ha hb => by
    rcases keyIs_shape ha with ⟨i, t, rfl, rfl⟩ | ⟨x, t, rfl, rfl⟩
    · rcases keyIs_shape hb with ⟨j, u, rfl, e⟩ | ⟨y, u, rfl, e⟩
      · injection e with e1 _; rw [e1]
      · exact nomatch e
    · rcases keyIs_shape hb with ⟨j, u, rfl, e⟩ | ⟨y, u, rfl, e⟩
      · exact nomatch e
      · injection e with e1 _; rw [e1]
  byValue := fun k v h => by
    rcases keyIs_shape h with ⟨i, t, rfl, rfl⟩ | ⟨x, t, rfl, rfl⟩ <;> rfl
  pyHash := fun hv h => by
    rcases keyIs_shape hv with ⟨i, t, rfl, rfl⟩ | ⟨x, t, rfl, rfl⟩
    · exact wpAny_pyHash_int h
    · exact wpAny_pyHash_str h
  eqBool := fun hu hv h => by
    rcases keyIs_shape hu with ⟨i, t, rfl, rfl⟩ | ⟨x, t, rfl, rfl⟩
    · rcases keyIs_shape hv with ⟨j, u, rfl, rfl⟩ | ⟨y, u, rfl, rfl⟩
      · rw [key_ll] at h; exact wpAny_eqBool_int h
      · rw [key_lr] at h; exact SeqAt.EqAt.int_str i t y u _ _ _ _ h
    · rcases keyIs_shape hv with ⟨j, u, rfl, rfl⟩ | ⟨y, u, rfl, rfl⟩
      · rw [key_rl] at h; exact SeqAt.EqAt.str_int x t j u _ _ _ _ h
      · rw [key_rr] at h; exact wpAny_eqBool_str h
  «strs» := fun k x t v h => by
    rcases keyIs_shape h with ⟨i, u, rfl, e⟩ | ⟨y, u, rfl, e⟩
    · exact nomatch e
    · injection e with e1 _
      subst e1
      cases v <;> rfl
theorem mixKind_int (prog : Program) (w : World) (i : Int) (t : Tok) : (mixKind prog w).is (.inl i) (.int i t) = true := keyIs_int i t
theorem mixKind_str (prog : Program) (w : World) (x : Str) (t : Tok) : (mixKind prog w).is (.inr x) (.str x t) = true := keyIs_str x t
end L2
namespace L2
open PySem PySem.Spec PyProof.Rows
inductive V where
  | non | bl (b : Bool) | int (i : Int) | str (x : Str) | byt (b : Array UInt8) | flt (b : UInt64) | ref (a : Addr) | ty (n : String)
  deriving DecidableEq
def RelV : V → Value → Prop
  | .non, u => u = Value.none
  | .bl b, u => u = Value.bool b
  | .int i, u => ∃ t, u = Value.int i t
  | .str x, u => ∃ t, u = Value.str x t
  | .byt b, u => ∃ t, u = Value.bytes b t
  | .flt b, u => ∃ t, u = Value.float b t
  | .ref a, u => u = Value.ref a
  | .ty n, u => u = Value.type n
abbrev Vals : List V → List Value → Prop := Paired RelV
theorem Vals.length {xs : List V} {us : List Value} (r : Vals xs us) : xs.length = us.length := Paired.length r
theorem Vals.get : ∀ {xs : List V} {us : List Value} {i : Nat} {x : V}, Vals xs us → xs[i]? = some x → ∃ u, us[i]? = some u ∧ RelV x u
  | _, _, _, _, .nil, e => by simp at e
  | _, _, 0, _, .cons r _, e => by simp at e; subst e; exact ⟨_, rfl, r⟩
  | _, _, i + 1, x, .cons _ t, e => by
    obtain ⟨u, h1, h2⟩ := Vals.get (i := i) (x := x) t (by simpa using e)
    exact ⟨u, by simpa using h1, h2⟩
theorem Vals.set {x : V} {u : Value} (r : RelV x u) : ∀ {xs : List V} {us : List Value} (i : Nat), Vals xs us → Vals (xs.set i x) (us.set i u)
  | _, _, _, .nil => .nil
  | _, _, 0, .cons _ t => .cons r t
  | _, _, i + 1, .cons q t => .cons q (Vals.set r i t)
theorem Vals.append : ∀ {xs ys : List V} {us ws : List Value}, Vals xs us → Vals ys ws → Vals (xs ++ ys) (us ++ ws)
  | _, _, _, _, .nil, s => s
  | _, _, _, _, .cons r t, s => .cons r (Vals.append t s)
theorem Vals.take : ∀ {xs : List V} {us : List Value} (n : Nat), Vals xs us → Vals (xs.take n) (us.take n)
  | _, _, 0, _ => .nil
  | _, _, _ + 1, .nil => .nil
  | _, _, n + 1, .cons r t => .cons r (Vals.take n t)
theorem Vals.drop : ∀ {xs : List V} {us : List Value} (n : Nat), Vals xs us → Vals (xs.drop n) (us.drop n)
  | _, _, 0, r => r
  | _, _, _ + 1, .nil => .nil
  | _, _, n + 1, .cons _ t => Vals.drop n t
theorem Vals.none_of : ∀ {xs : List V} {us : List Value} {i : Nat}, Vals xs us → xs[i]? = none → us[i]? = none := fun {xs us i} r e => by
  have h1 := r.length
  have h2 : xs.length ≤ i := List.getElem?_eq_none_iff.mp e
  exact List.getElem?_eq_none_iff.mpr (by omega)
def RelO : Option V → Option Value → Prop
  | some v, some u => RelV v u
  | none, none => True
  | _, _ => False
def KV {κ : Type} : List (κ × V) → List (κ × Value) → Prop := Paired fun (p : κ × V) (q : κ × Value) => p.1 = q.1 ∧ RelV p.2 q.2
def kV : Key → V
  | .inl i => .int i
  | .inr x => .str x
inductive HO where
  | lst (xs : List V)
  | tup (xs : List V)
  | dK (kvs : List (Key × V)) | dT (kvs : List (List Key × V))
  | set (S : Int → Bool) (n : Nat)
  | ins (C dx : Addr) (fs : List (Str × V))
  | own (x : Addr)
  | xd (fs : List (Str × V))
  | met (f x : Addr)
  | rng (lo hi : Int)
  | frz (o : Obj) (u : HO)
  | tbl (ps : Array Value)
  | ext (φ : Heap → Prop)
abbrev Hp := Addr → Option HO
def upd (H : Hp) (a : Addr) (o : HO) : Hp := fun b => if b = a then some o else H b
theorem upd_same {H : Hp} {a : Addr} {o : HO} : upd H a o a = some o := by unfold upd; rw [if_pos rfl]
theorem upd_ne {H : Hp} {a b : Addr} {o : HO} (h : b ≠ a) : upd H a o b = H b := by unfold upd; rw [if_neg h]
theorem upd_upd {H : Hp} {a : Addr} {o u : HO} : upd (upd H a o) a u = upd H a u := by
  funext b; unfold upd; split <;> rfl
theorem ne_of {H : Hp} {a b : Addr} {o u : HO} (h : H a = some o) (h' : H b = some u) (d : o ≠ u) : a ≠ b := by
  intro e; subst e; rw [h] at h'; exact d (Option.some.inj h')
theorem ne_of_none {H : Hp} {a b : Addr} {o : HO} (h : H a = some o) (h' : H b = none) : a ≠ b := by
  intro e; subst e; rw [h] at h'; cases h'
section
variable (P : Program) (w : World)
def ObjOk (H : Hp) (h : Heap) (a : Addr) : HO → Prop
  | .lst xs => xs.length ≤ sizeLine ∧ ∃ (its : List Value) (n : Nat), Vals xs its ∧ h.get? a = some { cls := .type "list", data := .seq its.toArray n }
  | .tup xs => xs.length ≤ sizeLine ∧ ∃ its : List Value, Vals xs its ∧ IsTup h a its.toArray
  | .dK kvs => kvs.length ≤ sizeLine ∧ (a == sysModules) = false ∧ ∃ vs, KV kvs vs ∧ h.DictOf (mixKind P w) a vs
  | .dT kvs => kvs.length ≤ sizeLine ∧ (a == sysModules) = false ∧ ∃ xs : List (List Key × Addr × Value),
      Paired (fun (p : List Key × V) (q : List Key × Addr × Value) => p.1 = q.1 ∧ H q.2.1 = some (.tup (p.1.map kV)) ∧ RelV p.2 q.2.2) kvs xs ∧
      ∃ o es ep, h.get? a = some o ∧ o.ExactDict ∧ o.data = .dict es ep ∧ es.toList = xs.map (entryOfKey (tupleKind (mixKind P w))) ∧ (xs.map (·.1)).Nodup
  | .set S n => h.SetOf (intKind P w) a S n
  | .ins C dx fs => H dx = some (.own a) ∧ fs.length ≤ 1000 ∧ dx ≠ a ∧ h.get? a = some (PySem.W.instObj C dx) ∧
      ∃ mA, h.Ns1 dx mA ∧ (∀ f, RelO (fs.lookup f) (mA f)) ∧ PySem.Within mA (fs.map (·.1))
  | .own _ => ∃ o, h.get? a = some o
  | .xd fs => ∃ mA, h.Ns1 a mA ∧ ∀ f, RelO (fs.lookup f) (mA f)
  | .rng lo hi => ∃ t u v, h.get? a = some { cls := .type "range", data := .fields #[.int lo t, .int hi u, .int 1 v] }
  | .frz o u => h.get? a = some o ∧ ObjOk H h a u
  | .tbl ps => h.get? a = some { cls := .none, data := .fields ps }
  | .met f x => h.get? a = some (PySem.W.methodObj (.ref f) (.ref x))
  | .ext φ => φ h ∧ (∃ o, h.get? a = some o) ∧ ∀ h1 h2 : Heap, φ h1 → (∀ o, h1.get? a = some o → h2.get? a = some o) → φ h2
def HOk (H : Hp) (h : Heap) : Prop := ∀ a o, H a = some o → ObjOk P w H h a o
end
section
variable {P : Program} {w : World} {H H' : Hp} {h h' : Heap} {a : Addr} {o : HO}
theorem ObjOk.lt (x : ObjOk P w H h a o) : a < h.objs.size := by
  cases o with
  | lst xs => obtain ⟨_, _, _, _, e⟩ := x; exact Heap.lt_size e
  | tup xs => obtain ⟨_, _, _, p⟩ := x; exact p.lt
  | dK kvs => obtain ⟨_, _, _, _, o, _, _, e, _⟩ := x; exact Heap.lt_size e
  | dT kvs => obtain ⟨_, _, _, _, o, _, _, e, _⟩ := x; exact Heap.lt_size e
  | set S n => obtain ⟨o, _, _, _, e, _⟩ := x; exact Heap.lt_size e
  | ins C dx fs => obtain ⟨_, _, _, e, _⟩ := x; exact Heap.lt_size e
  | own y => obtain ⟨_, e⟩ := x; exact Heap.lt_size e
  | xd fs => obtain ⟨_, ⟨_, _, _, e, _⟩, _⟩ := x; exact Heap.lt_size e
  | rng lo hi => obtain ⟨_, _, _, e⟩ := x; exact Heap.lt_size e
  | frz ob u => obtain ⟨e, _⟩ := x; exact Heap.lt_size e
  | tbl ps => exact Heap.lt_size (show h.get? a = some _ from x)
  | met f y => exact Heap.lt_size (show h.get? a = some _ from x)
  | ext φ => obtain ⟨_, ⟨_, e⟩, _⟩ := x; exact Heap.lt_size e
theorem Paired.mapP {α β : Type} {F G : α → β → Prop} : ∀ {l₁ : List α} {l₂ : List β}, Paired F l₁ l₂ → (∀ a b, F a b → G a b) → Paired G l₁ l₂
  | _, _, .nil, _ => .nil
  | _, _, .cons r t, f => .cons (f _ _ r) (Paired.mapP t f)
theorem ObjOk.stay (x : ObjOk P w H h a o) (k : ∀ b u, (b = a ∨ H b = some (.own a)) → h.get? b = some u → h'.get? b = some u)
    (ho : ∀ b, H b = some (.own a) → H' b = some (.own a)) (ht : ∀ b xs, H b = some (.tup xs) → H' b = some (.tup xs)) : ObjOk P w H' h' a o := by
  induction o with
  | lst xs => obtain ⟨z, its, n, r, e⟩ := x; exact ⟨z, its, n, r, k _ _ (.inl rfl) e⟩
  | tup xs => obtain ⟨z, its, r, ob, e, c⟩ := x; exact ⟨z, its, r, ob, k _ _ (.inl rfl) e, c⟩
  | dK kvs => obtain ⟨z, y, vs, r, ob, es, ep, e, c⟩ := x; exact ⟨z, y, vs, r, ob, es, ep, k _ _ (.inl rfl) e, c⟩
  | dT kvs =>
    obtain ⟨z, y, xs, r, ob, es, ep, e, c⟩ := x
    exact ⟨z, y, xs, Paired.mapP r fun p q z => ⟨z.1, ht _ _ z.2.1, z.2.2⟩, ob, es, ep, k _ _ (.inl rfl) e, c⟩
  | set S n => obtain ⟨ob, es, ep, t, e, c⟩ := x; exact ⟨ob, es, ep, t, k _ _ (.inl rfl) e, c⟩
  | ins C dx fs =>
    obtain ⟨d, z, ne, e, mA, ⟨od, es, ep, e2, c⟩, r⟩ := x
    exact ⟨ho _ d, z, ne, k _ _ (.inl rfl) e, mA, ⟨od, es, ep, k _ _ (.inr d) e2, c⟩, r⟩
  | own y => obtain ⟨ob, e⟩ := x; exact ⟨ob, k _ _ (.inl rfl) e⟩
  | xd fs => obtain ⟨mA, ⟨od, es, ep, e, c⟩, r⟩ := x; exact ⟨mA, ⟨od, es, ep, k _ _ (.inl rfl) e, c⟩, r⟩
  | rng lo hi => obtain ⟨t, u, v, e⟩ := x; exact ⟨t, u, v, k _ _ (.inl rfl) e⟩
  | frz ob u ih => obtain ⟨e, q⟩ := x; exact ⟨k _ _ (.inl rfl) e, ih q⟩
  | tbl ps =>
    have e : h.get? a = some { cls := .none, data := .fields ps } := x
    show h'.get? a = some { cls := .none, data := .fields ps }
    exact k a _ (.inl rfl) e
  | met f y =>
    have e : h.get? a = some (PySem.W.methodObj (.ref f) (.ref y)) := x
    show h'.get? a = some (PySem.W.methodObj (.ref f) (.ref y))
    exact k a _ (.inl rfl) e
  | ext φ => obtain ⟨p, ⟨o, e⟩, st⟩ := x; exact ⟨st _ _ p fun o q => k _ _ (.inl rfl) q, ⟨o, k _ _ (.inl rfl) e⟩, st⟩
theorem HOk.lt (x : HOk P w H h) (e : H a = some o) : a < h.objs.size := (x a o e).lt
theorem HOk.fresh (x : HOk P w H h) (e : h.objs.size ≤ a) : H a = none := by
  cases q : H a with
  | none => rfl
  | some u => exact absurd (Nat.lt_of_lt_of_le (x.lt q) e) (Nat.lt_irrefl _)
theorem HOk.kept (x : HOk P w H h) (k : ∀ b u, h.get? b = some u → h'.get? b = some u) : HOk P w H h' := fun a o e =>
  (x a o e).stay (fun b u _ q => k b u q) (fun _ q => q) fun _ _ q => q
theorem HOk.laid (x : HOk P w H h) (k : ∀ b u, h.get? b = some u → h'.get? b = some u) (hp : h.objs.size ≤ a) (new : ObjOk P w (upd H a o) h' a o) : HOk P w (upd H a o) h' := fun b u e => by
  have hn := x.fresh hp
  by_cases hb : b = a
  · subst hb; rw [upd_same] at e; cases e; exact new
  · rw [upd_ne hb] at e
    exact (x b u e).stay (fun c v _ q => k c v q) (fun c q => by rw [upd_ne (ne_of_none q hn)]; exact q) fun c xs q => by rw [upd_ne (ne_of_none q hn)]; exact q
end
def Rd (H : Hp) (a : Addr) (u : HO) : Prop := H a = some u ∨ ∃ o, H a = some (.frz o u)
theorem Rd.of {H : Hp} {a : Addr} {u : HO} (h : H a = some u) : Rd H a u := .inl h
theorem Rd.ok {P : Program} {w : World} {H : Hp} {h : Heap} {a : Addr} {u : HO} (r : Rd H a u) (x : HOk P w H h) : ObjOk P w H h a u := by
  rcases r with r | ⟨o, r⟩
  · exact x a u r
  · obtain ⟨_, q⟩ := x a _ r
    exact q
def Mut : Option HO → Prop
  | some (.lst _) => True
  | some (.dK _) => True
  | some (.dT _) => True
  | some (.set _ _) => True
  | some (.ins _ _ _) => True
  | some (.ext _) => True
  | _ => False
section
variable {P : Program} {w : World} {H : Hp} {h h' : Heap} {x e : Addr} {o' : HO}
theorem HOk.write (ok : HOk P w H h) (mu : Mut (H x)) (he : e = x ∨ H e = some (.own x)) (k : ∀ b u, b ≠ e → h.get? b = some u → h'.get? b = some u) (heo : ∃ u, h'.get? e = some u)
    (new : ObjOk P w (upd H x o') h' x o') : HOk P w (upd H x o') h' := fun b u q => by
  have nown : ∀ c y, H c = some (.own y) → c ≠ x := fun c y r z => by subst z; rw [r] at mu; exact mu
  have ntup : ∀ c xs, H c = some (.tup xs) → c ≠ x := fun c xs r z => by subst z; rw [r] at mu; exact mu
  by_cases hb : b = x
  · subst hb; rw [upd_same] at q; cases q; exact new
  · rw [upd_ne hb] at q
    by_cases hbe : b = e
    · have q' : H b = some (.own x) := by
        rcases he with z | z
        · exact absurd (hbe.trans z) hb
        · rw [hbe]; exact z
      rw [q] at q'; cases q'
      obtain ⟨v, hv⟩ := heo
      exact ⟨v, by rw [hbe]; exact hv⟩
    · refine (ok b u q).stay (fun c v hc r => k c v ?_ r) (fun c r => by rw [upd_ne (nown c b r)]; exact r) fun c xs r => by rw [upd_ne (ntup c xs r)]; exact r
      rcases hc with rfl | hc
      · exact hbe
      · rintro rfl
        rcases he with z | z
        · exact nown c b hc z
        · rw [hc] at z; cases z; exact hb rfl
end
structure Un (fs ex : List Addr) (H H' : Hp) (h h' : Heap) : Prop where
  keep : ∀ b o, h.get? b = some o → H b = none → b ∉ fs → b ∉ ex → h'.get? b = some o
  slot : ∀ b o, h.get? b = some o → H b = none → b ∈ fs → b ∉ ex → ∃ sl, h'.get? b = some { o with slots := sl }
  free : ∀ b o, h.get? b = some o → H b = none → b ∉ ex → H' b = none
  there : ∀ b o, h.get? b = some o → b ∉ ex → ∃ o', h'.get? b = some o'
  tups : ∀ b xs, H b = some (.tup xs) → H' b = some (.tup xs)
  frzs : ∀ b o u, H b = some (.frz o u) → H' b = some (.frz o u)
  tbls : ∀ b ps, H b = some (.tbl ps) → ∃ more, H' b = some (.tbl (ps ++ more))
section
variable {fs fs' ex ex' : List Addr} {H H1 H2 : Hp} {h h1 h2 h' : Heap} {a x e : Addr} {o : HO}
theorem Un.any (u : Un fs ex H H1 h h1) {b : Addr} {ob : Obj} (q : h.get? b = some ob) (n : H b = none) (hx : b ∉ ex) : ∃ sl, h1.get? b = some { ob with slots := sl } := by
  by_cases hb : b ∈ fs
  · exact u.slot b ob q n hb hx
  · exact ⟨ob.slots, u.keep b ob q n hb hx⟩
theorem Un.trans (a : Un fs ex H H1 h h1) (b : Un fs ex H1 H2 h1 h2) : Un fs ex H H2 h h2 where
  keep := fun c ob q n hc hx => b.keep c ob (a.keep c ob q n hc hx) (a.free c ob q n hx) hc hx
  slot := fun c ob q n hc hx => by
    obtain ⟨sl, e1⟩ := a.slot c ob q n hc hx
    obtain ⟨sl', e2⟩ := b.slot c _ e1 (a.free c ob q n hx) hc hx
    exact ⟨sl', e2⟩
  free := fun c ob q n hx => by
    obtain ⟨o', e1⟩ := a.there c ob q hx
    exact b.free c o' e1 (a.free c ob q n hx) hx
  there := fun c ob q hx => by
    obtain ⟨o', e1⟩ := a.there c ob q hx
    exact b.there c o' e1 hx
  tups := fun c xs q => b.tups c xs (a.tups c xs q)
  frzs := fun c ob xs q => b.frzs c ob xs (a.frzs c ob xs q)
  tbls := fun c ps q => by
    obtain ⟨m1, e1⟩ := a.tbls c ps q
    obtain ⟨m2, e2⟩ := b.tbls c _ e1
    exact ⟨m1 ++ m2, by rw [e2, Array.append_assoc]⟩
theorem Un.kept (k : ∀ b u, h.get? b = some u → h'.get? b = some u) : Un fs ex H H h h' :=
  ⟨fun b ob q _ _ _ => k b ob q, fun b ob q _ _ _ => ⟨ob.slots, k b ob q⟩, fun _ _ _ n _ => n, fun b ob q _ => ⟨ob, k b ob q⟩, fun _ _ q => q, fun _ _ _ q => q, fun _ ps q => ⟨#[], by rw [q]; simp⟩⟩
theorem Un.refl : Un fs ex H H h h := Un.kept fun _ _ q => q
theorem Un.laid (k : ∀ b u, h.get? b = some u → h'.get? b = some u) (hp : h.objs.size ≤ a) (hn : H a = none) : Un fs ex H (upd H a o) h h' where
  keep := fun b u q _ _ _ => k b u q
  slot := fun b u q _ _ _ => ⟨u.slots, k b u q⟩
  free := fun b u q n _ => by rw [upd_ne (Nat.ne_of_lt (Nat.lt_of_lt_of_le (Heap.lt_size q) hp))]; exact n
  there := fun b u q _ => ⟨u, k b u q⟩
  tups := fun b xs q => by rw [upd_ne (ne_of_none q hn)]; exact q
  frzs := fun b u xs q => by rw [upd_ne (ne_of_none q hn)]; exact q
  tbls := fun b ps q => ⟨#[], by rw [upd_ne (ne_of_none q hn), q]; simp⟩
theorem Un.write (mu : Mut (H x)) (he : e = x ∨ H e = some (.own x)) (k : ∀ b u, b ≠ e → h.get? b = some u → h'.get? b = some u) (heo : ∃ u, h'.get? e = some u) : Un fs ex H (upd H x o) h h' := by
  have hx : ∀ b, H b = none → b ≠ x := fun b n z => by subst z; rw [n] at mu; exact mu
  have hb : ∀ b, H b = none → b ≠ e := fun b n z => by
    subst z
    rcases he with r | r
    · exact hx b n r
    · rw [n] at r; cases r
  have hm : ∀ b u, H b = some u → ¬ Mut (some u) → b ≠ x := fun b u q nm z => by subst z; rw [q] at mu; exact nm mu
  refine ⟨fun b u q n _ _ => k b u (hb b n) q, fun b u q n _ _ => ⟨u.slots, k b u (hb b n) q⟩, fun b u q n _ => by rw [upd_ne (hx b n)]; exact n, fun b u q _ => ?_,
    fun b xs q => by rw [upd_ne (hm b _ q fun z => z)]; exact q, fun b u xs q => by rw [upd_ne (hm b _ q fun z => z)]; exact q, fun b ps q => ⟨#[], by rw [upd_ne (hm b _ q fun z => z), q]; simp⟩⟩
  by_cases hbe : b = e
  · subst hbe; exact heo
  · exact ⟨u, k b u hbe q⟩
theorem Un.mono (u : Un fs ex H H1 h h1) (hs : ∀ b ∈ fs, b ∈ fs') (hx : ∀ b ∈ ex, b ∈ ex') : Un fs' ex' H H1 h h1 :=
  ⟨fun b ob q n hb he => u.keep b ob q n (fun z => hb (hs b z)) fun z => he (hx b z), fun _ _ q n _ he => u.any q n fun z => he (hx _ z), fun b ob q n he => u.free b ob q n fun z => he (hx b z), fun b ob q he => u.there b ob q fun z => he (hx b z), u.tups, u.frzs, u.tbls⟩
end
def trk (h : Heap) (H : Hp) : List Addr := (List.range h.objs.size).filter fun a => (H a).isSome
def hidT (h : Heap) (H : Hp) : Heap := PySem.W.hideAll h (trk h H)
theorem hidT_size (h : Heap) (H : Hp) : (hidT h H).objs.size = h.objs.size := PySem.W.hideAll_size _ _
theorem hidT_get {h : Heap} {H : Hp} {b : Addr} {o : Obj} (e : h.get? b = some o) (n : H b = none) : (hidT h H).get? b = some o :=
  PySem.W.hideAll_get _ e fun hm => by
    have q : (H b).isSome = true := (List.mem_filter.mp hm).2
    rw [n] at q; simp at q
theorem of_hidT {h : Heap} {H : Hp} {b : Addr} {o : Obj} (e : (hidT h H).get? b = some o) : h.get? b = some o ∧ H b = none := by
  have e' : h.get? b = some o := PySem.W.of_hideAll (trk h H) e
  refine ⟨e', ?_⟩
  cases q : H b with
  | none => rfl
  | some x =>
    have hm : b ∈ trk h H := List.mem_filter.mpr ⟨List.mem_range.mpr (Heap.lt_size e'), by simp [q]⟩
    have z : (hidT h H).get? b = none := PySem.W.hideAll_none (trk h H) hm
    rw [z] at e; cases e
def allNews (g h : Heap) (L : Addr) : List (Addr × Obj) := (List.range h.objs.size).filterMap fun a => if a = L ∨ (g.get? a).isSome = true then none else (h.get? a).map fun o => (a, o)
def rest (g h : Heap) (L d : Addr) : List (Addr × Obj) := (allNews g h L).filter fun p => decide (p.1 ≠ d)
end L2
namespace L2
open PySem PySem.Spec PyProof.Rows
structure Mod (K : PySem.W.Frag) (mg : Str → Option Value) (base : Heap) : Prop where
  kin : K.In base
  glob : base.Ns mainGlobals mg
  blt : ∃ mb, base.Ns builtinsNs mb ∧ ∀ x : Str, x ≠ "__name__" → mb x = bootBuiltins x
  nolimit : base.NoLimit
structure Cx where
  prog : Program
  w : World
  K : PySem.W.Frag
  mg : Str → Option Value
  base : Heap
  A : Around
  N : List Str
  s₀ : Shared
  H₀ : Hp
  env : Env
  outer : List Env
  stack : List Env
  ex : List Addr
  fn : Str → Bool
  calm : Bool
  pn : List (Addr × Obj)
  xe : Value → Shared → Prop
def frs (l : List Env) : List Addr := l.filterMap (·.frame)
abbrev Cx.fs (X : Cx) : List Addr := frs X.outer
def Vis (sc : Scope) (x : Str) : Prop := sc.names.lookup x = some .local ∨ sc.names.lookup x = some .cell ∨ sc.names.lookup x = some .free
def Loc (sc : Scope) (x : Str) : Prop := sc.names.lookup x = some .local ∨ sc.names.lookup x = some .cell
def Look (env : Env) (h : Heap) (m : Str → Option Value) (x : Str) (u : Value) : Prop :=
  (env.kindOf x = some .local ∧ m x = some u) ∨ ((env.kindOf x = some .cell ∨ env.kindOf x = some .free) ∧ ∃ c, env.cells.lookup x = some c ∧ h.IsCell c (some u))
structure Cx.Ok (X : Cx) : Prop where
  mod : Mod X.K X.mg X.base
  kind : X.env.scope.kind = .function
  glob : X.env.globals = mainGlobals
  blt : X.env.builtins = builtinsNs
  above : X.s₀.heap.objs.size ≤ X.env.locals
  inj : ∀ x y c, X.env.cells.lookup x = some c → X.env.cells.lookup y = some c → x = y
  has : ∀ x, (X.env.kindOf x = some .cell ∨ X.env.kindOf x = some .free) → ∃ c, X.env.cells.lookup x = some c
  cab : ∀ x c, X.fn x = true → X.env.cells.lookup x = some c → X.s₀.heap.objs.size ≤ c
  hd : X.calm = true → X.A.handled = none
  frames : X.A.frames = some X.stack
  stk : X.stack = X.outer ∨ (X.stack = X.env :: X.outer ∧ X.env.frame = some X.env.locals)
  exf : ∀ b ∈ X.ex, b ≠ X.env.locals ∧ ∀ x c, X.env.cells.lookup x = some c → c ≠ b
  bs : ∀ b o, X.base.get? b = some o → X.s₀.heap.get? b = some o ∧ X.H₀ b = none
  bsz : X.base.objs.size ≤ X.s₀.heap.objs.size
  noex : ∀ b o, X.base.get? b = some o → b ∉ X.ex
  exfs : ∀ b ∈ X.ex, b ∉ X.fs
  funs : X.s₀.heap.FunFrames X.base X.outer
  frf : ∀ b ∈ X.fs, X.H₀ b = none
structure Inv (X : Cx) (pins : List (Addr × Obj)) (σ : List (Option V)) (H : Hp) (s : Shared) : Prop where
  ok : X.Ok
  os : s.os = X.s₀.os
  bare : AllBare s.gens
  base : Un X.fs X.ex X.H₀ H X.s₀.heap s.heap
  loc : ∃ m, s.heap.Ns X.env.locals m ∧ ∀ (i : Nat) (x : Str) (v : V), X.N[i]? = some x → σ[i]? = some (some v) → Vis X.env.scope x → ∃ u, RelV v u ∧ Look X.env s.heap m x u
  cell : ∀ x c, X.env.cells.lookup x = some c → ∃ v, s.heap.IsCell c v
  free : H X.env.locals = none
  freeC : ∀ x c, X.env.cells.lookup x = some c → H c = none
  pin : ∀ p ∈ X.pn ++ pins, s.heap.get? p.1 = some p.2 ∧ H p.1 = none ∧ p.1 ≠ X.env.locals ∧ p.1 ∉ X.fs ∧ ∀ v, p.2.data ≠ .cell v
  hok : HOk X.prog X.w H s.heap
  len : σ.length = X.N.length
section
variable {X : Cx} {pins : List (Addr × Obj)} {σ : List (Option V)} {H H' : Hp} {s : Shared} {h' : Heap}
theorem Cx.Ok.nofr (ok : X.Ok) {b : Addr} {o : Obj} (e : X.base.get? b = some o) : b ∉ X.fs := fun hb => by
  have := (ok.funs.mem hb).1
  rw [e] at this; cases this
theorem Inv.bs (I : Inv X pins σ H s) : ∀ b o, X.base.get? b = some o → s.heap.get? b = some o ∧ H b = none := fun b o e =>
  ⟨I.base.keep b o (I.ok.bs b o e).1 (I.ok.bs b o e).2 (I.ok.nofr e) (I.ok.noex b o e), I.base.free b o (I.ok.bs b o e).1 (I.ok.bs b o e).2 (I.ok.noex b o e)⟩
theorem Inv.bk (I : Inv X pins σ H s) : ∀ b o, X.base.get? b = some o → s.heap.get? b = some o := fun b o e => (I.bs b o e).1
theorem Inv.mod (I : Inv X pins σ H s) : Mod X.K X.mg X.base := I.ok.mod
theorem Inv.kIn (I : Inv X pins σ H s) : X.K.In s.heap := I.ok.mod.kin.keeps I.bk
theorem Inv.nolimit (I : Inv X pins σ H s) : s.heap.NoLimit := I.ok.mod.nolimit.keeps I.bk
theorem Inv.fr (I : Inv X pins σ H s) : ∃ m, Fr X.base X.env.locals s.heap m :=
  let ⟨m, hn, _⟩ := I.loc
  ⟨m, hn, I.bk, Nat.le_trans I.ok.bsz I.ok.above⟩
theorem Inv.lt (I : Inv X pins σ H s) : X.env.locals < s.heap.objs.size := let ⟨_, hn, _⟩ := I.loc; hn.lt
theorem Inv.sz (I : Inv X pins σ H s) : X.s₀.heap.objs.size ≤ s.heap.objs.size := Nat.le_trans I.ok.above (Nat.le_of_lt I.lt)
theorem Inv.nofs (I : Inv X pins σ H s) {a : Addr} (h : s.heap.objs.size ≤ a) : a ∉ X.fs := fun hb => by
  obtain ⟨_, o, ho, _⟩ := I.ok.funs.mem hb
  exact absurd (Nat.lt_of_lt_of_le (Heap.lt_size ho) (Nat.le_trans I.sz h)) (Nat.lt_irrefl _)
theorem Inv.cne (I : Inv X pins σ H s) : ∀ x c, X.env.cells.lookup x = some c → c ≠ X.env.locals := fun x c e z => by
  obtain ⟨v, o, ho, hd⟩ := I.cell x c e
  obtain ⟨m, ⟨o', es, ep, ho', hd', _⟩, _⟩ := I.loc
  rw [z, ho'] at ho; cases ho; rw [hd'] at hd; cases hd
theorem Inv.funs (I : Inv X pins σ H s) : s.heap.FunFrames X.base X.outer := by
  have all : ∀ (l : List Env), (∀ b ∈ frs l, b ∈ X.fs) → X.s₀.heap.FunFrames X.base l → s.heap.FunFrames X.base l := by
    intro l
    induction l with
    | nil => intro _ _; trivial
    | cons env r ih =>
      intro hs hl
      obtain ⟨hk, ⟨L, o, hf, hn, ho, hd⟩, hr⟩ := hl
      have hL : L ∈ X.fs := hs L (by unfold frs; rw [List.filterMap_cons, hf]; exact List.mem_cons_self)
      obtain ⟨sl, e⟩ := I.base.slot L o ho (I.ok.frf L hL) hL fun z => I.ok.exfs L z hL
      exact ⟨hk, ⟨L, _, hf, hn, e, hd⟩, ih (fun b hb => hs b (by unfold frs; rw [List.filterMap_cons, hf]; exact List.mem_cons_of_mem _ hb)) hr⟩
  exact all X.outer (fun _ hb => hb) I.ok.funs
theorem Inv.stack (I : Inv X pins σ H s) : s.heap.FunFrames X.base X.stack := by
  rcases I.ok.stk with e | ⟨e, hf⟩
  · rw [e]; exact I.funs
  · rw [e]
    obtain ⟨m, hn, _⟩ := I.loc
    refine .cons (by rw [I.ok.kind]; decide) hf hn ?_ I.funs
    exact Heap.get?_none_of_le (Nat.le_trans I.ok.bsz I.ok.above)
theorem Inv.stkSub (I : Inv X pins σ H s) : ∀ b ∈ frs X.stack, b ∈ X.env.locals :: X.fs := fun b hb => by
  rcases I.ok.stk with e | ⟨e, hf⟩
  · rw [e] at hb; exact List.mem_cons_of_mem _ hb
  · rw [e] at hb
    unfold frs at hb
    rw [List.filterMap_cons, hf] at hb
    exact hb
theorem Inv.stkFree (I : Inv X pins σ H s) : ∀ b ∈ frs X.stack, H b = none := fun b hb => by
  rcases List.mem_cons.mp (I.stkSub b hb) with e | hb
  · rw [e]; exact I.free
  · obtain ⟨_, o, ho, _⟩ := I.ok.funs.mem hb
    exact I.base.free b o ho (I.ok.frf b hb) fun z => I.ok.exfs b z hb
theorem Inv.step {g' : Array GenState} {t' : Nat} {d' : Drawn} {ch : List Addr} (I : Inv X pins σ H s)
    (hch : ∀ b ∈ ch, (b ∈ X.ex ∨ X.s₀.heap.objs.size ≤ b) ∧ b ≠ X.env.locals ∧ (∀ x c, X.env.cells.lookup x = some c → c ≠ b) ∧ ∀ p ∈ X.pn ++ pins, p.1 ≠ b)
    (keep : ∀ b o, b ≠ X.env.locals → b ∉ X.fs → b ∉ ch → s.heap.get? b = some o → H b = none → h'.get? b = some o)
    (slot : ∀ b o, b ≠ X.env.locals → b ∈ X.fs → b ∉ ch → s.heap.get? b = some o → H b = none → ∃ sl, h'.get? b = some { o with slots := sl }) (free : ∀ b o, b ∉ ch → s.heap.get? b = some o → H b = none → H' b = none)
    (there : ∀ b o, b ∉ ch → s.heap.get? b = some o → ∃ o', h'.get? b = some o')
    (tups : ∀ b xs, H b = some (.tup xs) → H' b = some (.tup xs)) (frzs : ∀ b o u, H b = some (.frz o u) → H' b = some (.frz o u)) (tbls : ∀ b ps, H b = some (.tbl ps) → ∃ more, H' b = some (.tbl (ps ++ more)))
    (ns : ∀ m, s.heap.Ns X.env.locals m → h'.Ns X.env.locals m) (hok : HOk X.prog X.w H' h') (hg : AllBare g') :
    Inv X pins σ H' { s with heap := h', gens := g', drawn := d', toks := t' } := by
  have neL : ∀ b o, X.s₀.heap.get? b = some o → b ≠ X.env.locals := fun b o e => Nat.ne_of_lt (Nat.lt_of_lt_of_le (Heap.lt_size e) I.ok.above)
  have neC : ∀ b o, X.s₀.heap.get? b = some o → b ∉ X.ex → b ∉ ch := fun b o e hx hb => by
    rcases (hch b hb).1 with z | z
    · exact hx z
    · exact absurd (Nat.lt_of_lt_of_le (Heap.lt_size e) z) (Nat.lt_irrefl _)
  have cellK : ∀ x c, X.env.cells.lookup x = some c → ∀ v, s.heap.IsCell c v → h'.IsCell c v := fun x c e v ⟨o, ho, hd⟩ => by
    have nch : c ∉ ch := fun z => (hch c z).2.2.1 x c e rfl
    by_cases hc : c ∈ X.fs
    · obtain ⟨sl, q⟩ := slot c o (I.cne x c e) hc nch ho (I.freeC x c e)
      exact ⟨_, q, hd⟩
    · exact ⟨o, keep c o (I.cne x c e) hc nch ho (I.freeC x c e), hd⟩
  refine ⟨I.ok, I.os, hg, ⟨fun b o e n hb hx => ?_, fun b o e n hb hx => ?_, fun b o e n hx => ?_, fun b o e hx => ?_, fun b xs e => tups b xs (I.base.tups b xs e), fun b o xs e => frzs b o xs (I.base.frzs b o xs e), fun b ps e => ?_⟩, ?_, fun x c e => ?_, ?_, fun x c e => ?_, fun p hp => ?_, hok, I.len⟩
  · exact keep b o (neL b o e) hb (neC b o e hx) (I.base.keep b o e n hb hx) (I.base.free b o e n hx)
  · obtain ⟨sl, e1⟩ := I.base.slot b o e n hb hx
    obtain ⟨sl', e2⟩ := slot b _ (neL b o e) hb (neC b o e hx) e1 (I.base.free b o e n hx)
    exact ⟨sl', e2⟩
  · obtain ⟨o', e1⟩ := I.base.there b o e hx
    exact free b o' (neC b o e hx) e1 (I.base.free b o e n hx)
  · obtain ⟨o', e1⟩ := I.base.there b o e hx
    exact there b o' (neC b o e hx) e1
  · obtain ⟨m1, e1⟩ := I.base.tbls b ps e
    obtain ⟨m2, e2⟩ := tbls b _ e1
    exact ⟨m1 ++ m2, by rw [e2, Array.append_assoc]⟩
  · obtain ⟨m, hn, hl⟩ := I.loc
    refine ⟨m, ns m hn, fun i x v e1 e2 e3 => ?_⟩
    obtain ⟨u, r, l⟩ := hl i x v e1 e2 e3
    refine ⟨u, r, ?_⟩
    rcases l with l | ⟨k, c, e, z⟩
    · exact .inl l
    · exact .inr ⟨k, c, e, cellK x c e _ z⟩
  · obtain ⟨v, z⟩ := I.cell x c e
    exact ⟨v, cellK x c e v z⟩
  · obtain ⟨m, ⟨o, _, _, ho, _⟩, _⟩ := I.loc
    exact free _ o (fun z => (hch _ z).2.1 rfl) ho I.free
  · obtain ⟨v, o, ho, hd⟩ := I.cell x c e
    exact free c o (fun z => (hch c z).2.2.1 x c e rfl) ho (I.freeC x c e)
  · obtain ⟨e, n, ne, nf, d⟩ := I.pin p hp
    have nch : p.1 ∉ ch := fun z => (hch p.1 z).2.2.2 p hp rfl
    exact ⟨keep p.1 p.2 ne nf nch e n, free p.1 p.2 nch e n, ne, nf, d⟩
theorem Inv.un {t' : Nat} (I : Inv X pins σ H s) (u : Un X.fs [] H H' s.heap h') (hok : HOk X.prog X.w H' h') : Inv X pins σ H' { s with heap := h', toks := t' } := by
  obtain ⟨m, ⟨o, es, ep, ho, r⟩, _⟩ := id I.loc
  obtain ⟨sl, hL⟩ := u.any ho I.free (by simp)
  exact I.step (g' := s.gens) (d' := s.drawn) (ch := []) (fun _ z => nomatch z) (fun b o _ hb _ e n => u.keep b o e n hb (by simp)) (fun b o _ hb _ e n => u.slot b o e n hb (by simp)) (fun b o _ e n => u.free b o e n (by simp)) (fun b o _ e => u.there b o e (by simp)) u.tups u.frzs u.tbls (fun m' hm => by
    obtain ⟨o', es', ep', ho', r'⟩ := hm
    rw [ho] at ho'; cases ho'
    exact ⟨_, es', ep', hL, r'⟩) hok I.bare
theorem Inv.call {g' : Array GenState} {t' : Nat} {d' : Drawn} {ch : List Addr} (I : Inv X pins σ H s) (u : Un (frs X.stack) ch H H' s.heap h') (hok : HOk X.prog X.w H' h') (hg : AllBare g')
    (hch : ∀ b ∈ ch, (b ∈ X.ex ∨ X.s₀.heap.objs.size ≤ b) ∧ b ≠ X.env.locals ∧ (∀ x c, X.env.cells.lookup x = some c → c ≠ b) ∧ ∀ p ∈ X.pn ++ pins, p.1 ≠ b) :
    Inv X pins σ H' { s with heap := h', gens := g', drawn := d', toks := t' } := by
  obtain ⟨m, ⟨o, es, ep, ho, r⟩, _⟩ := id I.loc
  obtain ⟨sl, hL⟩ := u.any ho I.free fun z => (hch _ z).2.1 rfl
  exact I.step (ch := ch) hch (fun b o hL hb hc e n => u.keep b o e n (fun z => (List.mem_cons.mp (I.stkSub b z)).elim hL hb) hc) (fun b o _ _ hc e n => u.any e n hc) (fun b o hc e n => u.free b o e n hc) (fun b o hc e => u.there b o e hc) u.tups u.frzs u.tbls (fun m' hm => by
    obtain ⟨o', es', ep', ho', r'⟩ := hm
    rw [ho] at ho'; cases ho'
    exact ⟨_, es', ep', hL, r'⟩) hok hg
theorem Inv.turned {t' : Nat} {it : Addr} (I : Inv X pins σ H s) (k : ∀ b o, b ≠ it → s.heap.get? b = some o → h'.get? b = some o) (hn : H it = none) (hL : it ≠ X.env.locals)
    (h1 : it ∈ X.ex ∨ X.s₀.heap.objs.size ≤ it) (h2 : ∀ x c, X.env.cells.lookup x = some c → c ≠ it) (h3 : ∀ p ∈ X.pn ++ pins, p.1 ≠ it) : Inv X pins σ H { s with heap := h', toks := t' } := by
  have nit : ∀ b u, H b = some u → b ≠ it := fun b u e z => by rw [z, hn] at e; cases e
  refine I.step (g' := s.gens) (d' := s.drawn) (ch := [it]) (fun b hb => ?_) (fun b o _ _ hc e _ => k b o (fun z => hc (by simp [z])) e) (fun b o _ _ hc e _ => ⟨o.slots, k b o (fun z => hc (by simp [z])) e⟩) (fun _ _ _ _ n => n)
    (fun b o hc e => ⟨o, k b o (fun z => hc (by simp [z])) e⟩) (fun _ _ e => e) (fun _ _ _ e => e) (fun b ps e => ⟨#[], by rw [e]; simp⟩) (fun m hm => ?_) (fun b u e => ?_) I.bare
  · have e : b = it := by simpa using hb
    subst e
    exact ⟨h1, hL, h2, h3⟩
  · obtain ⟨o, es, ep, ho, r⟩ := hm
    exact ⟨o, es, ep, k _ o (Ne.symm hL) ho, r⟩
  · refine (I.hok b u e).stay (fun c v hc q => k c v ?_ q) (fun _ q => q) fun _ _ q => q
    rcases hc with z | z
    · rw [z]; exact nit b u e
    · exact nit c _ z
theorem Inv.tok (I : Inv X pins σ H s) (t : Nat) : Inv X pins σ H { s with toks := t } := I.un (h' := s.heap) (t' := t) Un.refl I.hok
theorem Inv.kept {t' : Nat} (I : Inv X pins σ H s) (k : ∀ b u, s.heap.get? b = some u → h'.get? b = some u) : Inv X pins σ H { s with heap := h', toks := t' } := I.un (Un.kept k) (I.hok.kept k)
theorem Inv.laid {a : Addr} {o : HO} {t' : Nat} (I : Inv X pins σ H s) (k : ∀ b u, s.heap.get? b = some u → h'.get? b = some u) (hp : s.heap.objs.size ≤ a) (new : ObjOk X.prog X.w (upd H a o) h' a o) :
    Inv X pins σ (upd H a o) { s with heap := h', toks := t' } := I.un (Un.laid k hp (I.hok.fresh hp)) (I.hok.laid k hp new)
theorem Inv.write {x e : Addr} {o : HO} {t' : Nat} (I : Inv X pins σ H s) (mu : Mut (H x)) (he : e = x ∨ H e = some (.own x)) (k : ∀ b u, b ≠ e → s.heap.get? b = some u → h'.get? b = some u) (heo : ∃ u, h'.get? e = some u)
    (new : ObjOk X.prog X.w (upd H x o) h' x o) : Inv X pins σ (upd H x o) { s with heap := h', toks := t' } := I.un (Un.write mu he k heo) (I.hok.write mu he k heo new)
theorem Inv.weak {σ' : List (Option V)} (I : Inv X pins σ H s) (hl : σ'.length = σ.length) (w : ∀ (i : Nat) v, σ'[i]? = some (some v) → σ[i]? = some (some v)) : Inv X pins σ' H s :=
  ⟨I.ok, I.os, I.bare, I.base, let ⟨m, hn, hl'⟩ := I.loc; ⟨m, hn, fun i x v e1 e2 e3 => hl' i x v e1 (w i v e2) e3⟩, I.cell, I.free, I.freeC, I.pin, I.hok, hl.trans I.len⟩
def Calm (X : Cx) : Prop := X.calm = true ∨ ∃ (ea C : Addr) (dx : Option Addr) (vs : Array Value) (sl : Array (Option Value)), X.A.handled = some (.ref ea) ∧ vs[2]? = some Value.none ∧ (ea, (⟨.ref C, dx, .fields vs, sl⟩ : Obj)) ∈ X.pn
theorem calm0 {X : Cx} (h : X.calm = true) : Calm X := .inl h
theorem Inv.calm (I : Inv X pins σ H s) (c : Calm X) : Hd X.A s.heap := by
  rcases c with c | ⟨ea, C, dx, vs, sl, h1, h2, h3⟩
  · exact .inl (I.ok.hd c)
  · exact .inr ⟨ea, C, dx, vs, sl, h1, (I.pin _ (List.mem_append_left _ h3)).1, h2⟩
theorem Inv.pins_of {pins' : List (Addr × Obj)} (I : Inv X pins σ H s) (h : ∀ p ∈ pins', s.heap.get? p.1 = some p.2 ∧ H p.1 = none ∧ p.1 ≠ X.env.locals ∧ p.1 ∉ X.fs ∧ ∀ v, p.2.data ≠ .cell v) : Inv X pins' σ H s :=
  ⟨I.ok, I.os, I.bare, I.base, I.loc, I.cell, I.free, I.freeC, fun p hp => (List.mem_append.mp hp).elim (fun z => I.pin p (List.mem_append_left _ z)) (h p), I.hok, I.len⟩
theorem nodup_ix {N : List Str} (hN : N.Nodup) {i j : Nat} {x : Str} (a : N[i]? = some x) (b : N[j]? = some x) : i = j := by
  obtain ⟨h1, e1⟩ := List.getElem?_eq_some_iff.mp a
  obtain ⟨h2, e2⟩ := List.getElem?_eq_some_iff.mp b
  exact (List.getElem_inj hN).mp (e1.trans e2.symm)
theorem store_ok2 {M : Model} {A : Around} {E : Value → Shared → Prop} {i : Nat} {x : Str} {v : V} {u : Value} {Q : Unit → Shared → Prop} (I : Inv X pins σ H s) (hN : X.N.Nodup) (hi : X.N[i]? = some x) (hx : Loc X.env.scope x) (r : RelV v u)
    (h : ∀ s', Inv X pins (σ.set i (some v)) H s' → (∃ a, Heap.SameBut a s.heap s'.heap ∧ (a = X.env.locals ∨ X.env.cells.lookup x = some a)) → Q () s') (hf : X.fn x = true ∨ X.env.scope.names.lookup x = some .local := by first | exact .inl rfl | exact .inr rfl | assumption) : wpAny M A (storeName X.env x u) Q E s := by
  obtain ⟨m, hn, hl⟩ := id I.loc
  have hcls : (X.env.scope.kind == .class || (X.env.scope.kind == .module && X.env.locals != X.env.globals)) = false := by rw [I.ok.kind]; rfl
  have hiσ : i < σ.length := by rw [I.len]; exact (List.getElem?_eq_some_iff.mp hi).1
  have cne := I.cne
  have tracked : ∀ {a : Addr} {h' : Heap}, (∃ o, s.heap.get? a = some o ∧ H a = none) → Heap.SameBut a s.heap h' → HOk X.prog X.w H h' := fun {a h'} ha hs b ob e => by
    obtain ⟨_, _, hfree⟩ := ha
    refine (I.hok b ob e).stay (fun c w' hc q => (hs.2 c ?_).trans q) (fun _ q => q) fun _ _ q => q
    rintro rfl
    rcases hc with rfl | hc
    · rw [hfree] at e; cases e
    · rw [hfree] at hc; cases hc
  rcases hx with hk | hk
  · refine wpAny_storeName_local hk hn (fun h' hn' hs => ?_) hcls
    obtain ⟨oL, _, _, hoL, _⟩ := id hn
    refine h _ ⟨I.ok, I.os, I.bare, ⟨fun b o e n hb hx => ?_, fun b o e n hb hx => ?_, I.base.free, fun b o e hx => ?_, I.base.tups, I.base.frzs, I.base.tbls⟩, ⟨_, hn', fun j y v' e1 e2 e3 => ?_⟩, fun y c e => ?_, I.free, I.freeC, fun p hp => ?_, tracked ⟨oL, hoL, I.free⟩ hs, by simpa using I.len⟩ ⟨_, hs, .inl rfl⟩
    · exact (hs.2 b (Nat.ne_of_lt (Nat.lt_of_lt_of_le (Heap.lt_size e) I.ok.above))).trans (I.base.keep b o e n hb hx)
    · obtain ⟨sl, e1⟩ := I.base.slot b o e n hb hx
      exact ⟨sl, (hs.2 b (Nat.ne_of_lt (Nat.lt_of_lt_of_le (Heap.lt_size e) I.ok.above))).trans e1⟩
    · obtain ⟨o', e1⟩ := I.base.there b o e hx
      exact ⟨o', (hs.2 b (Nat.ne_of_lt (Nat.lt_of_lt_of_le (Heap.lt_size e) I.ok.above))).trans e1⟩
    · by_cases hj : j = i
      · subst hj
        rw [hi] at e1; cases e1
        rw [List.getElem?_set_self hiσ] at e2
        cases e2
        exact ⟨u, r, .inl ⟨hk, by simp⟩⟩
      · rw [List.getElem?_set_ne (Ne.symm hj)] at e2
        obtain ⟨u', r', q⟩ := hl j y v' e1 e2 e3
        refine ⟨u', r', ?_⟩
        rcases q with ⟨k, e⟩ | ⟨k, c, e, z⟩
        · refine .inl ⟨k, ?_⟩
          have : y ≠ x := fun e => hj (nodup_ix hN e1 (e ▸ hi))
          simp [this, e]
        · exact .inr ⟨k, c, e, z.sameBut hs (cne y c e)⟩
    · obtain ⟨w', z⟩ := I.cell y c e
      exact ⟨w', z.sameBut hs (cne y c e)⟩
    · obtain ⟨e, n, ne, nf, d⟩ := I.pin p hp
      exact ⟨(hs.2 p.1 ne).trans e, n, ne, nf, d⟩
  · have hfn : X.fn x = true := by
      rcases hf with z | z
      · exact z
      · rw [z] at hk; cases hk
    obtain ⟨c, hc⟩ := I.ok.has x (.inl hk)
    obtain ⟨w', z⟩ := I.cell x c hc
    refine wpAny_storeName_cell I.ok.kind hk hc z (fun h' hc' hs => ?_)
    obtain ⟨oc, hoc, hocd⟩ := id z
    refine h { s with heap := h' } ⟨I.ok, I.os, I.bare, ⟨fun b o e n hb hx => ?_, fun b o e n hb hx => ?_, I.base.free, fun b o e hx => ?_, I.base.tups, I.base.frzs, I.base.tbls⟩, ⟨m, hn.sameBut hs (Ne.symm (cne x c hc)), fun j y v' e1 e2 e3 => ?_⟩, fun y c' e => ?_, I.free, I.freeC, fun p hp => ?_, tracked ⟨oc, hoc, I.freeC x c hc⟩ hs, by simpa using I.len⟩ ⟨c, hs, .inr hc⟩
    · exact (hs.2 b (Nat.ne_of_lt (Nat.lt_of_lt_of_le (Heap.lt_size e) (I.ok.cab x c hfn hc)))).trans (I.base.keep b o e n hb hx)
    · obtain ⟨sl, e1⟩ := I.base.slot b o e n hb hx
      exact ⟨sl, (hs.2 b (Nat.ne_of_lt (Nat.lt_of_lt_of_le (Heap.lt_size e) (I.ok.cab x c hfn hc)))).trans e1⟩
    · obtain ⟨o', e1⟩ := I.base.there b o e hx
      exact ⟨o', (hs.2 b (Nat.ne_of_lt (Nat.lt_of_lt_of_le (Heap.lt_size e) (I.ok.cab x c hfn hc)))).trans e1⟩
    · by_cases hj : j = i
      · subst hj
        rw [hi] at e1; cases e1
        rw [List.getElem?_set_self hiσ] at e2
        cases e2
        exact ⟨u, r, .inr ⟨.inl hk, c, hc, hc'⟩⟩
      · rw [List.getElem?_set_ne (Ne.symm hj)] at e2
        obtain ⟨u', r', q⟩ := hl j y v' e1 e2 e3
        refine ⟨u', r', ?_⟩
        rcases q with q | ⟨k, c', e, z'⟩
        · exact .inl q
        · refine .inr ⟨k, c', e, z'.sameBut hs ?_⟩
          rintro rfl
          exact hj (nodup_ix hN e1 (I.ok.inj _ _ _ e hc ▸ hi))
    · by_cases hcc : c' = c
      · subst hcc; exact ⟨_, hc'⟩
      · obtain ⟨w2, z2⟩ := I.cell y c' e
        exact ⟨w2, z2.sameBut hs hcc⟩
    · obtain ⟨e, n, ne, nf, d⟩ := I.pin p hp
      refine ⟨(hs.2 p.1 ?_).trans e, n, ne, nf, d⟩
      intro q
      rw [q, hoc] at e
      have q' : oc = p.2 := Option.some.inj e
      exact d w' (by rw [← q']; exact hocd)
theorem store_ok {M : Model} {A : Around} {E : Value → Shared → Prop} {i : Nat} {x : Str} {v : V} {u : Value} {Q : Unit → Shared → Prop} (I : Inv X pins σ H s) (hN : X.N.Nodup) (hi : X.N[i]? = some x) (hx : Loc X.env.scope x) (r : RelV v u)
    (h : ∀ s', Inv X pins (σ.set i (some v)) H s' → Q () s') (hf : X.fn x = true ∨ X.env.scope.names.lookup x = some .local := by first | exact .inl rfl | exact .inr rfl | assumption) : wpAny M A (storeName X.env x u) Q E s :=
  store_ok2 I hN hi hx r (fun s' I' _ => h s' I') hf
theorem Inv.call' {s' : Shared} {ch : List Addr} (I : Inv X pins σ H s) (ho : s'.os = s.os) (u : Un (frs X.stack) ch H H' s.heap s'.heap) (hok : HOk X.prog X.w H' s'.heap) (hg : AllBare s'.gens)
    (hch : ∀ b ∈ ch, (b ∈ X.ex ∨ X.s₀.heap.objs.size ≤ b) ∧ b ≠ X.env.locals ∧ (∀ x c, X.env.cells.lookup x = some c → c ≠ b) ∧ ∀ p ∈ X.pn ++ pins, p.1 ≠ b) : Inv X pins σ H' s' := by
  obtain ⟨h', g', d', t', o'⟩ := s'
  have e : o' = s.os := ho
  subst e
  exact I.call (g' := g') (t' := t') (d' := d') u hok hg hch
end
abbrev XK := Value → Option Addr → Hp → Prop
abbrev St := List (Option V)
abbrev VK := V → Hp → Prop
abbrev TE := St → Hp → VK → Prop
abbrev TT := St → Hp → (Bool → Hp → Prop) → Prop
abbrev TA := St → Hp → (List V → Hp → Prop) → Prop
structure Ends where
  nx : St → Hp → Prop
  rt : VK
  bk : St → Hp → Prop := fun _ _ => False
  ct : St → Hp → Prop := fun _ _ => False
abbrev TS := Ends → St → Hp → Prop
def EP (X : Cx) (pins : List (Addr × Obj)) (σ : St) (Q : VK) (u : Value) (s' : Shared) : Prop := ∃ v H', Inv X pins σ H' s' ∧ RelV v u ∧ Q v H'
def TP (X : Cx) (pins : List (Addr × Obj)) (σ : St) (Q : Bool → Hp → Prop) (b : Bool) (s' : Shared) : Prop := ∃ H', Inv X pins σ H' s' ∧ Q b H'
def AP (X : Cx) (pins : List (Addr × Obj)) (σ : St) (Q : List V → Hp → Prop) (us : List Value) (s' : Shared) : Prop := ∃ vs H', Inv X pins σ H' s' ∧ Vals vs us ∧ Q vs H'
def SP (X : Cx) (pins : List (Addr × Obj)) (D : Ends) (f : Flow) (s' : Shared) : Prop :=
  match f with
  | .next => ∃ σ' H', Inv X pins σ' H' s' ∧ D.nx σ' H'
  | .brk => ∃ σ' H', Inv X pins σ' H' s' ∧ D.bk σ' H'
  | .cont => ∃ σ' H', Inv X pins σ' H' s' ∧ D.ct σ' H'
  | .ret u => ∃ v σ' H', Inv X pins σ' H' s' ∧ RelV v u ∧ D.rt v H'
def PE (X : Cx) (e : Expr) (t : TE) : Prop :=
  ∀ (pins : List (Addr × Obj)) (s : Shared) (σ : St) (H : Hp) (Q : VK), Inv X pins σ H s → t σ H Q → wpAny (model X.prog X.w) X.A (eval e X.env) (EP X pins σ Q) X.xe s
def PT (X : Cx) (e : Expr) (t : TT) : Prop :=
  ∀ (pins : List (Addr × Obj)) (s : Shared) (σ : St) (H : Hp) (Q : Bool → Hp → Prop), Inv X pins σ H s → t σ H Q → wpAny (model X.prog X.w) X.A (isTrue e X.env (eval e X.env)) (TP X pins σ Q) X.xe s
def PW (X : Cx) (e : Expr) (t : TT) : Prop :=
  ∀ (whole : Sem Value) (pins : List (Addr × Obj)) (s : Shared) (σ : St) (H : Hp) (Q : Bool → Hp → Prop), Inv X pins σ H s → t σ H Q → wpAny (model X.prog X.w) X.A (isTrue e X.env whole) (TP X pins σ Q) X.xe s
theorem PW.pt {X : Cx} {e : Expr} {t : TT} (h : PW X e t) : PT X e t := h _
def PA (X : Cx) (es : List Expr) (t : TA) : Prop :=
  ∀ (pos : Pos) (pins : List (Addr × Obj)) (s : Shared) (σ : St) (H : Hp) (Q : List V → Hp → Prop), Inv X pins σ H s → t σ H Q → wpAny (model X.prog X.w) X.A (spliced (backTo pos (starEach es X.env))) (AP X pins σ Q) X.xe s
def PS (X : Cx) (st : Stmt) (t : TS) : Prop :=
  ∀ (pins : List (Addr × Obj)) (s : Shared) (σ : St) (H : Hp) (D : Ends), Inv X pins σ H s → t D σ H → wpAny (model X.prog X.w) X.A (exec st X.env) (SP X pins D) X.xe s
def PSs (X : Cx) (st : List Stmt) (t : TS) : Prop :=
  ∀ (pins : List (Addr × Obj)) (s : Shared) (σ : St) (H : Hp) (D : Ends), Inv X pins σ H s → t D σ H → wpAny (model X.prog X.w) X.A (execs st X.env) (SP X pins D) X.xe s
theorem thn {α : Type} {t : Sem α} {Q Q' : α → Shared → Prop} {M : Model} {A : Around} {E : Value → Shared → Prop} {s : Shared} (h : wpAny M A t Q E s) (hQ : ∀ a s, Q a s → Q' a s) : wpAny M A t Q' E s := wpAny_mono h hQ fun _ _ x => x
end L2
namespace L2
open PySem PySem.Spec PyProof.Rows
section
variable {X : Cx}
def tVar (i : Nat) : TE := fun σ H Q => ∃ v, σ[i]? = some (some v) ∧ Q v H
def tC (v : V) : TE := fun _ H Q => Q v H
theorem pe_var {i : Nat} {x : Str} {pos : Pos} (hN : X.N[i]? = some x) (hv : Vis X.env.scope x) (hd : (x == ("__debug__" : Str)) = false := by decide) (hcd : (x == ("__classdict__" : Str)) = false := by decide) : PE X (.Name x pos) (tVar i) := by
  intro pins s σ H Q I h
  obtain ⟨v, e, h⟩ := h
  obtain ⟨m, hn, hl⟩ := I.loc
  obtain ⟨u, r, l⟩ := hl i x v hN e hv
  have fin : EP X pins σ Q u s := ⟨v, H, I, r, h⟩
  rcases l with ⟨hk, hm⟩ | ⟨hk, c, hc, hcell⟩
  · exact wpAny_Name (wpAny_loadName_local I.ok.kind hk hn hm fin) hd
  · rcases hk with hk | hk
    · exact wpAny_Name (wpAny_loadName_cell I.ok.kind hk hc hcell fin) hd
    · exact wpAny_Name (wpAny_loadName_free I.ok.kind hk hc hcell fin hcd) hd
theorem pe_int {i j pos} : PE X (.Constant (.int i) j pos) (tC (.int i)) := fun _ _ _ H _ I h => wpAny_Constant_int ⟨.int i, H, I.tok _, ⟨_, rfl⟩, h⟩
theorem pe_bl {b j pos} : PE X (.Constant (.bool b) j pos) (tC (.bl b)) := fun _ _ _ H _ I h => Constant_bool ⟨.bl b, H, I, rfl, h⟩
theorem pe_non {j pos} : PE X (.Constant .none j pos) (tC .non) := fun _ _ _ H _ I h => Constant_none ⟨.non, H, I, rfl, h⟩
theorem pe_str {x j pos} : PE X (.Constant (.str x) j pos) (tC (.str x)) := fun _ _ _ H _ I h => Calls.Constant_str ⟨.str x, H, I.tok _, ⟨_, rfl⟩, h⟩
def Gl (X : Cx) (x : Str) : Prop := X.env.kindOf x = some .globalImplicit
theorem ld_glob {E : Value → Shared → Prop} {pins : List (Addr × Obj)} {s : Shared} {σ : St} {H : Hp} {x : Str} {u : Value} {pos : Pos} {Q : Value → Shared → Prop} (I : Inv X pins σ H s) (hg : Gl X x) (hm : X.mg x = some u) (h : Q u s)
    (hd : (x == ("__debug__" : Str)) = false := by decide) : wpAny (model X.prog X.w) X.A (eval (.Name x pos) X.env) Q E s :=
  Calls.Name_function_global I.ok.kind hg (Calls.loadGlobal_global (by rw [I.ok.glob]; exact I.mod.glob.keeps I.bk) hm h) hd
theorem ld_blt {E : Value → Shared → Prop} {pins : List (Addr × Obj)} {s : Shared} {σ : St} {H : Hp} {x : Str} {u : Value} {pos : Pos} {Q : Value → Shared → Prop} (I : Inv X pins σ H s) (hg : Gl X x) (hm : X.mg x = none) (hv : bootBuiltins x = some u) (h : Q u s)
    (hn : x ≠ "__name__" := by decide) (hd : (x == ("__debug__" : Str)) = false := by decide) : wpAny (model X.prog X.w) X.A (eval (.Name x pos) X.env) Q E s := by
  obtain ⟨mb, h1, h2⟩ := I.mod.blt
  exact Calls.Name_function_global I.ok.kind hg (Calls.loadGlobal_builtin (by rw [I.ok.glob]; exact I.mod.glob.keeps I.bk) hm (by rw [I.ok.blt]; exact h1.keeps I.bk) ((h2 x hn).trans hv) h) hd
theorem pe_glob {x : Str} {v : V} {u : Value} {pos : Pos} (hg : Gl X x) (hm : X.mg x = some u) (r : RelV v u) (hd : (x == ("__debug__" : Str)) = false := by decide) : PE X (.Name x pos) (tC v) :=
  fun _ _ _ H _ I h => ld_glob I hg hm ⟨v, H, I, r, h⟩ hd
theorem pe_bltn {x : Str} {v : V} {u : Value} {pos : Pos} (hg : Gl X x) (hm : X.mg x = none) (hv : bootBuiltins x = some u) (r : RelV v u) (hn : x ≠ "__name__" := by decide) (hd : (x == ("__debug__" : Str)) = false := by decide) : PE X (.Name x pos) (tC v) :=
  fun _ _ _ H _ I h => ld_blt I hg hm hv ⟨v, H, I, r, h⟩ hn hd
variable {a b : Expr} {ta tb : TE} {pos : Pos}
def tB (t : TE) : TT := fun σ H Q => t σ H fun x H1 => ∃ c, x = .bl c ∧ Q c H1
theorem pt_val {e : Expr} {t : TE} (h : PE X e t) (he : ∀ whole, isTrue e X.env whole = (do let v ← whole; standAt e.pos; holding [v] (truthy v)) := by intro _; rfl) : PT X e (tB t) := by
  intro pins s σ H Q I hw
  refine isTrue_plain (thn (h pins s σ H _ I hw) fun v s1 ⟨x, H1, I1, r1, q1⟩ => ?_) (he _)
  obtain ⟨d, rfl, q⟩ := q1
  cases r1
  exact wpAny_truthy_bool ⟨H1, I1, q⟩
variable {tA tB' : TT} {rest : List Expr}
def tAnd (t u : TT) : TT := fun σ H Q => t σ H fun c H1 => if c = true then u σ H1 Q else Q false H1
def tOr (t u : TT) : TT := fun σ H Q => t σ H fun c H1 => if c = true then Q true H1 else u σ H1 Q
def tNot (t : TT) : TT := fun σ H Q => t σ H fun c H1 => Q (!c) H1
theorem pw_and1 (ha : PT X a tA) : PW X (.BoolOp .And [a] pos) tA := by
  intro wh pins s σ H Q I h
  refine isTrue_and (thn (ha pins s σ H Q I h) fun c s1 e => ?_)
  cases c with
  | true => exact isTrue_and_nil e
  | false => exact e
theorem pw_or1 (ha : PT X a tA) : PW X (.BoolOp .Or [a] pos) tA := by
  intro wh pins s σ H Q I h
  refine isTrue_or (thn (ha pins s σ H Q I h) fun c s1 e => ?_)
  cases c with
  | false => exact isTrue_or_nil e
  | true => exact e
theorem pw_and (ha : PT X a tA) (hb : PW X (.BoolOp .And (b :: rest) pos) tB') : PW X (.BoolOp .And (a :: b :: rest) pos) (tAnd tA tB') := by
  intro wh pins s σ H Q I h
  refine isTrue_and (thn (ha pins s σ H _ I h) fun c s1 ⟨H1, I1, q1⟩ => ?_)
  cases c with
  | true => exact hb wh pins s1 σ H1 Q I1 q1
  | false => exact ⟨H1, I1, q1⟩
theorem pw_or (ha : PT X a tA) (hb : PW X (.BoolOp .Or (b :: rest) pos) tB') : PW X (.BoolOp .Or (a :: b :: rest) pos) (tOr tA tB') := by
  intro wh pins s σ H Q I h
  refine isTrue_or (thn (ha pins s σ H _ I h) fun c s1 ⟨H1, I1, q1⟩ => ?_)
  cases c with
  | true => exact ⟨H1, I1, q1⟩
  | false => exact hb wh pins s1 σ H1 Q I1 q1
theorem pt_not (ha : PT X a tA) : PT X (.UnaryOp .Not a pos) (tNot tA) := by
  intro pins s σ H Q I h
  exact isTrue_not (ha pins s σ H (fun c H1 => Q (!c) H1) I h)
def tAndV (ta tb : TE) : TE := fun σ H Q => ta σ H fun x H1 => ∃ c, x = .bl c ∧ if c = true then tb σ H1 Q else Q (.bl false) H1
def tOrV (ta tb : TE) : TE := fun σ H Q => ta σ H fun x H1 => ∃ c, x = .bl c ∧ if c = true then Q (.bl true) H1 else tb σ H1 Q
def tNotV (ta : TE) : TE := fun σ H Q => ta σ H fun x H1 => ∃ c, x = .bl c ∧ Q (.bl (!c)) H1
theorem pe_one {op} {t : TE} (h : PE X a t) : PE X (.BoolOp op [a] pos) t := fun pins s σ H Q I hw => BoolOp_one (h pins s σ H Q I hw)
theorem pe_and (ha : PE X a ta) (hb : PE X (.BoolOp .And (b :: rest) pos) tb) : PE X (.BoolOp .And (a :: b :: rest) pos) (tAndV ta tb) := by
  intro pins s σ H Q I h
  refine BoolOp_and (thn (ha pins s σ H _ I h) fun v s1 ⟨x, H1, I1, r1, q1⟩ => ?_)
  obtain ⟨c, rfl, q1⟩ := q1
  cases r1
  refine wpAny_truthy_bool ?_
  cases c with
  | true => exact hb pins s1 σ H1 Q I1 q1
  | false => exact ⟨.bl false, H1, I1, rfl, q1⟩
theorem pe_or (ha : PE X a ta) (hb : PE X (.BoolOp .Or (b :: rest) pos) tb) : PE X (.BoolOp .Or (a :: b :: rest) pos) (tOrV ta tb) := by
  intro pins s σ H Q I h
  refine BoolOp_or (thn (ha pins s σ H _ I h) fun v s1 ⟨x, H1, I1, r1, q1⟩ => ?_)
  obtain ⟨c, rfl, q1⟩ := q1
  cases r1
  refine wpAny_truthy_bool ?_
  cases c with
  | false => exact hb pins s1 σ H1 Q I1 q1
  | true => exact ⟨.bl true, H1, I1, rfl, q1⟩
theorem pe_not (ha : PE X a ta) : PE X (.UnaryOp .Not a pos) (tNotV ta) := by
  intro pins s σ H Q I h
  refine UnaryOp_ (thn (ha pins s σ H _ I h) fun v s1 ⟨x, H1, I1, r1, q1⟩ => ?_)
  obtain ⟨c, rfl, q1⟩ := q1
  cases r1
  exact not_of (wpAny_truthy_bool ⟨.bl (!c), H1, I1, rfl, q1⟩)
def tIf (t : TT) (ta tb : TE) : TE := fun σ H Q => t σ H fun c H1 => if c = true then ta σ H1 Q else tb σ H1 Q
theorem pe_ifExp {c : Expr} (hc : PT X c tA) (ha : PE X a ta) (hb : PE X b tb) : PE X (.IfExp c a b pos) (tIf tA ta tb) := by
  intro pins s σ H Q I h
  refine wpAny_IfExp (thn (hc pins s σ H _ I h) fun d s1 ⟨H1, I1, q1⟩ => ?_)
  cases d with
  | true => exact ha pins s1 σ H1 Q I1 q1
  | false => exact hb pins s1 σ H1 Q I1 q1
end
end L2
namespace L2
open PySem PySem.Spec PyProof.Rows
def SqL (K : PySem.W.Frag) (H : Hp) (a : Addr) (xs : List V) : Prop :=
  Rd H a (.lst xs) ∨
    ∃ (o : Obj) (its : Array Value) (n : Nat), K.lookup a = some o ∧ o.cls = .type "list" ∧ o.dict = none ∧ o.data = .seq its n ∧ its.size ≤ sizeLine ∧ Vals xs its.toList
def SqT (K : PySem.W.Frag) (H : Hp) (a : Addr) (xs : List V) : Prop :=
  Rd H a (.tup xs) ∨
    ∃ (o : Obj) (its : Array Value) (n : Nat), K.lookup a = some o ∧ o.cls = .type "tuple" ∧ o.data = .seq its n ∧ its.size ≤ sizeLine ∧ Vals xs its.toList
def absV : Value → Option V
  | .none => some .non
  | .bool b => some (.bl b)
  | .int i _ => some (.int i)
  | .str x _ => some (.str x)
  | .bytes b _ => some (.byt b)
  | .float b _ => some (.flt b)
  | .ref a => some (.ref a)
  | .type n => some (.ty n)
  | _ => none
theorem RelV.abs {x : V} {u : Value} (r : RelV x u) : absV u = some x := by
  cases x with
  | non => cases r; rfl
  | bl _ => cases r; rfl
  | int _ => obtain ⟨t, rfl⟩ := r; rfl
  | str _ => obtain ⟨t, rfl⟩ := r; rfl
  | byt _ => obtain ⟨t, rfl⟩ := r; rfl
  | flt _ => obtain ⟨t, rfl⟩ := r; rfl
  | ref _ => cases r; rfl
  | ty _ => cases r; rfl
theorem RelV.inj {x y : V} {u : Value} (r : RelV x u) (q : RelV y u) : x = y := Option.some.inj (r.abs.symm.trans q.abs)
theorem Vals.inj : ∀ {xs ys : List V} {us : List Value}, Vals xs us → Vals ys us → xs = ys
  | _, _, _, .nil, .nil => rfl
  | _, _, _, .cons r t, .cons r' t' => by rw [r.inj r', Vals.inj t t']
section
variable {X : Cx} {pins : List (Addr × Obj)} {σ : St} {H : Hp} {s : Shared} {a : Addr} {xs ys : List V}
theorem SqL.of {K : PySem.W.Frag} (h : H a = some (.lst xs)) : SqL K H a xs := .inl (.inl h)
theorem SqT.of {K : PySem.W.Frag} (h : H a = some (.tup xs)) : SqT K H a xs := .inl (.inl h)
theorem Inv.list (I : Inv X pins σ H s) (h : SqL X.K H a xs) : ∃ its : List Value, Vals xs its ∧ PlainL s.heap a its.toArray ∧ xs.length ≤ sizeLine := by
  rcases h with h | ⟨o, its, n, hk, hc, hd, hs, hz, r⟩
  · obtain ⟨z, its, n, r, e⟩ := h.ok I.hok
    exact ⟨its, r, ⟨_, n, e, rfl, rfl, rfl⟩, z⟩
  · refine ⟨its.toList, r, ⟨o, n, I.kIn a o hk, hc, hd, by simpa using hs⟩, ?_⟩
    have e := r.length
    simp only [Array.length_toList] at e
    omega
theorem Inv.tuple (I : Inv X pins σ H s) (h : SqT X.K H a xs) : ∃ its : List Value, Vals xs its ∧ IsTup s.heap a its.toArray ∧ xs.length ≤ sizeLine := by
  rcases h with h | ⟨o, its, n, hk, hc, hs, hz, r⟩
  · obtain ⟨z, its, r, p⟩ := h.ok I.hok
    exact ⟨its, r, p, z⟩
  · refine ⟨its.toList, r, ⟨o, I.kIn a o hk, hc, n, by simpa using hs⟩, ?_⟩
    have e := r.length
    simp only [Array.length_toList] at e
    omega
theorem Inv.list_inj (I : Inv X pins σ H s) (h : SqL X.K H a xs) (h' : SqL X.K H a ys) : xs = ys := by
  obtain ⟨its, r, ⟨o, n, e, _, _, d⟩, _⟩ := I.list h
  obtain ⟨its', r', ⟨o', n', e', _, _, d'⟩, _⟩ := I.list h'
  rw [e] at e'; cases e'
  rw [d] at d'
  injection d' with d1 _
  have : its = its' := by simpa using congrArg Array.toList d1
  subst this
  exact r.inj r'
theorem Inv.tuple_inj (I : Inv X pins σ H s) (h : SqT X.K H a xs) (h' : SqT X.K H a ys) : xs = ys := by
  obtain ⟨its, r, ⟨o, e, _, n, d⟩, _⟩ := I.tuple h
  obtain ⟨its', r', ⟨o', e', _, n', d'⟩, _⟩ := I.tuple h'
  rw [e] at e'; cases e'
  rw [d] at d'
  injection d' with d1 _
  have : its = its' := by simpa using congrArg Array.toList d1
  subst this
  exact r.inj r'
end
abbrev Cx.wish (X : Cx) (E : Value → Shared → Prop) : Cx := { X with xe := E }
abbrev Cx.nox (X : Cx) : Cx := X.wish fun _ _ => False
theorem Cx.Ok.wish {X : Cx} (ok : X.Ok) (E : Value → Shared → Prop) : (X.wish E).Ok :=
  ⟨ok.mod, ok.kind, ok.glob, ok.blt, ok.above, ok.inj, ok.has, ok.cab, ok.hd, ok.frames, ok.stk, ok.exf, ok.bs, ok.bsz, ok.noex, ok.exfs, ok.funs, ok.frf⟩
theorem Cx.Ok.unwish {X : Cx} {E : Value → Shared → Prop} (ok : (X.wish E).Ok) : X.Ok :=
  ⟨ok.mod, ok.kind, ok.glob, ok.blt, ok.above, ok.inj, ok.has, ok.cab, ok.hd, ok.frames, ok.stk, ok.exf, ok.bs, ok.bsz, ok.noex, ok.exfs, ok.funs, ok.frf⟩
section
variable {X : Cx} {pins : List (Addr × Obj)} {σ : St} {H : Hp} {s : Shared} {E : Value → Shared → Prop}
theorem Inv.wish (I : Inv X pins σ H s) (E : Value → Shared → Prop) : Inv (X.wish E) pins σ H s := ⟨I.ok.wish E, I.os, I.bare, I.base, I.loc, I.cell, I.free, I.freeC, I.pin, I.hok, I.len⟩
theorem Inv.unwish (I : Inv (X.wish E) pins σ H s) : Inv X pins σ H s := ⟨I.ok.unwish, I.os, I.bare, I.base, I.loc, I.cell, I.free, I.freeC, I.pin, I.hok, I.len⟩
theorem SP.unwish {D : Ends} {f : Flow} {s' : Shared} (h : SP (X.wish E) pins D f s') : SP X pins D f s' := by
  cases f with
  | next => obtain ⟨σ', H', I, q⟩ := h; exact ⟨σ', H', I.unwish, q⟩
  | brk => obtain ⟨σ', H', I, q⟩ := h; exact ⟨σ', H', I.unwish, q⟩
  | cont => obtain ⟨σ', H', I, q⟩ := h; exact ⟨σ', H', I.unwish, q⟩
  | ret u => obtain ⟨v, σ', H', I, r, q⟩ := h; exact ⟨v, σ', H', I.unwish, r, q⟩
theorem PE.nox {e : Expr} {t : TE} (h : PE X.nox e t) : PE X e t := fun pins s σ H Q I hw =>
  wpAny_mono (h pins s σ H Q (I.wish _) hw) (fun _ _ ⟨v, H', I', r, q⟩ => ⟨v, H', I'.unwish, r, q⟩) fun _ _ z => False.elim z
theorem PT.nox {e : Expr} {t : TT} (h : PT X.nox e t) : PT X e t := fun pins s σ H Q I hw =>
  wpAny_mono (h pins s σ H Q (I.wish _) hw) (fun _ _ ⟨H', I', q⟩ => ⟨H', I'.unwish, q⟩) fun _ _ z => False.elim z
theorem PSs.nox {st : List Stmt} {t : TS} (h : PSs X.nox st t) : PSs X st t := fun pins s σ H D I hw =>
  wpAny_mono (h pins s σ H D (I.wish _) hw) (fun _ _ q => q.unwish) fun _ _ z => False.elim z
end
section
variable {X : Cx} {st : Stmt} {rest : List Stmt} {t u : TS} {e : Expr} {te : TE} {pos : Pos}
def tNext : TS := fun D σ H => D.nx σ H
def tSeq (t u : TS) : TS := fun D σ H => t { D with nx := u D } σ H
theorem pss_nil : PSs X [] tNext := fun _ _ σ H _ I h => wpAny_execs_nil ⟨σ, H, I, h⟩
theorem pss_cons (h1 : PS X st t) (h2 : PSs X rest u) : PSs X (st :: rest) (tSeq t u) := by
  intro pins s σ H D I h
  refine wpAny_execs_cons (thn (h1 pins s σ H { D with nx := u D } I h) fun f s1 q => ?_)
  cases f with
  | next =>
    obtain ⟨σ', H', I', q⟩ := q
    exact h2 pins s1 σ' H' D I' q
  | ret v => exact q
  | brk => exact q
  | cont => exact q
theorem pss_one (h1 : PS X st t) : PSs X [st] t := by
  intro pins s σ H D I h
  refine wpAny_execs_cons (thn (h1 pins s σ H D I h) fun f s1 q => ?_)
  cases f with
  | next => exact wpAny_execs_nil q
  | ret v => exact q
  | brk => exact q
  | cont => exact q
def tBreak : TS := fun D σ H => D.bk σ H
def tCont : TS := fun D σ H => D.ct σ H
theorem Inv.quiet {pins : List (Addr × Obj)} {σ : St} {H : Hp} {s : Shared} (I : Inv X pins σ H s) : interactive X.env = false := by simp [interactive, I.ok.kind]
def tDrop (te : TE) : TS := fun D σ H => te σ H fun _ H1 => D.nx σ H1
theorem ps_expr (he : PE X e te) (hs : swapsWith e none pos.line X.env = pure false := by rfl) : PS X (.Expr e pos) (tDrop te) := by
  intro pins s σ H D I h
  exact wpAny_Expr_any (thn (he pins s σ H _ I h) fun v s1 ⟨x, H1, I1, r1, q1⟩ => ⟨σ, H1, I1, q1⟩) I.quiet hs
def tRet (te : TE) : TS := fun D σ H => te σ H D.rt
theorem ps_ret (he : PE X e te) : PS X (.Return (some e) pos) (tRet te) := by
  intro pins s σ H D I h
  exact wpAny_Return_some (thn (he pins s σ H _ I h) fun v s1 ⟨x, H1, I1, r1, q1⟩ => ⟨x, σ, H1, I1, r1, q1⟩)
def tRetN : TS := fun D _ H => D.rt .non H
def tIfS (c : TT) (t u : TS) : TS := fun D σ H => c σ H fun b H1 => if b = true then t D σ H1 else u D σ H1
theorem ps_if {c : Expr} {a b : List Stmt} {tc : TT} (hc : PT X c tc) (ha : PSs X a t) (hb : PSs X b u) : PS X (.If c a b pos) (tIfS tc t u) := by
  intro pins s σ H D I h
  refine wpAny_If (thn (hc pins s σ H _ I h) fun d s1 ⟨H1, I1, q1⟩ => ?_)
  cases d with
  | true => exact ha pins s1 σ H1 D I1 q1
  | false => exact hb pins s1 σ H1 D I1 q1
def tNever : TS := fun _ _ _ => False
theorem pss_never {sts : List Stmt} : PSs X sts tNever := fun _ _ _ _ _ _ h => h.elim
end
abbrev TG := V → St → Hp → (St → Hp → Prop) → Prop
abbrev TGs := List V → St → Hp → (St → Hp → Prop) → Prop
def PG (X : Cx) (target : Expr) (t : TG) : Prop :=
  ∀ (pins : List (Addr × Obj)) (s : Shared) (σ : St) (H : Hp) (v : V) (u : Value) (Q : St → Hp → Prop), Inv X pins σ H s → RelV v u → t v σ H Q →
    wpAny (model X.prog X.w) X.A (assign target X.env u) (fun _ s' => ∃ σ' H', Inv X pins σ' H' s' ∧ Q σ' H') X.xe s
abbrev TSet := V → V → V → Hp → (Hp → Prop) → Prop
def PSet (X : Cx) (t : TSet) : Prop :=
  ∀ (pins : List (Addr × Obj)) (s : Shared) (σ : St) (H : Hp) (o i v : V) (ov iv u : Value) (Q : Hp → Prop), Inv X pins σ H s → RelV o ov → RelV i iv → RelV v u → t o i v H Q →
    wpAny (model X.prog X.w) X.A (setItem ov iv u) (fun _ s' => ∃ H', Inv X pins σ H' s' ∧ Q H') X.xe s
abbrev TIp := V → V → Hp → VK → Prop
def PIp (X : Cx) (op : Operator) (t : TIp) : Prop :=
  ∀ (pins : List (Addr × Obj)) (s : Shared) (σ : St) (H : Hp) (x y : V) (v u : Value) (Q : VK), Inv X pins σ H s → RelV x v → RelV y u → t x y H Q →
    wpAny (model X.prog X.w) X.A (inplaceOp op v u) (EP X pins σ Q) X.xe s
section
variable {X : Cx} {pos : Pos}
def gName (i : Nat) : TG := fun v σ H Q => Q (σ.set i (some v)) H
theorem pg_name {i : Nat} {x : Str} (hN : X.N.Nodup) (hi : X.N[i]? = some x) (hx : Loc X.env.scope x) (hf : X.fn x = true ∨ X.env.scope.names.lookup x = some .local := by first | exact .inl rfl | exact .inr rfl | assumption) : PG X (.Name x pos) (gName i) := by
  intro pins s σ H v u Q I r h
  exact wpAny_assign_Name (store_ok I hN hi hx r (fun s' I' => ⟨_, H, I', h⟩) hf)
def gNil : TGs := fun vs σ H Q => vs = [] ∧ Q σ H
def gCons (t : TG) (u : TGs) : TGs := fun vs σ H Q => ∃ v r, vs = v :: r ∧ t v σ H fun σ' H' => u r σ' H' Q
def gTup (K : PySem.W.Frag) (n : Nat) (t : TGs) : TG := fun v σ H Q => ∃ a xs, v = .ref a ∧ SqT K H a xs ∧ xs.length = n ∧ t xs σ H Q
def gSub (to ti : TE) (t : TSet) : TG := fun v σ H Q => to σ H fun o H1 => ti σ H1 fun i H2 => t o i v H2 fun H3 => Q σ H3
theorem pg_sub {o i : Expr} {to ti : TE} {t : TSet} (ho : PE X o to) (hi : PE X i ti) (hs : PSet X t)
    (ha : ∀ v, assign (.Subscript o i pos) X.env v = (do
      let ov ← holding [v] (eval o X.env)
      let iv ← holding [v, ov] (eval i X.env)
      standAt pos
      holding [v, ov, iv] (setItem ov iv v)
      release [v, ov, iv] []) := by intro _; rfl) : PG X (.Subscript o i pos) (gSub to ti t) := by
  intro pins s σ H v u Q I r h
  rw [ha]
  refine wpAny_bind (wpAny_holding (thn (ho pins s σ H _ I h) fun ov s1 ⟨x, H1, I1, r1, q1⟩ => ?_))
  refine wpAny_bind (wpAny_holding (thn (hi pins s1 σ H1 _ I1 q1) fun iv s2 ⟨y, H2, I2, r2, q2⟩ => ?_))
  refine wpAny_bind (wpAny_standAt (wpAny_bind (wpAny_holding (thn (hs pins s2 σ H2 x y v ov iv u _ I2 r1 r2 r q2) fun _ s3 ⟨H3, I3, q3⟩ => ?_))))
  exact wpAny_release ⟨σ, H3, I3, q3⟩
def tAsg (te : TE) (g : TG) : TS := fun D σ H => te σ H fun x H1 => g x σ H1 D.nx
theorem ps_asg {tg e : Expr} {te : TE} {g : TG} (he : PE X e te) (hg : PG X tg g) (hs : swapsWithSole [tg] e pos.line X.env = pure false := by rfl) (hw : swappedStores [tg] e X.env = pure none := by rfl)
    (h1 : (assignEach [tg] X.env).map (·.2) = [assign tg X.env] := by rfl) : PS X (.Assign [tg] e pos) (tAsg te g) := by
  intro pins s σ H D I h
  refine wpAny_Assign_stores (thn (he pins s σ H _ I h) fun v s1 ⟨x, H1, I1, r1, q1⟩ => ?_) hs hw
  rw [h1]
  exact thn (hg pins s1 σ H1 x v _ I1 r1 q1) fun _ s2 q => q
theorem ps_set {i : Nat} {x : Str} {e : Expr} {te : TE} {pos' : Pos} (hN : X.N.Nodup) (hi : X.N[i]? = some x) (hx : Loc X.env.scope x) (he : PE X e te) (hs : swapsWith e (some (.Name x pos')) pos.line X.env = pure false := by rfl) (hf : X.fn x = true ∨ X.env.scope.names.lookup x = some .local := by first | exact .inl rfl | exact .inr rfl | assumption) :
    PS X (.Assign [.Name x pos'] e pos) (tAsg te (gName i)) := by
  intro pins s σ H D I h
  refine wpAny_Assign_Name (thn (he pins s σ H _ I h) fun v s1 ⟨y, H1, I1, r1, q1⟩ => ?_) hs
  exact store_ok I1 hN hi hx r1 (fun s2 I2 => ⟨_, H1, I2, q1⟩) hf
def tAug (i : Nat) (te : TE) (ti : TIp) : TS := fun D σ H => ∃ x, σ[i]? = some (some x) ∧ te σ H fun y H1 => ti x y H1 fun z H2 => D.nx (σ.set i (some z)) H2
theorem ps_aug {i : Nat} {x : Str} {e : Expr} {te : TE} {op : Operator} {ti : TIp} {pos' : Pos} (hN : X.N.Nodup) (hi : X.N[i]? = some x) (hx : Loc X.env.scope x) (he : PE X e te) (ho : PIp X op ti) (hf : X.fn x = true ∨ X.env.scope.names.lookup x = some .local := by first | exact .inl rfl | exact .inr rfl | assumption) :
    PS X (.AugAssign (.Name x pos') op e pos) (tAug i te ti) := by
  intro pins s σ H D I h
  obtain ⟨v, e1, h⟩ := h
  obtain ⟨m, hn, hl⟩ := I.loc
  have vis : Vis X.env.scope x := by rcases hx with k | k; exact .inl k; exact .inr (.inl k)
  obtain ⟨u, r, l⟩ := hl i x v hi e1 vis
  refine wpAny_AugAssign_Name ?_
  have go : wpAny (model X.prog X.w) X.A (eval e X.env) (fun w s₂ => wpAny (model X.prog X.w) X.A (inplaceOp op u w) (fun r s₃ => wpAny (model X.prog X.w) X.A (storeName X.env x r) (fun _ => SP X pins D .next) X.xe s₃) X.xe s₂) X.xe s := by
    refine thn (he pins s σ H _ I h) fun w s1 ⟨y, H1, I1, r1, q1⟩ => ?_
    refine thn (ho pins s1 σ H1 v y u w _ I1 r r1 q1) fun z s2 ⟨zv, H2, I2, r2, q2⟩ => ?_
    exact store_ok I2 hN hi hx r2 (fun s3 I3 => ⟨_, H2, I3, q2⟩) hf
  rcases l with ⟨hk, hm⟩ | ⟨hk, c, hc, hcell⟩
  · exact wpAny_loadName_local I.ok.kind hk hn hm go
  · rcases hk with hk | hk
    · exact wpAny_loadName_cell I.ok.kind hk hc hcell go
    · rcases hx with k | k
      · have : X.env.scope.names.lookup x = some .free := hk
        rw [k] at this; cases this
      · have : X.env.scope.names.lookup x = some .free := hk
        rw [k] at this; cases this
def ipI (f : Int → Int → Int) : TIp := fun x y H Q => ∃ i j, x = .int i ∧ y = .int j ∧ Q (.int (f i j)) H
theorem ip_sub : PIp X .Sub (ipI fun i j => i - j) := by
  intro pins s σ H x y v u Q I r1 r2 h
  obtain ⟨i, j, e1, e2, q⟩ := h
  subst e1; subst e2
  obtain ⟨t, rfl⟩ := r1
  obtain ⟨t', rfl⟩ := r2
  exact isub_int ⟨.int _, H, I.tok _, ⟨_, rfl⟩, q⟩
end
section
variable {X : Cx} {pos : Pos}
end
structure It where
  go : Nat → Hp → Prop
  yld : Nat → Hp → V → Hp → Prop
  stop : Nat → Hp → Prop
def FpOk (X : Cx) (pins : List (Addr × Obj)) (H : Hp) (b : Addr) : Prop :=
  H b = none ∧ b ≠ X.env.locals ∧ b ∉ X.fs ∧ (b ∈ X.ex ∨ X.s₀.heap.objs.size ≤ b) ∧ (∀ x c, X.env.cells.lookup x = some c → c ≠ b) ∧ ∀ p ∈ X.pn ++ pins, p.1 ≠ b
theorem Inv.fpOk {X : Cx} {pins : List (Addr × Obj)} {σ : St} {H H' : Hp} {s : Shared} {b : Addr} (I : Inv X pins σ H s) (hb : s.heap.objs.size ≤ b) (hn : H' b = none) : FpOk X pins H' b := by
  refine ⟨hn, Nat.ne_of_gt (Nat.lt_of_lt_of_le I.lt hb), I.nofs hb, .inr (Nat.le_trans I.sz hb), fun x c e z => ?_, fun p hp z => ?_⟩
  · obtain ⟨v, q⟩ := I.cell x c e
    exact absurd (Nat.lt_of_lt_of_le q.lt (by rw [z]; exact hb)) (Nat.lt_irrefl _)
  · exact absurd (Nat.lt_of_lt_of_le (Heap.lt_size (I.pin p hp).1) (by rw [z]; exact hb)) (Nat.lt_irrefl _)
structure Turn (P : Program) (w : World) (K : PySem.W.Frag) (tg : Expr) (J : It) (fp : List Addr) (it : Addr) (tn : Nat → Heap → Prop) : Prop where
  mem : it ∈ fp
  obj : ∀ i h, tn i h → ∀ b ∈ fp, ∃ o, h.get? b = some o ∧ ∀ v, o.data ≠ .cell v
  keep : ∀ i h h', tn i h → (∀ b ∈ fp, ∀ o, h.get? b = some o → h'.get? b = some o) → tn i h'
  item : ∀ (X : Cx), X.prog = P → X.w = w → X.K = K → Calm X → ∀ (i : Nat) (pins : List (Addr × Obj)) (s : Shared) (σ : St) (H : Hp) (E : Value → Shared → Prop), Inv X pins σ H s → (∀ b ∈ fp, FpOk X pins H b) → tn i s.heap → J.go i H →
    wpAny (model P w) X.A (pyNext (.ref it)) (fun r s1 => ∃ u, r = some u ∧
      wpAny (model P w) X.A (letOwnedTupleGo tg (.ref it) u) (fun _ s2 => ∃ x H', Inv X pins σ H' s2 ∧ RelV x u ∧ J.yld i H x H' ∧ tn (i + 1) s2.heap ∧ ∀ b ∈ fp, H' b = none) E s1) E s
  done : ∀ (X : Cx), X.prog = P → X.w = w → X.K = K → Calm X → ∀ (i : Nat) (pins : List (Addr × Obj)) (s : Shared) (σ : St) (H : Hp) (E : Value → Shared → Prop), Inv X pins σ H s → (∀ b ∈ fp, FpOk X pins H b) → tn i s.heap → J.stop i H →
    wpAny (model P w) X.A (pyNext (.ref it)) (fun r s1 => r = none ∧ Inv X pins σ H s1) E s
  self : ∀ (A : Around) (i : Nat) (s : Shared) (Q : Value → Shared → Prop) (E : Value → Shared → Prop), tn i s.heap → Q (.ref it) s → wpAny (model P w) A (pyIter (.ref it)) Q E s
abbrev TI := St → Hp → (It → Hp → Prop) → Prop
def PIE (X : Cx) (pins : List (Addr × Obj)) (σ : St) (tg : Expr) (R : It → Hp → Prop) (itv : Value) (s2 : Shared) : Prop :=
  ∃ (it : Addr) (fp : List Addr) (tn : Nat → Heap → Prop) (J : It) (H' : Hp), itv = .ref it ∧ Inv X pins σ H' s2 ∧ Turn X.prog X.w X.K tg J fp it tn ∧ tn 0 s2.heap ∧ (∀ b ∈ fp, FpOk X pins H' b) ∧ R J H'
def PI (X : Cx) (tg iter : Expr) (wi : TI) : Prop :=
  ∀ (pins : List (Addr × Obj)) (s : Shared) (σ : St) (H : Hp) (R : It → Hp → Prop), Inv X pins σ H s → wi σ H R →
    wpAny (model X.prog X.w) X.A (eval iter X.env) (fun v s1 => wpAny (model X.prog X.w) X.A (pyIter v) (PIE X pins σ tg R) X.xe s1) X.xe s
theorem go_of {M : Model} {A : Around} {E : Value → Shared → Prop} {s : Shared} {tg : Expr} {it : Addr} {u : Value} {o : Obj} {n : String} {vs : Array Value} {Q : Unit → Shared → Prop} (ho : s.heap.get? it = some o) (hc : o.cls = .type n) (hd : o.data = .fields vs)
    (hn : ["enumerate", "zip", "dict_itemiterator", "dict_reverseitemiterator", "odict_iterator", "itertools.zip_longest", "itertools.pairwise"].contains n = false) (hQ : Q () s) : wpAny M A (letOwnedTupleGo tg (.ref it) u) Q E s := by
  unfold letOwnedTupleGo
  cases tg <;> first
    | exact wpAny_pure hQ
    | (cases u <;> first
        | exact wpAny_pure hQ
        | (refine wpAny_bind (wpAny_load ho ?_)
           rw [hc, hd]
           show wpAny M A (if (["enumerate", "zip", "dict_itemiterator", "dict_reverseitemiterator", "odict_iterator", "itertools.zip_longest", "itertools.pairwise"].contains n && vs[0]? == some (rawInt _)) = true then _ else _) Q E s
           rw [if_neg (by intro h; rw [hn, Bool.false_and] at h; cases h)]
           exact wpAny_pure hQ))
def Itl (K : PySem.W.Frag) (a : Addr) : It :=
  ⟨fun i H => ∃ xs x, SqL K H a xs ∧ xs[i]? = some x, fun i H x H' => H' = H ∧ ∀ xs, SqL K H a xs → xs[i]? = some x, fun i H => ∃ xs, SqL K H a xs ∧ xs.length ≤ i⟩
def Itt (K : PySem.W.Frag) (a : Addr) : It :=
  ⟨fun i H => ∃ xs x, SqT K H a xs ∧ xs[i]? = some x, fun i H x H' => H' = H ∧ ∀ xs, SqT K H a xs → xs[i]? = some x, fun i H => ∃ xs, SqT K H a xs ∧ xs.length ≤ i⟩
def Itr (lo : Int) (n : Nat) : It := ⟨fun i _ => i < n, fun i H x H' => H' = H ∧ x = .int (lo + i), fun i _ => n ≤ i⟩
theorem turn_list {P : Program} {w : World} {K : PySem.W.Frag} {tg : Expr} (a it : Addr) : Turn P w K tg (Itl K a) [it] it (fun i h => h.IsListIter it a i) where
  mem := by simp
  obj := fun i h st b hb => by
    have e : b = it := by simpa using hb
    subst e
    obtain ⟨o, e, c, d⟩ := st
    exact ⟨o, e, fun v z => by rw [d] at z; cases z⟩
  keep := fun i h h' st k => st.at fun o e => k it (by simp) o e
  item := by
    intro X hP hw hK hc i pins s σ H E I hf st hg
    subst hP hw hK
    obtain ⟨xs, x, hq, hx⟩ := hg
    obtain ⟨its, rv, p, hz⟩ := I.list hq
    obtain ⟨u, hu, ru⟩ := rv.get hx
    obtain ⟨f0, f1, f2, f3, f4, f5⟩ := hf it (by simp)
    refine wpAny_pyNext_list_item st p.isList (x := u) (by simpa using hu) fun h' st' sb => ?_
    have I1 : Inv X pins σ H { s with heap := h' } := I.turned (t' := s.toks) (fun b o hb e => (sb.2 b hb).trans e) f0 f1 f3 f4 f5
    obtain ⟨o, e, c, d⟩ := id st'
    exact ⟨u, rfl, go_of (s := { s with heap := h' }) e c d (by decide) ⟨x, H, I1, ru, ⟨rfl, fun ys hy => by rw [I.list_inj hy hq]; exact hx⟩, st', fun b hb => (hf b hb).1⟩⟩
  done := by
    intro X hP hw hK hc i pins s σ H E I hf st hg
    subst hP hw hK
    obtain ⟨xs, hq, hx⟩ := hg
    obtain ⟨its, rv, p, hz⟩ := I.list hq
    obtain ⟨f0, f1, f2, f3, f4, f5⟩ := hf it (by simp)
    have hl := rv.length
    exact list_end (I.calm hc) st p.isList (by simp; omega) fun h' eb => ⟨rfl, I.turned (t' := s.toks) (fun b o hb e => eb b o hb e) f0 f1 f3 f4 f5⟩
  self := fun _ _ _ _ _ st h => wpAny_pyIter_listiter st h
theorem turn_tuple {P : Program} {w : World} {K : PySem.W.Frag} {tg : Expr} (a it : Addr) : Turn P w K tg (Itt K a) [it] it (fun i h => h.IsTupleIter it a i) where
  mem := by simp
  obj := fun i h st b hb => by
    have e : b = it := by simpa using hb
    subst e
    obtain ⟨o, e, c, d⟩ := st
    exact ⟨o, e, fun v z => by rw [d] at z; cases z⟩
  keep := fun i h h' st k => st.at fun o e => k it (by simp) o e
  item := by
    intro X hP hw hK hc i pins s σ H E I hf st hg
    subst hP hw hK
    obtain ⟨xs, x, hq, hx⟩ := hg
    obtain ⟨its, rv, p, hz⟩ := I.tuple hq
    obtain ⟨u, hu, ru⟩ := rv.get hx
    obtain ⟨f0, f1, f2, f3, f4, f5⟩ := hf it (by simp)
    refine wpAny_pyNext_tuple_item st (show s.heap.IsTuple a its.toArray from p) (x := u) (by simpa using hu) fun h' st' sb => ?_
    have I1 : Inv X pins σ H { s with heap := h' } := I.turned (t' := s.toks) (fun b o hb e => (sb.2 b hb).trans e) f0 f1 f3 f4 f5
    obtain ⟨o, e, c, d⟩ := id st'
    exact ⟨u, rfl, go_of (s := { s with heap := h' }) e c d (by decide) ⟨x, H, I1, ru, ⟨rfl, fun ys hy => by rw [I.tuple_inj hy hq]; exact hx⟩, st', fun b hb => (hf b hb).1⟩⟩
  done := by
    intro X hP hw hK hc i pins s σ H E I hf st hg
    subst hP hw hK
    obtain ⟨xs, hq, hx⟩ := hg
    obtain ⟨its, rv, p, hz⟩ := I.tuple hq
    obtain ⟨f0, f1, f2, f3, f4, f5⟩ := hf it (by simp)
    have hl := rv.length
    exact tuple_end (I.calm hc) st (show s.heap.IsTuple a its.toArray from p) (by simp; omega) fun h' eb => ⟨rfl, I.turned (t' := s.toks) (fun b o hb e => eb b o hb e) f0 f1 f3 f4 f5⟩
  self := fun _ _ _ _ _ st h => wpAny_pyIter_tupleiter st h
theorem turn_range {P : Program} {w : World} {K : PySem.W.Frag} {tg : Expr} (it : Addr) (lo : Int) (n : Nat) : Turn P w K tg (Itr lo n) [it] it (fun i h => IsRangeIter h it (lo + (i : Nat) * 1) ((n : Int) - (i : Nat)) 1) where
  mem := by simp
  obj := fun i h st b hb => by
    have e : b = it := by simpa using hb
    subst e
    exact ⟨_, st, fun v z => by
      have z' : Data.fields _ = Data.cell v := z
      cases z'⟩
  keep := fun i h h' st k => k it (by simp) _ st
  item := by
    intro X hP hw hK hc i pins s σ H E I hf st hg
    subst hP hw hK
    obtain ⟨f0, f1, f2, f3, f4, f5⟩ := hf it (by simp)
    refine wpAny_pyNext_range_item st (by have : i < n := hg; omega) fun h' st2 sb => ?_
    have st' : IsRangeIter h' it (lo + ((i + 1 : Nat) : Int) * 1) ((n : Int) - ((i + 1 : Nat) : Int)) 1 := by
      rw [show lo + ((i + 1 : Nat) : Int) * 1 = lo + (i : Nat) * 1 + 1 by omega, show (n : Int) - ((i + 1 : Nat) : Int) = n - (i : Nat) - 1 by omega]
      exact st2
    have I1 : Inv X pins σ H { s with heap := h', toks := s.toks + 1 } := I.turned (fun b o hb e => (sb.2 b hb).trans e) f0 f1 f3 f4 f5
    refine ⟨_, rfl, go_of (s := { s with heap := h', toks := s.toks + 1 }) (n := "range_iterator") st' rfl rfl (by decide) ⟨.int (lo + i), H, I1, ⟨s.toks, ?_⟩, ⟨rfl, rfl⟩, st', fun b hb => (hf b hb).1⟩⟩
    rw [Int.mul_one]
  done := by
    intro X hP hw hK hc i pins s σ H E I hf st hg
    subst hP hw hK
    obtain ⟨f0, f1, f2, f3, f4, f5⟩ := hf it (by simp)
    exact range_end (I.calm hc) st (by have : n ≤ i := hg; omega) fun h' eb => ⟨rfl, I.turned (t' := s.toks) (fun b o hb e => eb b o hb e) f0 f1 f3 f4 f5⟩
  self := fun _ _ _ _ _ st h => wpAny_pyIter_rangeiter st h
end L2
namespace L2
open PySem PySem.Spec PyProof.Rows
section
variable {X : Cx} {tg : Expr}
def iList (K : PySem.W.Frag) (tl : TE) : TI := fun σ H R => tl σ H fun x H1 => ∃ a, x = .ref a ∧ (∃ xs, SqL K H1 a xs) ∧ R (Itl K a) H1
def iTup (K : PySem.W.Frag) (tl : TE) : TI := fun σ H R => tl σ H fun x H1 => ∃ a, x = .ref a ∧ (∃ xs, SqT K H1 a xs) ∧ R (Itt K a) H1
theorem pi_list {l : Expr} {tl : TE} (hl : PE X l tl) : PI X tg l (iList X.K tl) := by
  intro pins s σ H R I h
  refine thn (hl pins s σ H _ I h) fun v s1 ⟨x, H1, I1, r1, q1⟩ => ?_
  obtain ⟨a, e, ⟨xs, hq⟩, q⟩ := q1
  subst e
  cases r1
  obtain ⟨its, rv, p, hz⟩ := I1.list hq
  refine wpAny_pyIter_list p.isList ?_
  refine ⟨s1.heap.objs.size, [s1.heap.objs.size], _, _, H1, rfl, I1.kept (t' := s1.toks) fun b o e => Heap.get?_push_of_some _ e, turn_list a _, ⟨_, Heap.get?_push_size _ rfl, rfl, rfl⟩, fun b hb => ?_, q⟩
  have e : b = s1.heap.objs.size := by simpa using hb
  subst e
  exact I1.fpOk (Nat.le_refl _) (I1.hok.fresh (Nat.le_refl _))
theorem pi_tup {l : Expr} {tl : TE} (hl : PE X l tl) : PI X tg l (iTup X.K tl) := by
  intro pins s σ H R I h
  refine thn (hl pins s σ H _ I h) fun v s1 ⟨x, H1, I1, r1, q1⟩ => ?_
  obtain ⟨a, e, ⟨xs, hq⟩, q⟩ := q1
  subst e
  cases r1
  obtain ⟨its, rv, p, hz⟩ := I1.tuple hq
  refine wpAny_pyIter_tuple (show s1.heap.IsTuple a its.toArray from p) ?_
  refine ⟨s1.heap.objs.size, [s1.heap.objs.size], _, _, H1, rfl, I1.kept (t' := s1.toks) fun b o e => Heap.get?_push_of_some _ e, turn_tuple a _, ⟨_, Heap.get?_push_size _ rfl, rfl, rfl⟩, fun b hb => ?_, q⟩
  have e : b = s1.heap.objs.size := by simpa using hb
  subst e
  exact I1.fpOk (Nat.le_refl _) (I1.hok.fresh (Nat.le_refl _))
theorem range_it {pins : List (Addr × Obj)} {σ : St} {H : Hp} {s : Shared} {R : It → Hp → Prop} {E : Value → Shared → Prop} {lo hi : Int} {t u v : Tok} {tk : Nat} (I : Inv X pins σ H s) (h1 : -(2 ^ 62) ≤ lo) (h2 : lo < 2 ^ 62) (h3 : -(2 ^ 62) ≤ hi) (h4 : hi < 2 ^ 62)
    (q : R (Itr lo (hi - lo).toNat) H) : wpAny (model X.prog X.w) X.A (pyIter (.ref s.heap.objs.size)) (PIE X pins σ tg R) E { s with heap := s.heap.push { cls := .type "range", data := .fields #[.int lo t, .int hi u, .int 1 v] }, toks := tk } := by
  refine wpAny_pyIter_range (IsRange.new ..) (small_one h1 h2 h3 h4) ?_
  have I1 : Inv X pins σ H { s with heap := s.heap.push { cls := .type "range", data := .fields #[.int lo t, .int hi u, .int 1 v] }, toks := tk } := I.kept fun b o e => Heap.get?_push_of_some _ e
  refine ⟨(s.heap.push { cls := .type "range", data := .fields #[.int lo t, .int hi u, .int 1 v] }).objs.size, [(s.heap.push { cls := .type "range", data := .fields #[.int lo t, .int hi u, .int 1 v] }).objs.size], _, _, H, rfl,
    I1.kept (t' := tk) fun b o e => Heap.get?_push_of_some _ e, turn_range _ lo (hi - lo).toNat, ?_, fun b hb => ?_, q⟩
  · have e1 : lo + ((0 : Nat) : Int) * 1 = lo := by simp
    have e2 : (((hi - lo).toNat : Nat) : Int) - ((0 : Nat) : Int) = Builtin.Range.rangeSize lo hi 1 := by rw [rangeSize_one]; split <;> omega
    show IsRangeIter _ _ (lo + ((0 : Nat) : Int) * 1) ((((hi - lo).toNat : Nat) : Int) - ((0 : Nat) : Int)) 1
    rw [e1, e2]
    exact Heap.get?_push_size _ rfl
  · have e : b = (s.heap.push { cls := .type "range", data := .fields #[.int lo t, .int hi u, .int 1 v] }).objs.size := by simpa using hb
    subst e
    exact I1.fpOk (Nat.le_refl _) (I1.hok.fresh (Nat.le_refl _))
def iRng1 (ta : TA) : TI := fun σ H R => ta σ H fun vs H1 => ∃ j : Int, vs = [.int j] ∧ -(2 ^ 62) ≤ j ∧ j < 2 ^ 62 ∧ R (Itr 0 j.toNat) H1
def iRng2 (ta : TA) : TI := fun σ H R => ta σ H fun vs H1 => ∃ i j : Int, vs = [.int i, .int j] ∧ (-(2 ^ 62) ≤ i ∧ i < 2 ^ 62 ∧ -(2 ^ 62) ≤ j ∧ j < 2 ^ 62) ∧ R (Itr i (j - i).toNat) H1
theorem pi_range1 {a : Expr} {ta : TA} {p pos : Pos} (hg : Gl X "range") (hm : X.mg "range" = none) (ha : PA X [a] ta) (hs : starEach [a] X.env = [(false, eval a X.env)] := by rfl) : PI X tg (.Call (.Name "range" p) [a] [] pos) (iRng1 ta) := by
  intro pins s σ H R I h
  refine Call_ (ld_blt I hg hm boot_range (PyProof.Rows.callWith_type1 (thn (ha pos pins s σ H _ I h) fun us s1 ⟨vs, H1, I1, r1, q1⟩ => ?_) hs rfl))
  obtain ⟨j, e, q1, q2, q⟩ := q1
  subst e
  cases r1 with
  | cons r rr =>
    cases rr
    obtain ⟨t, rfl⟩ := r
    exact call_range_1 (range_it I1 (by omega) (by omega) q1 q2 (by simpa using q))
theorem pi_range2 {a b : Expr} {ta : TA} {p pos : Pos} (hg : Gl X "range") (hm : X.mg "range" = none) (ha : PA X [a, b] ta) (hs : starEach [a, b] X.env = [(false, eval a X.env), (false, eval b X.env)] := by rfl) (hs2 : starEach [b] X.env = [(false, eval b X.env)] := by rfl) :
    PI X tg (.Call (.Name "range" p) [a, b] [] pos) (iRng2 ta) := by
  intro pins s σ H R I h
  refine Call_ (ld_blt I hg hm boot_range (PyProof.Rows.callWith_type1 (thn (ha pos pins s σ H _ I h) fun us s1 ⟨vs, H1, I1, r1, q1⟩ => ?_) (by rw [hs, hs2]) (by rw [hs2]; rfl)))
  obtain ⟨i, j, e, ⟨q1, q2, q3, q4⟩, q⟩ := q1
  subst e
  cases r1 with
  | cons r rr =>
    cases rr with
    | cons r' rr =>
      cases rr
      obtain ⟨t, rfl⟩ := r
      obtain ⟨t', rfl⟩ := r'
      exact call_range_2 (range_it I1 q1 q2 q3 q4 q)
def tFor (wi : TI) (g : TG) (tb : TS) : TS := fun D σ H => wi σ H fun J H1 => ∃ W : Nat → Nat → St → Hp → Prop, (∃ m, W 0 m σ H1) ∧ ∀ i m σ H, W i m σ H →
  (J.stop i H ∧ D.nx σ H) ∨ (J.go i H ∧ ∃ N : St → Hp → Prop, (∀ σ' H', N σ' H' → ∃ m', m' < m ∧ W (i + 1) m' σ' H') ∧ ∀ x H', J.yld i H x H' → g x σ H' fun σ2 H2 => tb { D with nx := N, ct := N, bk := D.nx } σ2 H2)
def pinsAt (fp : List Addr) (h : Heap) : List (Addr × Obj) := fp.filterMap fun b => (h.get? b).map fun o => (b, o)
theorem mem_pinsAt {fp : List Addr} {h : Heap} {b : Addr} {o : Obj} (hb : b ∈ fp) (e : h.get? b = some o) : (b, o) ∈ pinsAt fp h := List.mem_filterMap.mpr ⟨b, hb, by rw [e]; rfl⟩
theorem of_pinsAt {fp : List Addr} {h : Heap} {p : Addr × Obj} (hp : p ∈ pinsAt fp h) : p.1 ∈ fp ∧ h.get? p.1 = some p.2 := by
  obtain ⟨b, hb, e⟩ := List.mem_filterMap.mp hp
  cases q : h.get? b with
  | none => rw [q] at e; cases e
  | some o =>
    rw [q] at e
    have e' : (b, o) = p := Option.some.inj e
    subst e'
    exact ⟨hb, q⟩
theorem Inv.pinned {pins : List (Addr × Obj)} {σ : St} {H : Hp} {s : Shared} {fp : List Addr} (I : Inv X pins σ H s) (hf : ∀ b ∈ fp, FpOk X pins H b) (ho : ∀ b ∈ fp, ∃ o, s.heap.get? b = some o ∧ ∀ v, o.data ≠ .cell v) : Inv X (pins ++ pinsAt fp s.heap) σ H s :=
  I.pins_of fun p hp => (List.mem_append.mp hp).elim (fun z => I.pin p (List.mem_append_right _ z)) fun z => by
    obtain ⟨hb, e⟩ := of_pinsAt z
    obtain ⟨f0, f1, f2, _⟩ := hf p.1 hb
    obtain ⟨o, e', d⟩ := ho p.1 hb
    rw [e] at e'; cases e'
    exact ⟨e, f0, f1, f2, d⟩
theorem Inv.unpinned {pins pl : List (Addr × Obj)} {σ : St} {H : Hp} {s : Shared} (I : Inv X (pins ++ pl) σ H s) : Inv X pins σ H s := I.pins_of fun p hp => I.pin p (List.mem_append_right _ (List.mem_append_left _ hp))
theorem ps_for {iter : Expr} {body : List Stmt} {wi : TI} {g : TG} {tb : TS} {pos : Pos} (hp : PassesOwn (model X.prog X.w) X.A X.env X.xe) (hc : Calm X) (hi : PI X tg iter wi) (hg : PG X tg g) (hb : PSs X body tb)
    (hs : ∀ x, foldedSetIterable iter X.env x = pure x := by intro _; rfl) : PS X (.For tg iter body [] pos) (tFor wi g tb) := by
  intro pins s σ H D I h
  refine wpAny_For (thn (hi pins s σ H _ I h) fun v s1 h1 => thn h1 fun itv s2 h2 => ?_) hs
  obtain ⟨it, fp, tn, J, H2, e, I2, T, st2, f2, W, ⟨m0, w0⟩, turn⟩ := h2
  subst e
  have stat : ∀ {H' : Hp}, (∀ b ∈ fp, H' b = none) → ∀ b ∈ fp, FpOk X pins H' b := fun hn b hb => ⟨hn b hb, (f2 b hb).2⟩
  refine codeAny_forLoop_any (fun n s' => ∃ i σ' H', Inv X pins σ' H' s' ∧ tn i s'.heap ∧ (∀ b ∈ fp, H' b = none) ∧ W i n σ' H') ?_ m0 ⟨0, σ, H2, I2, st2, fun b hb => (f2 b hb).1, w0⟩
  rintro n s3 ⟨i, σ3, H3, I3, st3, fr3, w3⟩
  rcases turn i n σ3 H3 w3 with ⟨stop, qn⟩ | ⟨go, N, hN, step⟩
  · refine wpAny_passesOwn hp (thn (T.done X rfl rfl rfl hc i pins s3 σ3 H3 X.xe I3 (stat fr3) st3 stop) fun r s4 ⟨hr, I4⟩ => ?_)
    subst hr
    exact wpAny_execs_nil ⟨σ3, H3, I4, qn⟩
  · refine wpAny_passesOwn hp (thn (T.item X rfl rfl rfl hc i pins s3 σ3 H3 X.xe I3 (stat fr3) st3 go) fun r s4 ⟨u, hr, h4⟩ => ?_)
    subst hr
    refine wpAny_passesOwn hp (thn h4 fun _ s5 ⟨x, H5, I5, r5, y5, st5, fr5⟩ => ?_)
    have I5' := I5.pinned (stat fr5) (T.obj _ _ st5)
    refine wpAny_passesOwn hp (thn (hg _ s5 σ3 H5 x u _ I5' r5 (step x H5 y5)) fun _ s6 ⟨σ6, H6, I6, q6⟩ => ?_)
    refine wpAny_passesOwn hp (thn (hb _ s6 σ6 H6 _ I6 q6) fun f s7 q7 => ?_)
    have again : ∀ {σ7 : St} {H7 : Hp}, Inv X (pins ++ pinsAt fp s5.heap) σ7 H7 s7 → N σ7 H7 → ∃ m, m < n ∧ ∃ i σ' H', Inv X pins σ' H' s7 ∧ tn i s7.heap ∧ (∀ b ∈ fp, H' b = none) ∧ W i m σ' H' := fun {σ7 H7} I7 n7 => by
      obtain ⟨m', hm, w7⟩ := hN σ7 H7 n7
      refine ⟨m', hm, i + 1, σ7, H7, I7.unpinned, T.keep _ _ _ st5 fun b hb o e => (I7.pin (b, o) (List.mem_append_right _ (List.mem_append_right _ (mem_pinsAt hb e)))).1, fun b hb => ?_, w7⟩
      obtain ⟨o, e, d⟩ := T.obj _ _ st5 b hb
      exact (I7.pin (b, o) (List.mem_append_right _ (List.mem_append_right _ (mem_pinsAt hb e)))).2.1
    cases f with
    | next => obtain ⟨σ7, H7, I7, n7⟩ := q7; exact again I7 n7
    | cont => obtain ⟨σ7, H7, I7, n7⟩ := q7; exact again I7 n7
    | brk => obtain ⟨σ7, H7, I7, q7⟩ := q7; exact ⟨σ7, H7, I7.unpinned, q7⟩
    | ret v => obtain ⟨x7, σ7, H7, I7, r7, q7⟩ := q7; exact ⟨x7, σ7, H7, I7.unpinned, r7, q7⟩
end
theorem for_list {K : PySem.W.Frag} {a : Addr} {xs : List V} {g : TG} {tb : TS} {D : Ends} {σ : St} {H : Hp} (Pv : Nat → St → Hp → Prop) (h0 : Pv 0 σ H) (hl : ∀ i σ H, i ≤ xs.length → Pv i σ H → SqL K H a xs)
    (hs : ∀ i x σ H, xs[i]? = some x → Pv i σ H → g x σ H fun σ2 H2 => tb { D with nx := Pv (i + 1), ct := Pv (i + 1), bk := D.nx } σ2 H2) (hd : ∀ σ H, Pv xs.length σ H → D.nx σ H) :
    ∃ W : Nat → Nat → St → Hp → Prop, (∃ m, W 0 m σ H) ∧ ∀ i m σ H, W i m σ H →
      ((Itl K a).stop i H ∧ D.nx σ H) ∨ ((Itl K a).go i H ∧ ∃ N : St → Hp → Prop, (∀ σ' H', N σ' H' → ∃ m', m' < m ∧ W (i + 1) m' σ' H') ∧ ∀ x H', (Itl K a).yld i H x H' → g x σ H' fun σ2 H2 => tb { D with nx := N, ct := N, bk := D.nx } σ2 H2) := by
  refine ⟨fun i m σ H => m = xs.length - i ∧ i ≤ xs.length ∧ Pv i σ H, ⟨xs.length, by simp, Nat.zero_le _, h0⟩, ?_⟩
  rintro i m σ H ⟨rfl, hi, p⟩
  have q := hl i σ H hi p
  by_cases hlt : i < xs.length
  · refine .inr ⟨⟨xs, xs[i], q, by simp [hlt]⟩, Pv (i + 1), fun σ' H' p' => ⟨xs.length - (i + 1), by omega, rfl, hlt, p'⟩, fun x H' y => ?_⟩
    obtain ⟨e, y⟩ := y
    subst e
    exact hs i x σ _ (y xs q) p
  · have e : i = xs.length := by omega
    subst e
    exact .inl ⟨⟨xs, q, Nat.le_refl _⟩, hd σ H p⟩
theorem for_tup {K : PySem.W.Frag} {a : Addr} {xs : List V} {g : TG} {tb : TS} {D : Ends} {σ : St} {H : Hp} (Pv : Nat → St → Hp → Prop) (h0 : Pv 0 σ H) (hl : ∀ i σ H, i ≤ xs.length → Pv i σ H → SqT K H a xs)
    (hs : ∀ i x σ H, xs[i]? = some x → Pv i σ H → g x σ H fun σ2 H2 => tb { D with nx := Pv (i + 1), ct := Pv (i + 1), bk := D.nx } σ2 H2) (hd : ∀ σ H, Pv xs.length σ H → D.nx σ H) :
    ∃ W : Nat → Nat → St → Hp → Prop, (∃ m, W 0 m σ H) ∧ ∀ i m σ H, W i m σ H →
      ((Itt K a).stop i H ∧ D.nx σ H) ∨ ((Itt K a).go i H ∧ ∃ N : St → Hp → Prop, (∀ σ' H', N σ' H' → ∃ m', m' < m ∧ W (i + 1) m' σ' H') ∧ ∀ x H', (Itt K a).yld i H x H' → g x σ H' fun σ2 H2 => tb { D with nx := N, ct := N, bk := D.nx } σ2 H2) := by
  refine ⟨fun i m σ H => m = xs.length - i ∧ i ≤ xs.length ∧ Pv i σ H, ⟨xs.length, by simp, Nat.zero_le _, h0⟩, ?_⟩
  rintro i m σ H ⟨rfl, hi, p⟩
  have q := hl i σ H hi p
  by_cases hlt : i < xs.length
  · refine .inr ⟨⟨xs, xs[i], q, by simp [hlt]⟩, Pv (i + 1), fun σ' H' p' => ⟨xs.length - (i + 1), by omega, rfl, hlt, p'⟩, fun x H' y => ?_⟩
    obtain ⟨e, y⟩ := y
    subst e
    exact hs i x σ _ (y xs q) p
  · have e : i = xs.length := by omega
    subst e
    exact .inl ⟨⟨xs, q, Nat.le_refl _⟩, hd σ H p⟩
theorem for_range {lo : Int} {n : Nat} {g : TG} {tb : TS} {D : Ends} {σ : St} {H : Hp} (Pv : Nat → St → Hp → Prop) (h0 : Pv 0 σ H)
    (hs : ∀ i σ H, i < n → Pv i σ H → g (.int (lo + i)) σ H fun σ2 H2 => tb { D with nx := Pv (i + 1), ct := Pv (i + 1), bk := D.nx } σ2 H2) (hd : ∀ σ H, Pv n σ H → D.nx σ H) :
    ∃ W : Nat → Nat → St → Hp → Prop, (∃ m, W 0 m σ H) ∧ ∀ i m σ H, W i m σ H →
      ((Itr lo n).stop i H ∧ D.nx σ H) ∨ ((Itr lo n).go i H ∧ ∃ N : St → Hp → Prop, (∀ σ' H', N σ' H' → ∃ m', m' < m ∧ W (i + 1) m' σ' H') ∧ ∀ x H', (Itr lo n).yld i H x H' → g x σ H' fun σ2 H2 => tb { D with nx := N, ct := N, bk := D.nx } σ2 H2) := by
  refine ⟨fun i m σ H => m = n - i ∧ i ≤ n ∧ Pv i σ H, ⟨n, by simp, Nat.zero_le _, h0⟩, ?_⟩
  rintro i m σ H ⟨rfl, hi, p⟩
  by_cases hlt : i < n
  · refine .inr ⟨hlt, Pv (i + 1), fun σ' H' p' => ⟨n - (i + 1), by omega, rfl, hlt, p'⟩, fun x H' y => ?_⟩
    obtain ⟨e, y⟩ := y
    subst e y
    exact hs i σ _ hlt p
  · have e : i = n := by omega
    subst e
    exact .inl ⟨Nat.le_refl _, hd σ H p⟩
end L2
namespace L2
open PySem PySem.Spec PyProof.Rows
abbrev R2 := V → V → Hp → VK → Prop
def OpR (X : Cx) (f : Value → Value → Sem Value) (r : R2) : Prop :=
  ∀ (pins : List (Addr × Obj)) (s : Shared) (σ : St) (H : Hp) (x y : V) (v u : Value) (Q : VK), Inv X pins σ H s → RelV x v → RelV y u → r x y H Q →
    wpAny (model X.prog X.w) X.A (f v u) (EP X pins σ Q) X.xe s
def UnR (X : Cx) (f : Value → Sem Value) (r : V → Hp → VK → Prop) : Prop :=
  ∀ (pins : List (Addr × Obj)) (s : Shared) (σ : St) (H : Hp) (x : V) (v : Value) (Q : VK), Inv X pins σ H s → RelV x v → r x H Q →
    wpAny (model X.prog X.w) X.A (f v) (EP X pins σ Q) X.xe s
def CallR (X : Cx) (f : Value) (r : List V → Hp → VK → Prop) : Prop :=
  ∀ (pins : List (Addr × Obj)) (s : Shared) (σ : St) (H : Hp) (xs : List V) (us : List Value) (Q : VK), Inv X pins σ H s → Vals xs us → r xs H Q →
    wpAny (model X.prog X.w) X.A (call f us) (EP X pins σ Q) X.xe s
def tOp (r : R2) (ta tb : TE) : TE := fun σ H Q => ta σ H fun x H1 => tb σ H1 fun y H2 => r x y H2 Q
def tUn (r : V → Hp → VK → Prop) (ta : TE) : TE := fun σ H Q => ta σ H fun x H1 => r x H1 Q
def rI (C : Int → Int → Prop) (g : Int → Int → V) : R2 := fun x y H Q => ∃ i j, x = .int i ∧ y = .int j ∧ C i j ∧ Q (g i j) H
def rI0 (g : Int → Int → V) : R2 := fun x y H Q => ∃ i j, x = .int i ∧ y = .int j ∧ Q (g i j) H
def rU (g : Int → V) : V → Hp → VK → Prop := fun x H Q => ∃ i, x = .int i ∧ Q (g i) H
section
variable {X : Cx} {a b c : Expr} {ta tb tc : TE} {pos : Pos}
theorem binT (ha : PE X a ta) (hb : PE X b tb) {pins : List (Addr × Obj)} {s : Shared} {σ : St} {H : Hp} {R : V → V → Hp → Prop} (I : Inv X pins σ H s)
    (h : ta σ H fun x H1 => tb σ H1 fun y H2 => R x y H2) {Q : Value → Shared → Prop} {f : Value → Value → Sem Value}
    (hf : ∀ v u s2 x y H2, Inv X pins σ H2 s2 → RelV x v → RelV y u → R x y H2 → wpAny (model X.prog X.w) X.A (f v u) Q X.xe s2) :
    wpAny (model X.prog X.w) X.A (eval a X.env) (fun v s₁ => wpAny (model X.prog X.w) X.A (eval b X.env) (fun u s₂ => wpAny (model X.prog X.w) X.A (f v u) Q X.xe s₂) X.xe s₁) X.xe s := by
  refine thn (ha pins s σ H _ I h) fun v s1 ⟨x, H1, I1, r1, q1⟩ => ?_
  refine thn (hb pins s1 σ H1 _ I1 q1) fun u s2 ⟨y, H2, I2, r2, q2⟩ => ?_
  exact hf v u s2 x y H2 I2 r1 r2 q2
theorem pe_op {op : Operator} {r : R2} (ho : OpR X (binaryOp op) r) (ha : PE X a ta) (hb : PE X b tb) : PE X (.BinOp a op b pos) (tOp r ta tb) := by
  intro pins s σ H Q I h
  exact wpAny_BinOp (binT ha hb I h fun v u s2 x y H2 I2 rx ry q => ho pins s2 σ H2 x y v u Q I2 rx ry q)
theorem pe_un {op : UnaryOp} {r : V → Hp → VK → Prop} (ho : UnR X (unaryOp op) r) (ha : PE X a ta) : PE X (.UnaryOp op a pos) (tUn r ta) := by
  intro pins s σ H Q I h
  exact UnaryOp_ (thn (ha pins s σ H _ I h) fun v s1 ⟨x, H1, I1, r1, q1⟩ => ho pins s1 σ H1 x v Q I1 r1 q1)
theorem opI {f : Value → Value → Sem Value} {C : Int → Int → Prop} {g : Int → Int → Int}
    (rule : ∀ (i j : Int) (t u : Tok) (s : Shared) (Q : Value → Shared → Prop) (E : Value → Shared → Prop), C i j → Q (.int (g i j) s.toks) { s with toks := s.toks + 1 } → wpAny (model X.prog X.w) X.A (f (.int i t) (.int j u)) Q E s) :
    OpR X f (rI C fun i j => .int (g i j)) := by
  intro pins s σ H x y v u Q I rx ry h
  obtain ⟨i, j, rfl, rfl, hc, q⟩ := h
  obtain ⟨t, rfl⟩ := rx
  obtain ⟨t', rfl⟩ := ry
  exact rule i j t t' s _ _ hc ⟨.int (g i j), H, I.tok _, ⟨_, rfl⟩, q⟩
theorem opI0 {f : Value → Value → Sem Value} {g : Int → Int → Int}
    (rule : ∀ (i j : Int) (t u : Tok) (s : Shared) (Q : Value → Shared → Prop) (E : Value → Shared → Prop), Q (.int (g i j) s.toks) { s with toks := s.toks + 1 } → wpAny (model X.prog X.w) X.A (f (.int i t) (.int j u)) Q E s) :
    OpR X f (rI0 fun i j => .int (g i j)) := by
  intro pins s σ H x y v u Q I rx ry h
  obtain ⟨i, j, rfl, rfl, q⟩ := h
  obtain ⟨t, rfl⟩ := rx
  obtain ⟨t', rfl⟩ := ry
  exact rule i j t t' s _ _ ⟨.int (g i j), H, I.tok _, ⟨_, rfl⟩, q⟩
theorem opB0 {f : Value → Value → Sem Value} {g : Int → Int → Bool}
    (rule : ∀ (i j : Int) (t u : Tok) (s : Shared) (Q : Value → Shared → Prop) (E : Value → Shared → Prop), Q (.bool (g i j)) s → wpAny (model X.prog X.w) X.A (f (.int i t) (.int j u)) Q E s) :
    OpR X f (rI0 fun i j => .bl (g i j)) := by
  intro pins s σ H x y v u Q I rx ry h
  obtain ⟨i, j, rfl, rfl, q⟩ := h
  obtain ⟨t, rfl⟩ := rx
  obtain ⟨t', rfl⟩ := ry
  exact rule i j t t' s _ _ ⟨.bl (g i j), H, I, rfl, q⟩
def CDiv (i j : Int) : Prop := 0 < j ∧ j < 1073741824
def CMul (i j : Int) : Prop := (-(2 ^ 64) < i ∧ i < 2 ^ 64) ∨ (-(2 ^ 64) < j ∧ j < 2 ^ 64)
theorem CMul.ok {i j : Int} (h : CMul i j) : IntMulOk i j := by
  rcases h with ⟨h1, h2⟩ | ⟨h1, h2⟩
  · exact .of_left (intBits_le_64 h1 h2)
  · exact .of_right (intBits_le_64 h1 h2)
theorem op_add : OpR X (binaryOp .Add) (rI0 fun i j => .int (i + j)) := opI0 fun _ _ _ _ _ _ _ q => add_int q
theorem op_sub : OpR X (binaryOp .Sub) (rI0 fun i j => .int (i - j)) := opI0 fun _ _ _ _ _ _ _ q => sub_int q
theorem op_mul : OpR X (binaryOp .Mult) (rI CMul fun i j => .int (i * j)) := opI fun _ _ _ _ _ _ _ hc q => mul_int q hc.ok
theorem op_fdiv : OpR X (binaryOp .FloorDiv) (rI CDiv fun i j => .int (i / j)) := opI fun i j _ _ _ _ _ hc q => by
  have h1 : (0 : Int) < j := hc.1
  have h2 : j < 1073741824 := hc.2
  exact floordiv_int (by omega) (by rw [Int.fdiv_eq_ediv_of_nonneg i (by omega)]; exact q) (.inl (PyProof.noPylong_small (by omega)))
theorem op_mod : OpR X (binaryOp .Mod) (rI (fun _ j => 0 < j) fun i j => .int (i % j)) := opI fun i j _ _ _ _ _ hc q => by
  have h1 : (0 : Int) < j := hc
  exact mod_int' (by omega) (by rw [Int.fmod_eq_emod_of_nonneg i (by omega)]; exact q)
theorem unI {f : Value → Sem Value} {g : Int → Int}
    (rule : ∀ (i : Int) (t : Tok) (s : Shared) (Q : Value → Shared → Prop) (E : Value → Shared → Prop), Q (.int (g i) s.toks) { s with toks := s.toks + 1 } → wpAny (model X.prog X.w) X.A (f (.int i t)) Q E s) :
    UnR X f (rU fun i => .int (g i)) := by
  intro pins s σ H x v Q I rx h
  obtain ⟨i, rfl, q⟩ := h
  obtain ⟨t, rfl⟩ := rx
  exact rule i t s _ _ ⟨.int (g i), H, I.tok _, ⟨_, rfl⟩, q⟩
theorem un_neg : UnR X (unaryOp .USub) (rU fun i => .int (-i)) := unI fun _ _ _ _ _ q => neg_int q
end
def scal : V → V → Bool
  | .non, .non => true | .non, .int _ => true | .int _, .non => true | .non, .bl _ => true | .bl _, .non => true | .non, .str _ => true | .str _, .non => true
  | .int _, .int _ => true | .bl _, .bl _ => true | .str _, .str _ => true | .byt _, .byt _ => true
  | .int _, .str _ => true | .str _, .int _ => true | .bl _, .str _ => true | .str _, .bl _ => true
  | _, _ => false
def rEq : R2 := fun x y H Q => scal x y = true ∧ Q (.bl (decide (x = y))) H
def rNe : R2 := fun x y H Q => scal x y = true ∧ Q (.bl (!decide (x = y))) H
theorem dec_int {i j : Int} : decide (V.int i = V.int j) = (i == j) := by
  rw [Bool.eq_iff_iff]
  simp
theorem dec_bl {i j : Bool} : decide (V.bl i = V.bl j) = (i == j) := by
  rw [Bool.eq_iff_iff]
  simp
theorem dec_str {i j : Str} : decide (V.str i = V.str j) = (i == j) := by
  rw [Bool.eq_iff_iff]
  simp
theorem dec_byt {i j : Array UInt8} : decide (V.byt i = V.byt j) = (i.toList == j.toList) := by
  rw [Bool.eq_iff_iff]
  cases i
  cases j
  simp
section
variable {X : Cx} {a b c : Expr} {ta tb tc : TE} {pos : Pos}
theorem fin_bl {pins : List (Addr × Obj)} {σ : St} {H : Hp} {s : Shared} {Q : VK} {k k' : Bool} (I : Inv X pins σ H s) (q : Q (.bl k) H) (e : k = k') : EP X pins σ Q (.bool k') s := by
  subst e
  exact ⟨.bl k, H, I, rfl, q⟩
theorem op_eq : OpR X (compareOp .Eq) rEq := by
  intro pins s σ H x y v u Q I rx ry h
  obtain ⟨hs, q⟩ := h
  cases x with
  | non =>
    cases rx
    cases y with
    | non => cases ry; exact PySem.EqNone.eq_none_none (fin_bl I q (by simp))
    | bl j => cases ry; exact PySem.EqNone.eq_none_bool (fin_bl I q (by simp))
    | int j => obtain ⟨t', rfl⟩ := ry; exact PySem.EqNone.eq_none_int (fin_bl I q (by simp))
    | str j => obtain ⟨t', rfl⟩ := ry; exact PySem.EqNone.eq_none_str (fin_bl I q (by simp))
    | _ => exact absurd (show false = true from hs) Bool.false_ne_true
  | bl i =>
    cases rx
    cases y with
    | non => cases ry; exact PySem.EqNone.eq_bool_none (fin_bl I q (by simp))
    | bl j => cases ry; exact eq_bool (fin_bl I q dec_bl)
    | str j => obtain ⟨t', rfl⟩ := ry; exact PySem.EqMixed.eq_bool_str (fin_bl I q (by simp))
    | _ => exact absurd (show false = true from hs) Bool.false_ne_true
  | int i =>
    obtain ⟨t, rfl⟩ := rx
    cases y with
    | non => cases ry; exact PySem.EqNone.eq_int_none (fin_bl I q (by simp))
    | int j => obtain ⟨t', rfl⟩ := ry; exact eq_int (fin_bl I q dec_int)
    | str j => obtain ⟨t', rfl⟩ := ry; exact PySem.EqMixed.eq_int_str (fin_bl I q (by simp))
    | _ => exact absurd (show false = true from hs) Bool.false_ne_true
  | str i =>
    obtain ⟨t, rfl⟩ := rx
    cases y with
    | non => cases ry; exact PySem.EqNone.eq_str_none (fin_bl I q (by simp))
    | bl j => cases ry; exact PySem.EqMixed.eq_str_bool (fin_bl I q (by simp))
    | int j => obtain ⟨t', rfl⟩ := ry; exact PySem.EqMixed.eq_str_int (fin_bl I q (by simp))
    | str j => obtain ⟨t', rfl⟩ := ry; exact eq_str (fin_bl I q dec_str)
    | _ => exact absurd (show false = true from hs) Bool.false_ne_true
  | byt i =>
    obtain ⟨t, rfl⟩ := rx
    cases y with
    | byt j => obtain ⟨t', rfl⟩ := ry; exact PySem.W.eq_bytes (fin_bl I q dec_byt)
    | _ => exact absurd (show false = true from hs) Bool.false_ne_true
  | _ => cases y <;> exact absurd (show false = true from hs) Bool.false_ne_true
theorem op_ne : OpR X (compareOp .NotEq) rNe := by
  intro pins s σ H x y v u Q I rx ry h
  obtain ⟨hs, q⟩ := h
  cases x with
  | non =>
    cases rx
    cases y with
    | non => cases ry; exact PySem.EqNone.ne_none_none (fin_bl I q (by simp))
    | bl j => cases ry; exact PySem.EqNone.ne_none_bool (fin_bl I q (by simp))
    | int j => obtain ⟨t', rfl⟩ := ry; exact PySem.EqNone.ne_none_int (fin_bl I q (by simp))
    | str j => obtain ⟨t', rfl⟩ := ry; exact PySem.EqNone.ne_none_str (fin_bl I q (by simp))
    | _ => exact absurd (show false = true from hs) Bool.false_ne_true
  | bl i =>
    cases rx
    cases y with
    | non => cases ry; exact PySem.EqNone.ne_bool_none (fin_bl I q (by simp))
    | bl j => cases ry; exact ne_bool (fin_bl I q (congrArg not dec_bl))
    | str j => obtain ⟨t', rfl⟩ := ry; exact PySem.EqMixed.ne_bool_str (fin_bl I q (by simp))
    | _ => exact absurd (show false = true from hs) Bool.false_ne_true
  | int i =>
    obtain ⟨t, rfl⟩ := rx
    cases y with
    | non => cases ry; exact PySem.EqNone.ne_int_none (fin_bl I q (by simp))
    | int j => obtain ⟨t', rfl⟩ := ry; exact ne_int (fin_bl I q (congrArg not dec_int))
    | str j => obtain ⟨t', rfl⟩ := ry; exact PySem.EqMixed.ne_int_str (fin_bl I q (by simp))
    | _ => exact absurd (show false = true from hs) Bool.false_ne_true
  | str i =>
    obtain ⟨t, rfl⟩ := rx
    cases y with
    | non => cases ry; exact PySem.EqNone.ne_str_none (fin_bl I q (by simp))
    | bl j => cases ry; exact PySem.EqMixed.ne_str_bool (fin_bl I q (by simp))
    | int j => obtain ⟨t', rfl⟩ := ry; exact PySem.EqMixed.ne_str_int (fin_bl I q (by simp))
    | str j => obtain ⟨t', rfl⟩ := ry; exact ne_str (fin_bl I q (congrArg not dec_str))
    | _ => exact absurd (show false = true from hs) Bool.false_ne_true
  | byt i =>
    obtain ⟨t, rfl⟩ := rx
    cases y with
    | byt j => obtain ⟨t', rfl⟩ := ry; exact PySem.W.ne_bytes (fin_bl I q (congrArg not dec_byt))
    | _ => exact absurd (show false = true from hs) Bool.false_ne_true
  | _ => cases y <;> exact absurd (show false = true from hs) Bool.false_ne_true
theorem op_lt : OpR X (compareOp .Lt) (rI0 fun i j => .bl (decide (i < j))) := opB0 fun _ _ _ _ _ _ _ q => lt_int q
theorem op_le : OpR X (compareOp .LtE) (rI0 fun i j => .bl (decide (i ≤ j))) := opB0 fun _ _ _ _ _ _ _ q => le_int q
theorem op_gt : OpR X (compareOp .Gt) (rI0 fun i j => .bl (decide (j < i))) := opB0 fun _ _ _ _ _ _ _ q => gt_int q
theorem op_in_str : OpR X (compareOp .In) (fun x y H Q => ∃ i j, x = .str i ∧ y = .str j ∧ Q (.bl (!(Builtin.Str.occurrences j i 0 j.length 1).isEmpty)) H) := by
  intro pins s σ H x y v u Q I rx ry h
  obtain ⟨i, j, rfl, rfl, q⟩ := h
  obtain ⟨t, rfl⟩ := rx
  obtain ⟨t', rfl⟩ := ry
  exact in_str (fin_bl I q rfl)
theorem op_isN : OpR X (compareOp .Is) (fun x y H Q => y = .non ∧ Q (.bl (decide (x = .non))) H) := by
  intro pins s σ H x y v u Q I rx ry h
  obtain ⟨rfl, q⟩ := h
  cases ry
  refine is_none_gen (fin_bl I q ?_)
  cases x <;> first
    | (cases rx; rfl)
    | (obtain ⟨t, rfl⟩ := rx; rfl)
theorem op_notN : OpR X (compareOp .IsNot) (fun x y H Q => y = .non ∧ Q (.bl (!decide (x = .non))) H) := by
  intro pins s σ H x y v u Q I rx ry h
  obtain ⟨rfl, q⟩ := h
  cases ry
  refine isnot_none_gen (fin_bl I q ?_)
  cases x <;> first
    | (cases rx; rfl)
    | (obtain ⟨t, rfl⟩ := rx; rfl)
theorem nomark (b : Expr) {op : CmpOp} (h : op ≠ .In := by decide) (h2 : op ≠ .NotIn := by decide) : behindInMarks op b = false := by
  have e1 : (op == CmpOp.In) = false := by cases op <;> first | rfl | exact absurd rfl h
  have e2 : (op == CmpOp.NotIn) = false := by cases op <;> first | rfl | exact absurd rfl h2
  cases b <;> simp [behindInMarks, e1, e2]
theorem pe_cmpR {op : CmpOp} {r : R2} (ho : OpR X (compareOp op) r) (ha : PE X a ta) (hb : PE X b tb) (hm : behindInMarks op b = false) : PE X (.Compare a [op] [b] pos) (tOp r ta tb) := by
  intro pins s σ H Q I h
  exact wpAny_Compare1 (binT ha hb I h fun v u s2 x y H2 I2 rx ry q => ho pins s2 σ H2 x y v u Q I2 rx ry q) hm
def tTest (t : TE) : TT := fun σ H Q => t σ H fun x H' => ∃ k, x = .bl k ∧ Q k H'
theorem pt_cmpR {op : CmpOp} {r : R2} (ho : OpR X (compareOp op) r) (ha : PE X a ta) (hb : PE X b tb) (hm : behindInMarks op b = false) : PT X (.Compare a [op] [b] pos) (tTest (tOp r ta tb)) := by
  intro pins s σ H Q I h
  refine wpAny_isTrue_Compare1 (thn (ha pins s σ H _ I h) fun v s1 ⟨x, H1, I1, r1, q1⟩ => thn (hb pins s1 σ H1 _ I1 q1) fun u s2 ⟨y, H2, I2, r2, q2⟩ =>
    thn (ho pins s2 σ H2 x y v u _ I2 r1 r2 q2) fun c s3 ⟨z, H3, I3, r3, k, e, q3⟩ => ?_) hm
  subst e
  cases r3
  exact wpAny_truthy_bool ⟨H3, I3, q3⟩
def tChain (r r' : R2) (ta tb tc : TE) : TE := fun σ H Q => ta σ H fun x H1 => tb σ H1 fun y H2 => r x y H2 fun z H3 => ∃ k, z = .bl k ∧
  (if k = true then tc σ H3 fun w' H4 => r' y w' H4 Q else Q (.bl false) H3)
theorem pe_chain {op op' : CmpOp} {r r' : R2} (ho : OpR X (compareOp op) r) (ho' : OpR X (compareOp op') r') (ha : PE X a ta) (hb : PE X b tb) (hc : PE X c tc)
    (hm : lastMarks [op, op'] [b, c] = false := by with_unfolding_all rfl) : PE X (.Compare a [op, op'] [b, c] pos) (tChain r r' ta tb tc) := by
  intro pins s σ H Q I h
  refine Compare_chain (thn (ha pins s σ H _ I h) fun v s1 ⟨x, H1, I1, r1, q1⟩ => chain_link (thn (hb pins s1 σ H1 _ I1 q1) fun u s2 ⟨y, H2, I2, r2, q2⟩ =>
    thn (ho pins s2 σ H2 x y v u _ I2 r1 r2 q2) fun d s3 ⟨z, H3, I3, r3, k, e, q3⟩ => ?_)) hm
  subst e
  cases r3
  refine wpAny_truthy_bool ?_
  cases k with
  | false => exact ite_ff ⟨.bl false, H3, I3, rfl, q3⟩
  | true => exact ite_tt (chain_last (thn (hc pins s3 σ H3 _ I3 q3) fun w' s4 ⟨z', H4, I4, r4, q4⟩ => ho' pins s4 σ H4 y z' u w' Q I4 r2 r4 q4))
theorem pt_chain {op op' : CmpOp} {r r' : R2} (ho : OpR X (compareOp op) r) (ho' : OpR X (compareOp op') r') (ha : PE X a ta) (hb : PE X b tb) (hc : PE X c tc)
    (hm : lastMarks [op, op'] [b, c] = false := by with_unfolding_all rfl) : PT X (.Compare a [op, op'] [b, c] pos) (tTest (tChain r r' ta tb tc)) := by
  intro pins s σ H Q I h
  refine isTrue_chain (thn (ha pins s σ H _ I h) fun v s1 ⟨x, H1, I1, r1, q1⟩ => test_link (thn (hb pins s1 σ H1 _ I1 q1) fun u s2 ⟨y, H2, I2, r2, q2⟩ =>
    thn (ho pins s2 σ H2 x y v u _ I2 r1 r2 q2) fun d s3 ⟨z, H3, I3, r3, k, e, q3⟩ => ?_)) hm
  subst e
  cases r3
  refine wpAny_truthy_bool ?_
  cases k with
  | false =>
    obtain ⟨k', e', q'⟩ := q3
    cases e'
    exact ite_ff ⟨H3, I3, q'⟩
  | true =>
    refine ite_tt (test_last (thn (hc pins s3 σ H3 _ I3 q3) fun w' s4 ⟨z', H4, I4, r4, q4⟩ => thn (ho' pins s4 σ H4 y z' u w' _ I4 r2 r4 q4) fun d' s5 ⟨z2, H5, I5, r5, k2, e2, q5⟩ => ?_))
    subst e2
    cases r5
    exact wpAny_truthy_bool ⟨H5, I5, q5⟩
theorem line63 : (sizeLine : Nat) < 2 ^ 63 := by rw [sizeLine_eq]; decide
theorem op_add_str : OpR X (binaryOp .Add) (fun x y H Q => ∃ i j, x = .str i ∧ y = .str j ∧ i.length + j.length ≤ sizeLine ∧ Q (.str (i ++ j)) H) := by
  intro pins s σ H x y v u Q I rx ry h
  obtain ⟨i, j, rfl, rfl, hz, q⟩ := h
  obtain ⟨t, rfl⟩ := rx
  obtain ⟨t', rfl⟩ := ry
  exact add_str (fun t' tk => ⟨.str (i ++ j), H, I.tok _, ⟨_, rfl⟩, q⟩) hz
theorem vals1 {x : V} {us : List Value} (r : Vals [x] us) : ∃ u, us = [u] ∧ RelV x u := by
  cases r with
  | cons r1 r2 => cases r2; exact ⟨_, rfl, r1⟩
theorem vals2 {x y : V} {us : List Value} (r : Vals [x, y] us) : ∃ u w', us = [u, w'] ∧ RelV x u ∧ RelV y w' := by
  cases r with
  | cons r1 r2 =>
    cases r2 with
    | cons r3 r4 => cases r4; exact ⟨_, _, rfl, r1, r3⟩
theorem call_max2 (hc : X.calm = true) : CallR X (.builtin "max") (fun xs H Q => ∃ i j, xs = [.int i, .int j] ∧ Q (.int (if j > i then j else i)) H) := by
  intro pins s σ H xs us Q I r h
  obtain ⟨i, j, rfl, q⟩ := h
  obtain ⟨u, w', rfl, ⟨t, rfl⟩, ⟨t', rfl⟩⟩ := vals2 r
  refine max_two_ints (I.ok.hd hc) fun h' tk k => ⟨_, H, I.kept k, ?_, q⟩
  by_cases hj : j > i
  · rw [if_pos hj, if_pos hj]; exact ⟨_, rfl⟩
  · rw [if_neg hj, if_neg hj]; exact ⟨_, rfl⟩
theorem call_min2 (hc : X.calm = true) : CallR X (.builtin "min") (fun xs H Q => ∃ i j, xs = [.int i, .int j] ∧ Q (.int (if j < i then j else i)) H) := by
  intro pins s σ H xs us Q I r h
  obtain ⟨i, j, rfl, q⟩ := h
  obtain ⟨u, w', rfl, ⟨t, rfl⟩, ⟨t', rfl⟩⟩ := vals2 r
  refine min_two_ints (I.ok.hd hc) fun h' tk k => ⟨_, H, I.kept k, ?_, q⟩
  by_cases hj : j < i
  · rw [if_pos hj, if_pos hj]; exact ⟨_, rfl⟩
  · rw [if_neg hj, if_neg hj]; exact ⟨_, rfl⟩
theorem call_int1 : CallR X (.type "int") (fun xs H Q => (∃ i, xs = [.int i] ∧ Q (.int i) H) ∨ ∃ k, xs = [.bl k] ∧ Q (.int (if k then 1 else 0)) H) := by
  intro pins s σ H xs us Q I r h
  rcases h with ⟨i, rfl, q⟩ | ⟨k, rfl, q⟩
  · obtain ⟨u, rfl, t, rfl⟩ := vals1 r
    exact call_int_int ⟨.int i, H, I, ⟨_, rfl⟩, q⟩
  · obtain ⟨u, rfl, r1⟩ := vals1 r
    cases r1
    exact call_int_bool ⟨.int (if k then 1 else 0), H, I.tok _, ⟨_, rfl⟩, q⟩
end
end L2
namespace L2
open PySem PySem.Spec PyProof.Rows
structure ObjM (h : Heap) (x dx C : Addr) (mA : Str → Option Value) : Prop where
  obj : h.get? x = some (PySem.W.instObj C dx)
  ns : h.Ns1 dx mA
  ne : dx ≠ x
theorem lookIn_ns {h : Heap} {dx : Addr} {mA : Str → Option Value} (n : h.Ns1 dx mA) : ∃ od, h.get? dx = some od ∧ ∀ name, PySem.W.lookIn name od = some (mA name) := by
  obtain ⟨o, es, ep, ho, hd, hk, _, hm⟩ := n
  refine ⟨o, ho, fun name => ?_⟩
  have e := hm name
  unfold nsFind findBy at e
  rw [← Array.find?_toList] at e
  unfold PySem.W.lookIn
  rw [hd]
  dsimp only
  split
  · rename_i y q
    rw [q] at e
    exact congrArg some e
  · rename_i q
    rw [q] at e
    have a : es.toList.any (·.refKey) = false := by
      rw [List.any_eq_false]
      intro y hy
      obtain ⟨z, t, hkey⟩ := hk y (Array.mem_toList_iff.mp hy)
      simp [DictEntry.refKey, hkey]
    have a' : ¬ es.toList.any (·.refKey) = true := by rw [a]; exact Bool.false_ne_true
    rw [if_neg a']
    exact congrArg some e
theorem ObjM.look {h : Heap} {x dx C : Addr} {mA : Str → Option Value} (I : ObjM h x dx C mA) : ∃ od, PySem.W.InstAt h x (PySem.W.instObj C dx) C (some od) ∧ ∀ name, PySem.W.lookIn name od = some (mA name) :=
  let ⟨od, ho, hl⟩ := lookIn_ns I.ns
  ⟨od, ⟨I.obj, rfl, rfl, ho⟩, hl⟩
section
variable {prog : Program} {w : World} {A : Around} {E : Value → Shared → Prop} {s : Shared} {K : PySem.W.Frag} {x dx C f : Addr} {mA : Str → Option Value} {name : Str} {v : Value}
theorem get_map {expr : Bool} {Q : Value → Shared → Prop} (X : K.In s.heap) (I : ObjM s.heap x dx C mA) (hg : PySem.W.plainGet K C name = true) (hh : PySem.W.hasDictIn K C = true)
    (ha : PySem.W.findIn K (.ref C) name = some none) (hv : mA name = some v) (hv' : PySem.W.handedIn v = true) (h : Q v { s with toks := s.toks + 1 }) :
    wpAny (model prog w) A (getAttr (.ref x) name expr) Q E s := by
  obtain ⟨od, J, hl⟩ := I.look
  exact PySem.W.get_value X J (PySem.W.plainGet_of hg).1 (PySem.W.findObj_own hh ha rfl (by rw [hl, hv])) hv' h
theorem get_meth {pl : Sem Bool} {Q : Value × List Value → Shared → Prop} (X : K.In s.heap) (I : ObjM s.heap x dx C mA) (hg : PySem.W.plainGet K C name = true)
    (hf : PySem.W.findIn K (.ref C) name = some (some (.ref f))) (ht : PySem.W.isFn K (.ref f) = true) (hv : mA name = none) (h : Q (.ref f, [.ref x]) s) :
    wpAny (model prog w) A (getMethod (.ref x) name pl) Q E s := by
  obtain ⟨od, J, hl⟩ := I.look
  exact PySem.W.method_fn X J (PySem.W.plainGet_of hg).1 (PySem.W.plainGet_of hg).2 hf (beq_iff_eq.mp ht) (by show (PySem.W.lookIn name od).map (·.isSome) = some false; rw [hl, hv]; rfl) h
theorem set_map {ns : List Str} {Q : Unit → Shared → Prop} (X : K.In s.heap) (I : ObjM s.heap x dx C mA)
    (hs : PySem.W.findIn K (.ref C) "__setattr__" = some (some (.builtin "object.__setattr__"))) (hp : PySem.W.plainOver K C = true) (ht : PySem.W.takerIn K C name = some none) (hh : PySem.W.hasDictIn K C = true)
    (hw : PySem.Within mA ns) (hsz : ns.length ≤ sizeLine)
    (h : ∀ h', ObjM h' x dx C (fun y => if y = name then some v else mA y) → Heap.SameBut dx s.heap h' → Q () { s with heap := h', toks := s.toks + 2 }) :
    wpAny (model prog w) A (setAttr (.ref x) name v) Q E s := by
  obtain ⟨od, J, hl⟩ := I.look
  refine PySem.W.set_plain X J hs (PySem.W.osa_open (s := { s with toks := s.toks + 1 }) (r := none) X J hp ht fun b => ?_)
  obtain ⟨cd, hc, hd'⟩ := PySem.W.any_some hh
  have hx : s.heap.get? x = some ⟨.ref C, some dx, .plain, #[]⟩ := I.obj
  refine wpAny_bind (wpAny_pure (wpAny_bind (wpAny_bind (wpAny_loadPart hx (wpAny_bind (PySem.W.Looks.here (s := { s with toks := s.toks + 1 }) (PySem.W.looks_clsIn X hc) ?_))))))
  rw [hd']
  refine wpAny_pure (a := some dx) (wpAny_bind (wpAny_pure (wpAny_bind ?_)))
  refine wpAny_nsSet1 (s := { s with toks := s.toks + 1 }) I.ns fun h' hn2 hs2 => ?_
  obtain ⟨oD, esD, epD, hoD, hdD, hcD⟩ := hn2.count (PySem.Within.cons name v hw)
  refine wpAny_bind (wpAny_lookBehind hoD (by rw [hdD]; exact pastItsLine_dict (Nat.le_trans hcD (by rw [List.length_cons]; omega))) ?_)
  exact wpAny_pure (h _ ⟨(hs2.2 _ (Ne.symm I.ne)).trans I.obj, hn2, I.ne⟩ hs2)
theorem make_map {R : Result → Shared → Prop} {vs : List Value} {kw : List (Str × Value)} (X : K.In s.heap) (hm : PySem.W.makesIn K C = true)
    (hi : PySem.W.findIn K (.ref C) "__init__" = some (some (.ref f))) (hf : PySem.W.typeIn K (.ref f) = some (.type "function"))
    (h : codeAny (model prog w) (A.under (.builtin "type.__call__" ⟨.ref C :: vs, kw⟩)) (.call (.ref f) ⟨.ref (s.heap.objs.size + 1) :: vs, kw⟩) (PySem.W.InitBack (s.heap.objs.size + 1) R)
      { s with heap := (s.heap.push PySem.W.emptyDict).push (PySem.W.instObj C s.heap.objs.size) }) :
    codeAny (model prog w) A (.call (.ref C) ⟨vs, kw⟩) R s := by
  obtain ⟨hh, g, d, t, os⟩ := s
  exact PySem.W.make_core (PySem.W.makes_of X hm) (PySem.W.looks_findIn X hi) (fun self => PySem.W.bind_fn X self hf) (.inl rfl) h
end
def putF (f : Str) (v : V) : List (Str × V) → List (Str × V)
  | [] => [(f, v)]
  | (g, x) :: r => if g = f then (g, v) :: r else (g, x) :: putF f v r
theorem lookup_putF (f g : Str) (v : V) : ∀ fs : List (Str × V), (putF f v fs).lookup g = if g = f then some v else fs.lookup g
  | [] => by
    show List.lookup g [(f, v)] = _
    by_cases h : g = f
    · have hb : (g == f) = true := beq_iff_eq.mpr h
      simp only [List.lookup, hb, if_pos h]
    · have hb : (g == f) = false := beq_eq_false_iff_ne.mpr h
      simp only [List.lookup, hb, if_neg h]
  | (k, x) :: r => by
    have ih := lookup_putF f g v r
    rw [show putF f v ((k, x) :: r) = (if k = f then (k, v) :: r else (k, x) :: putF f v r) from rfl]
    by_cases hk : k = f
    · rw [if_pos hk]
      by_cases h : g = k
      · have hb : (g == k) = true := beq_iff_eq.mpr h
        simp only [List.lookup, hb, if_pos (h.trans hk)]
      · have hb : (g == k) = false := beq_eq_false_iff_ne.mpr h
        simp only [List.lookup, hb, if_neg (fun e : g = f => h (e.trans hk.symm))]
    · rw [if_neg hk]
      by_cases h : g = k
      · have hb : (g == k) = true := beq_iff_eq.mpr h
        simp only [List.lookup, hb, if_neg (fun e : g = f => hk (h.symm.trans e))]
      · have hb : (g == k) = false := beq_eq_false_iff_ne.mpr h
        simp only [List.lookup, hb]
        exact ih
theorem keys_putF (f : Str) (v : V) : ∀ fs : List (Str × V), f ∈ (putF f v fs).map (·.1) ∧ ∀ g, g ∈ fs.map (·.1) → g ∈ (putF f v fs).map (·.1)
  | [] => ⟨by simp [putF], fun g h => by simp at h⟩
  | (k, x) :: r => by
    obtain ⟨i1, i2⟩ := keys_putF f v r
    rw [show putF f v ((k, x) :: r) = (if k = f then (k, v) :: r else (k, x) :: putF f v r) from rfl]
    by_cases hk : k = f
    · rw [if_pos hk]
      subst hk
      exact ⟨by simp, fun g h => by simpa using h⟩
    · rw [if_neg hk]
      refine ⟨?_, fun g h => ?_⟩
      · rw [List.map_cons]
        exact List.mem_cons_of_mem _ i1
      · rw [List.map_cons] at h ⊢
        rcases List.mem_cons.mp h with e | e
        · exact List.mem_cons.mpr (.inl e)
        · exact List.mem_cons_of_mem _ (i2 g e)
theorem length_putF (f : Str) (v : V) : ∀ fs : List (Str × V), (putF f v fs).length ≤ fs.length + 1
  | [] => by simp [putF]
  | (k, x) :: r => by
    have ih := length_putF f v r
    rw [show putF f v ((k, x) :: r) = (if k = f then (k, v) :: r else (k, x) :: putF f v r) from rfl]
    by_cases hk : k = f
    · rw [if_pos hk, List.length_cons, List.length_cons]; omega
    · rw [if_neg hk, List.length_cons, List.length_cons]; omega
theorem RelO.some_of {v : V} {o : Option Value} (r : RelO (some v) o) : ∃ u, o = some u ∧ RelV v u := by
  cases o with
  | none => exact (show False from r).elim
  | some u => exact ⟨u, rfl, r⟩
theorem RelO.none_of {o : Option Value} (r : RelO none o) : o = none := by
  cases o with
  | none => rfl
  | some u => exact (show False from r).elim
theorem handed_of {v : V} {u : Value} (r : RelV v u) : PySem.W.handedIn u = true := by
  cases v with
  | non => cases (show u = Value.none from r); rfl
  | bl b => cases (show u = Value.bool b from r); rfl
  | int i => obtain ⟨t, e⟩ := (show ∃ t, u = Value.int i t from r); cases e; rfl
  | str x => obtain ⟨t, e⟩ := (show ∃ t, u = Value.str x t from r); cases e; rfl
  | byt b => obtain ⟨t, e⟩ := (show ∃ t, u = Value.bytes b t from r); cases e; rfl
  | flt b => obtain ⟨t, e⟩ := (show ∃ t, u = Value.float b t from r); cases e; rfl
  | ref a => cases (show u = Value.ref a from r); rfl
  | ty n => cases (show u = Value.type n from r); rfl
section
variable {P : Program} {w : World} {H H' : Hp} {h h' : Heap} {a C dx : Addr} {fs fs' : List (Str × V)}
theorem ins_get (hok : HOk P w H h) (e : H a = some (.ins C dx fs)) : ∃ mA, ObjM h a dx C mA ∧ (∀ f, RelO (fs.lookup f) (mA f)) ∧ PySem.Within mA (fs.map (·.1)) ∧ fs.length ≤ 1000 ∧ H dx = some (.own a) := by
  obtain ⟨d, z, ne, ob, mA, n, r, q⟩ := (show ObjOk P w H h a (.ins C dx fs) from hok a _ e)
  exact ⟨mA, ⟨ob, n, ne⟩, r, q, z, d⟩
end
structure Cls (K : PySem.W.Frag) (C : Addr) : Prop where
  pg : PySem.W.plainGet K C Str.empty = true
  hd : PySem.W.hasDictIn K C = true
  po : PySem.W.plainOver K C = true
  sa : PySem.W.findIn K (.ref C) "__setattr__" = some (some (.builtin "object.__setattr__"))
theorem Cls.get {K : PySem.W.Frag} {C : Addr} (c : Cls K C) (f : Str) : PySem.W.plainGet K C f = true := c.pg
def NoAttr (K : PySem.W.Frag) (C : Addr) (f : Str) : Prop := PySem.W.findIn K (.ref C) f = some none
theorem NoAttr.taker {K : PySem.W.Frag} {C : Addr} {f : Str} (n : NoAttr K C f) : PySem.W.takerIn K C f = some none := by
  unfold PySem.W.takerIn
  rw [show PySem.W.findIn K (.ref C) f = some none from n]
  rfl
structure Meth (K : PySem.W.Frag) (C : Addr) (m : Str) (f : Addr) : Prop where
  at_ : PySem.W.findIn K (.ref C) m = some (some (.ref f))
  fn : PySem.W.isFn K (.ref f) = true
  kp : PySem.W.keepIn K (.ref f) = true
section
variable {X : Cx} {pins : List (Addr × Obj)} {σ : St} {H : Hp} {s : Shared} {a C dx : Addr} {fs : List (Str × V)} {f : Str} {v : V} {A : Around} {E : Value → Shared → Prop}
theorem getattr_ok {b : Bool} {Q : Value → Shared → Prop} (I : Inv X pins σ H s) (e : H a = some (.ins C dx fs)) (c : Cls X.K C) (n : NoAttr X.K C f) (l : fs.lookup f = some v)
    (h : ∀ u s', Inv X pins σ H s' → RelV v u → Q u s') : wpAny (model X.prog X.w) A (getAttr (.ref a) f b) Q E s := by
  obtain ⟨mA, O, r, _, _, _⟩ := ins_get I.hok e
  obtain ⟨u, hu, ru⟩ := RelO.some_of (v := v) (o := mA f) (by rw [← l]; exact r f)
  exact get_map I.kIn O (c.get f) c.hd n hu (handed_of ru) (h u _ (I.tok _) ru)
theorem getmeth_ok {m : Str} {g : Addr} {pl : Sem Bool} {Q : Value × List Value → Shared → Prop} (I : Inv X pins σ H s) (e : H a = some (.ins C dx fs)) (c : Cls X.K C) (k : Meth X.K C m g) (l : fs.lookup m = none)
    (h : Q (.ref g, [.ref a]) s) : wpAny (model X.prog X.w) A (getMethod (.ref a) m pl) Q E s := by
  obtain ⟨mA, O, r, _, _, _⟩ := ins_get I.hok e
  have hn : mA m = none := RelO.none_of (by rw [← l]; exact r m)
  exact get_meth I.kIn O (c.get m) k.at_ k.fn hn h
theorem setattr_ok {y : V} {u : Value} {Q : Unit → Shared → Prop} (I : Inv X pins σ H s) (e : H a = some (.ins C dx fs)) (c : Cls X.K C) (n : NoAttr X.K C f) (hl : fs.length < 1000) (ry : RelV y u)
    (h : ∀ s', Inv X pins σ (upd H a (.ins C dx (putF f y fs))) s' → Q () s') : wpAny (model X.prog X.w) A (setAttr (.ref a) f u) Q E s := by
  obtain ⟨mA, O, r, wi, _, ho⟩ := ins_get I.hok e
  have hz : (fs.map (·.1)).length ≤ sizeLine := by rw [List.length_map, sizeLine_eq]; omega
  refine set_map I.kIn O c.sa c.po n.taker c.hd wi hz fun h' O' sb => h _ ?_
  have hd : ∃ o, h'.get? dx = some o := let ⟨o, _, _, e', _⟩ := O'.ns; ⟨o, e'⟩
  refine I.write (x := a) (e := dx) (by rw [e]; exact True.intro) (.inr ho) (fun b q hb z => (sb.2 b hb).trans z) hd ?_
  refine ⟨by rw [upd_ne O.ne]; exact ho, ?_, O.ne, O'.obj, _, O'.ns, fun g => ?_, fun g hg => ?_⟩
  · have := length_putF f y fs; omega
  · show RelO ((putF f y fs).lookup g) (if g = f then some u else mA g)
    rw [lookup_putF]
    by_cases q : g = f
    · rw [if_pos q, if_pos q]; exact ry
    · rw [if_neg q, if_neg q]; exact r g
  · by_cases q : g = f
    · rw [q]; exact (keys_putF f y fs).1
    · refine (keys_putF f y fs).2 g (wi g fun z => hg ?_)
      show (if g = f then some u else mA g) = none
      rw [if_neg q]; exact z
theorem Inv.made (I : Inv X pins σ H s) : Inv X pins σ (upd (upd H s.heap.objs.size (.own (s.heap.objs.size + 1))) (s.heap.objs.size + 1) (.ins C s.heap.objs.size []))
    { s with heap := (s.heap.push PySem.W.emptyDict).push (PySem.W.instObj C s.heap.objs.size) } := by
  have e1 : (s.heap.push PySem.W.emptyDict).get? s.heap.objs.size = some PySem.W.emptyDict := Heap.get?_push_size s.heap rfl
  have e2 : ((s.heap.push PySem.W.emptyDict).push (PySem.W.instObj C s.heap.objs.size)).get? (s.heap.objs.size + 1) = some (PySem.W.instObj C s.heap.objs.size) := by
    have := Heap.get?_push_size (s.heap.push PySem.W.emptyDict) (o := PySem.W.instObj C s.heap.objs.size) rfl
    rwa [Heap.size_push] at this
  have e3 : (s.heap.push PySem.W.emptyDict).Ns s.heap.objs.size (fun _ => none) := ⟨PySem.W.emptyDict, #[], _, e1, rfl, (fun e he => absurd he (by simp)), fun _ => rfl⟩
  have I1 := I.laid (a := s.heap.objs.size) (o := .own (s.heap.objs.size + 1)) (h' := s.heap.push PySem.W.emptyDict) (t' := s.toks) (fun b u q => Heap.get?_push_of_some _ q) (Nat.le_refl _) ⟨_, e1⟩
  refine I1.laid (a := s.heap.objs.size + 1) (o := .ins C s.heap.objs.size []) (t' := s.toks) (fun b u q => Heap.get?_push_of_some _ q) (Nat.le_of_eq (Heap.size_push _ _)) ?_
  have ne : s.heap.objs.size ≠ s.heap.objs.size + 1 := Nat.ne_of_lt (Nat.lt_succ_self _)
  refine ⟨by rw [upd_ne ne, upd_same], Nat.zero_le _, ne, e2, fun _ => none, (Heap.Ns1.of_empty e3).at fun o q => Heap.get?_push_of_some _ q, fun _ => True.intro, fun y hy => absurd rfl hy⟩
theorem attr_of {prog : Program} {w : World} {env : Env} {e : Expr} {f : Str} {pos : Pos} {s : Shared} {Q : Value → Shared → Prop} (hb : attributeBase e f env (eval e env) = eval e env)
    (h : wpAny (model prog w) A (eval e env) (fun o s₁ => wpAny (model prog w) A (getAttr o f true) Q E s₁) E s) : wpAny (model prog w) A (eval (.Attribute e f pos) env) Q E s :=
  Attribute_any_ h (by rw [arm_eval_Attribute, hb])
end
def tFld (K : PySem.W.Frag) (ta : TE) (f : Str) : TE := fun σ H Q => ta σ H fun x H1 => ∃ a C dx fs v, x = .ref a ∧ H1 a = some (.ins C dx fs) ∧ Cls K C ∧ NoAttr K C f ∧ fs.lookup f = some v ∧ Q v H1
def sFld (K : PySem.W.Frag) (ta tv : TE) (f : Str) : TS := fun D σ H => tv σ H fun y H1 => ta σ H1 fun x H2 => ∃ a C dx fs, x = .ref a ∧ H2 a = some (.ins C dx fs) ∧ Cls K C ∧ NoAttr K C f ∧ fs.length < 1000 ∧
  D.nx σ (upd H2 a (.ins C dx (putF f y fs)))
section
variable {X : Cx} {o e value : Expr} {f : Str} {pos pos' tpos : Pos} {ta tv : TE}
theorem pe_fld (he : PE X e ta) (hb : attributeBase e f X.env (eval e X.env) = eval e X.env) : PE X (.Attribute e f pos) (tFld X.K ta f) := by
  intro pins s σ H Q I h
  refine attr_of hb (thn (he pins s σ H _ I h) fun u s1 ⟨x, H1, I1, rx, a, C, dx, fs, v, ex, ea, c, n, l, q⟩ => ?_)
  subst ex
  obtain rfl : u = Value.ref a := rx
  exact getattr_ok I1 ea c n l fun u' s2 I2 ru => ⟨v, H1, I2, ru, q⟩
theorem ps_fld (ha : PE X o ta) (hv : PE X value tv) (hs : swapsWith value (some (.Attribute o f pos')) pos.line X.env = pure false) : PS X (.Assign [.Attribute o f pos'] value pos) (sFld X.K ta tv f) := by
  intro pins s σ H D I h
  refine plainObj_wpAny_Assign_Attribute (thn (hv pins s σ H _ I h) fun u s1 ⟨y, H1, I1, ry, q⟩ => thn (ha pins s1 σ H1 _ I1 q) fun ov s2 ⟨x, H2, I2, rx, a, C, dx, fs, ex, ea, c, n, l, q2⟩ => ?_) hs
  subst ex
  obtain rfl : ov = Value.ref a := rx
  exact setattr_ok I2 ea c n l ry fun s3 I3 => ⟨σ, _, I3, q2⟩
end
section
variable {X : Cx} {pins : List (Addr × Obj)} {σ : St} {H : Hp} {s : Shared} {A : Around} {E : Value → Shared → Prop} {Q : Value → Shared → Prop} {c : Value} {b : Bool}
inductive TyOf (K : PySem.W.Frag) (H : Hp) : V → Value → Prop where
  | non : TyOf K H .non (.type "NoneType")
  | bl (x : Bool) : TyOf K H (.bl x) (.type "bool")
  | int (i : Int) : TyOf K H (.int i) (.type "int")
  | str (x : Str) : TyOf K H (.str x) (.type "str")
  | flt (x : UInt64) : TyOf K H (.flt x) (.type "float")
  | lst {a : Addr} {xs : List V} (e : H a = some (.lst xs)) : TyOf K H (.ref a) (.type "list")
  | frz {a : Addr} {o : Obj} {xs : List V} (e : H a = some (.frz o (.lst xs))) : TyOf K H (.ref a) (.type "list")
  | tup {a : Addr} {xs : List V} (e : H a = some (.tup xs)) : TyOf K H (.ref a) (.type "tuple")
  | dK {a : Addr} {kvs : List (Key × V)} (e : H a = some (.dK kvs)) : TyOf K H (.ref a) (.type "dict")
  | dT {a : Addr} {kvs : List (List Key × V)} (e : H a = some (.dT kvs)) : TyOf K H (.ref a) (.type "dict")
  | ins {a C dx : Addr} {fs : List (Str × V)} (e : H a = some (.ins C dx fs)) (cl : Cls K C) (ha : PySem.W.findIn K (.ref C) "__class__" = some (some (.builtin "object.__class__")))
      (hn : PySem.W.specialIn K (.builtin "object.__class__") "__get__" = some (some (.builtin "getset_descriptor.__get__"))) (htk : PySem.W.takesIn K (.builtin "object.__class__") = some true)
      (hm : PySem.W.mroIn K C (.type "object") = some true) : TyOf K H (.ref a) (.ref C)
theorem isinst_ok {x : V} {u t : Value} (I : Inv X pins σ H s) (rx : RelV x u) (ty : TyOf X.K H x t) (e : PySem.W.kitOne X.K t c = some b) (h : ∀ tk, Q (.bool b) { s with toks := tk }) :
    wpAny (model X.prog X.w) A (call (.builtin "isinstance") [u, c]) Q E s := by
  cases ty with
  | non => cases (show u = Value.none from rx); exact PySem.W.kia_one PySem.W.kitx_none I.kIn True.intro e (fun z => nomatch z) h
  | bl y => cases (show u = Value.bool y from rx); exact PySem.W.kia_one PySem.W.kitx_bool I.kIn True.intro e (fun z => nomatch z) h
  | int i => obtain ⟨t, q⟩ := (show ∃ t, u = Value.int i t from rx); cases q; exact PySem.W.kia_one PySem.W.kitx_int I.kIn True.intro e (fun z => nomatch z) h
  | str y => obtain ⟨t, q⟩ := (show ∃ t, u = Value.str y t from rx); cases q; exact PySem.W.kia_one PySem.W.kitx_str I.kIn True.intro e (fun z => nomatch z) h
  | flt y => obtain ⟨t, q⟩ := (show ∃ t, u = Value.float y t from rx); cases q; exact PySem.W.kia_one PySem.W.kitx_float I.kIn True.intro e (fun z => nomatch z) h
  | @lst a xs ea =>
    cases (show u = Value.ref a from rx)
    obtain ⟨_, _, n, _, h1⟩ := (show ObjOk X.prog X.w H s.heap a (.lst xs) from I.hok a _ ea)
    exact PySem.W.kia_one PySem.W.kitx_list I.kIn ⟨_, h1, rfl⟩ e (fun z => nomatch z) h
  | @frz a ob xs ea =>
    cases (show u = Value.ref a from rx)
    obtain ⟨_, _, _, n, _, h1⟩ := (show ObjOk X.prog X.w H s.heap a (.frz ob (.lst xs)) from I.hok a _ ea)
    exact PySem.W.kia_one PySem.W.kitx_list I.kIn ⟨_, h1, rfl⟩ e (fun z => nomatch z) h
  | @tup a xs ea =>
    cases (show u = Value.ref a from rx)
    obtain ⟨_, _, _, p⟩ := (show ObjOk X.prog X.w H s.heap a (.tup xs) from I.hok a _ ea)
    obtain ⟨o, h1, h2, _⟩ := p
    exact PySem.W.kia_one PySem.W.kitx_tuple I.kIn ⟨o, h1, h2⟩ e (fun z => nomatch z) h
  | @dK a kvs ea =>
    cases (show u = Value.ref a from rx)
    obtain ⟨_, _, vs, _, p⟩ := (show ObjOk X.prog X.w H s.heap a (.dK kvs) from I.hok a _ ea)
    obtain ⟨o, es, ep, h1, h2, _⟩ := p
    exact PySem.W.kia_one PySem.W.kitx_dict I.kIn ⟨o, h1, h2.1⟩ e (fun z => nomatch z) h
  | @dT a kvs ea =>
    cases (show u = Value.ref a from rx)
    obtain ⟨_, _, xs, _, o, es, ep, h1, h2, _⟩ := (show ObjOk X.prog X.w H s.heap a (.dT kvs) from I.hok a _ ea)
    exact PySem.W.kia_one PySem.W.kitx_dict I.kIn ⟨o, h1, h2.1⟩ e (fun z => nomatch z) h
  | @ins a C dx fs ea cl ha hn htk hm =>
    cases (show u = Value.ref a from rx)
    obtain ⟨mA, O, _⟩ := ins_get I.hok ea
    obtain ⟨od, J, _⟩ := O.look
    exact PySem.W.kia_one (PySem.W.kitx_own (cl.get _) cl.hd ha hn htk hm) I.kIn J e (fun z => nomatch z) h
end
end L2
namespace L2
open PySem PySem.Spec PyProof.Rows
structure Room (k : Nat) (A : Around) : Prop where
  hd : A.handled = none
  dp : A.depth + 3 * k + 5 < recursionLimit
  un : A.units + 16 * k + 200 < cLine
theorem Room.mono {j k : Nat} {A : Around} (r : Room k A) (h : j ≤ k) : Room j A := ⟨r.hd, by have := r.dp; omega, by have := r.un; omega⟩
theorem Room.deeper {k : Nat} {A : Around} (r : Room (k + 1) A) (env : Env) : Room k (A.deeper env) :=
  ⟨r.hd, by have := r.dp; show A.depth + 1 + 3 * k + 5 < _; omega, by have := r.un; show A.units + 3 + 16 * k + 200 < _; omega⟩
theorem Room.in1 {k : Nat} {A : Around} (r : Room (k + 1) A) : Room k A.in1 :=
  ⟨r.hd, by have := r.dp; show A.depth + 3 * k + 5 < _; omega, by have := r.un; show A.units + 1 + 16 * k + 200 < _; omega⟩
theorem make_depth {A : Around} {C : Addr} {us : List Value} {kw : List (Str × Value)} : (A.under (.builtin "type.__call__" ⟨.ref C :: us, kw⟩)).depth = A.depth + 1 := by
  first | rfl | simp [Around.under, Code.weight, Code.isCreation, Code.isGuard, Code.isCaller, Code.frames, Code.isFrame, guardIds]
theorem make_units {A : Around} {C : Addr} {us : List Value} {kw : List (Str × Value)} : (A.under (.builtin "type.__call__" ⟨.ref C :: us, kw⟩)).units = A.units + 1 := by
  first | rfl | simp [Around.under, Code.cUnits, Code.frames, Code.isFrame]
theorem Room.make {k : Nat} {A : Around} (r : Room (k + 1) A) (C : Addr) (us : List Value) (kw : List (Str × Value)) : Room k (A.under (.builtin "type.__call__" ⟨.ref C :: us, kw⟩)) :=
  ⟨r.hd, by have := r.dp; rw [make_depth]; omega, by have := r.un; rw [make_units]; omega⟩
theorem Room.depth {k : Nat} {A : Around} (r : Room k A) : A.depth < recursionLimit := by have := r.dp; omega
theorem Room.units {k : Nat} {A : Around} (r : Room k A) : A.units + 64 < cLine := by have := r.un; omega
theorem Room.units0 {k : Nat} {A : Around} (r : Room k A) : A.units < cLine := by have := r.un; omega
def tNil : TA := fun _ H Q => Q [] H
def tCons (ta : TE) (tr : TA) : TA := fun σ H Q => ta σ H fun x H1 => tr σ H1 fun xs H2 => Q (x :: xs) H2
section
variable {X : Cx} {e : Expr} {es : List Expr} {te : TE} {t : TA} {pos : Pos}
theorem pa_nil : PA X [] tNil := fun _ _ _ _ H Q I h => Calls.spliced_nil ⟨[], H, I, .nil, h⟩
theorem pa_cons (ha : PE X e te) (hr : PA X es t) (hs : starEach (e :: es) X.env = (false, eval e X.env) :: starEach es X.env := by rfl) : PA X (e :: es) (tCons te t) := by
  intro pos pins s σ H Q I h
  rw [hs]
  show wpAny _ _ (spliced ((false, eval e X.env) :: backTo pos (starEach es X.env))) _ _ s
  refine Calls.spliced_cons (thn (ha pins s σ H _ I h) fun u s1 ⟨x, H1, I1, r1, q1⟩ => ?_)
  exact thn (hr pos pins s1 σ H1 _ I1 q1) fun us s2 ⟨xs, H2, I2, r2, q2⟩ => ⟨x :: xs, H2, I2, .cons r1 r2, q2⟩
def tTup (t : TA) : TE := fun σ H Q => t σ H fun xs H1 => xs.length ≤ sizeLine ∧ ∀ p, H1 p = none → Q (.ref p) (upd H1 p (.tup xs))
def tLst (t : TA) : TE := fun σ H Q => t σ H fun xs H1 => xs.length ≤ sizeLine ∧ ∀ p, H1 p = none → Q (.ref p) (upd H1 p (.lst xs))
theorem pe_tup {x1} (h : PA X es t) : PE X (.Tuple es x1 pos) (tTup t) := by
  intro pins s σ H Q I hq
  refine wpAny_Tuple_spliced (thn (h pos pins s σ H _ I hq) fun us s1 ⟨xs, H1, I1, r, z, q⟩ => ⟨by rw [← r.length]; exact z, ?_⟩)
  have hf : H1 s1.heap.objs.size = none := I1.hok.fresh (Nat.le_refl _)
  refine ⟨.ref s1.heap.objs.size, upd H1 s1.heap.objs.size (.tup xs), I1.laid (t' := s1.toks) (fun b u e => Heap.get?_push_of_some _ e) (Nat.le_refl _) ?_, rfl, q _ hf⟩
  exact ⟨z, us, r, ⟨_, Heap.get?_push_size _ rfl, rfl, _, rfl⟩⟩
theorem pe_lst (h : PA X es t) : PE X (.List es pos) (tLst t) := by
  intro pins s σ H Q I hq
  refine wpAny_List_spliced (thn (h pos pins s σ H _ I hq) fun us s1 ⟨xs, H1, I1, r, z, q⟩ => ⟨by rw [← r.length]; exact z, ?_⟩)
  have hf : H1 s1.heap.objs.size = none := I1.hok.fresh (Nat.le_refl _)
  refine ⟨.ref s1.heap.objs.size, upd H1 s1.heap.objs.size (.lst xs), I1.laid (t' := s1.toks) (fun b u e => Heap.get?_push_of_some _ e) (Nat.le_refl _) ?_, rfl, q _ hf⟩
  exact ⟨z, us, 0, r, Heap.get?_push_size _ rfl⟩
end
abbrev Sp := List V → Hp → VK → XK → Prop
abbrev CXT := List Env → Hp → Shared → XK → Value → Shared → Prop
structure Env0 (P : Program) (w : World) (K : PySem.W.Frag) (mg : Str → Option Value) (base : Heap) (A : Around) (outer : List Env) (s : Shared) (H : Hp) : Prop where
  frames : A.frames = some outer
  mod : Mod K mg base
  bs : ∀ b o, base.get? b = some o → s.heap.get? b = some o ∧ H b = none
  bsz : base.objs.size ≤ s.heap.objs.size
  funs : s.heap.FunFrames base outer
  frf : ∀ b ∈ frs outer, H b = none
  hok : HOk P w H s.heap
  bare : AllBare s.gens
def CE (outer : List Env) (P : Program) (w : World) (H : Hp) (s : Shared) (Q : VK) (u : Value) (s' : Shared) : Prop :=
  ∃ v H', s'.os = s.os ∧ AllBare s'.gens ∧ Un (frs outer) [] H H' s.heap s'.heap ∧ HOk P w H' s'.heap ∧ RelV v u ∧ Q v H'
def CR (CX : CXT) (outer : List Env) (P : Program) (w : World) (H : Hp) (s : Shared) (Q : VK) (E : XK) (r : Result) (s' : Shared) : Prop :=
  match r with
  | .ok (.ret u) => CE outer P w H s Q u s'
  | .ok _ => False
  | .error e => CX outer H s E e s'
structure FnOk (P : Program) (w : World) (K : PySem.W.Frag) (mg : Str → Option Value) (base : Heap) (CX : CXT) (k : Nat) (f : Addr) (fd : FuncData) (ps : List Str) (sp : Sp) : Prop where
  len : ∀ vs H Q E, sp vs H Q E → vs.length = ps.length
  run : ∀ (A : Around) (outer : List Env) (s : Shared) (H : Hp) (args : Args) (us : List Value) (vs : List V) (Q : VK) (E : XK), Room k A → Env0 P w K mg base A outer s H → BindsTo s fd args (ps.zip us) → Vals vs us → sp vs H Q E →
    codeAny (model P w) A (.call (.ref f) args) (CR CX outer P w H s Q E) s
theorem FnOk.mono {P : Program} {w : World} {K : PySem.W.Frag} {mg : Str → Option Value} {base : Heap} {CX : CXT} {j k : Nat} {f : Addr} {fd : FuncData} {ps : List Str} {sp : Sp} (F : FnOk P w K mg base CX j f fd ps sp) (h : j ≤ k) :
    FnOk P w K mg base CX k f fd ps sp := ⟨F.len, fun A outer s H args us vs Q E hr => F.run A outer s H args us vs Q E (hr.mono h)⟩
theorem Env0.make {P : Program} {w : World} {K : PySem.W.Frag} {mg : Str → Option Value} {base : Heap} {A : Around} {outer : List Env} {s : Shared} {H : Hp} (e : Env0 P w K mg base A outer s H) (C : Addr) (us : List Value) (kw : List (Str × Value)) :
    Env0 P w K mg base (A.under (.builtin "type.__call__" ⟨.ref C :: us, kw⟩)) outer s H := ⟨by first | exact e.frames | (simpa [Around.under, Code.envs, Code.isFrame, pushEnvs] using e.frames), e.mod, e.bs, e.bsz, e.funs, e.frf, e.hok, e.bare⟩
theorem Env0.in1 {P : Program} {w : World} {K : PySem.W.Frag} {mg : Str → Option Value} {base : Heap} {A : Around} {outer : List Env} {s : Shared} {H : Hp} (e : Env0 P w K mg base A outer s H) :
    Env0 P w K mg base A.in1 outer s H := ⟨e.frames, e.mod, e.bs, e.bsz, e.funs, e.frf, e.hok, e.bare⟩
section
variable {X : Cx} {pins : List (Addr × Obj)} {σ : St} {H : Hp} {s s' : Shared}
theorem Inv.env0 (I : Inv X pins σ H s) : Env0 X.prog X.w X.K X.mg X.base X.A X.stack s H :=
  ⟨I.ok.frames, I.ok.mod, I.bs, Nat.le_trans I.ok.bsz I.sz, I.stack, I.stkFree, I.hok, I.bare⟩
theorem Inv.after {Q : VK} {u : Value} (I : Inv X pins σ H s) (h : CE X.stack X.prog X.w H s Q u s') : EP X pins σ Q u s' := by
  obtain ⟨v, H', os, bare, un, hok, r, q⟩ := h
  obtain ⟨hh, g, d, t, os'⟩ := s'
  obtain rfl : os' = s.os := os
  exact ⟨v, H', I.call (h' := hh) (g' := g) (d' := d) (t' := t) (ch := []) un hok bare (fun b z => absurd z (by simp)), r, q⟩
end
def tCall (sp : Sp) (dvs : List V) (E : XK) (t : TA) : TE := fun σ H Q => t σ H fun vs H1 => sp (vs ++ dvs) H1 Q E
def tMeth (C : Addr) (m : Str) (sp : Sp) (dvs : List V) (E : XK) (ta : TE) (t : TA) : TE := fun σ H Q => ta σ H fun x H1 => ∃ a dx fs, x = .ref a ∧ H1 a = some (.ins C dx fs) ∧ fs.lookup m = none ∧
  t σ H1 fun vs H2 => sp (x :: (vs ++ dvs)) H2 Q E
def tMake (C : Addr) (sp : Sp) (dvs : List V) (E : XK) (t : TA) : TE := fun σ H Q => t σ H fun vs H1 => ∀ x dx, H1 x = none → H1 dx = none → dx ≠ x →
  sp (.ref x :: (vs ++ dvs)) (upd (upd H1 dx (.own x)) x (.ins C dx [])) (fun v H2 => v = .non ∧ Q (.ref x) H2) E
def Binds (K : PySem.W.Frag) (fd : FuncData) (ps : List Str) (ds : List Value) : Prop :=
  ∀ (s : Shared) (us : List Value), K.In s.heap → (us ++ ds).length = ps.length → BindsTo s fd ⟨us, []⟩ (ps.zip (us ++ ds))
theorem Binds.all {K : PySem.W.Frag} {fd : FuncData} {ps : List Str} (h : ∀ us : List Value, us.length = ps.length → bindArgs fd ⟨us, []⟩ = pure (ps.zip us)) : Binds K fd ps [] := fun s us _ hl => by
  rw [List.append_nil] at hl ⊢
  exact .of_eq (h us hl)
def Passes (CX : CXT) (X : Cx) (E : XK) : Prop := ∀ (pins : List (Addr × Obj)) (σ : St) (H : Hp) (s : Shared) (e : Value) (s' : Shared), Inv X pins σ H s → CX X.stack H s E e s' → X.xe e s'
section
variable {X : Cx} {CX : CXT} {k : Nat} {f C : Addr} {fd : FuncData} {ps : List Str} {sp : Sp} {dvs : List V} {ds : List Value} {E : XK} {x m : Str} {p pos apos : Pos} {e o : Expr} {es : List Expr} {ta : TE} {t : TA}
theorem run_fn {pins : List (Addr × Obj)} {σ : St} {H : Hp} {s : Shared} {Q : VK} {us : List Value} {vs : List V} (F : FnOk X.prog X.w X.K X.mg X.base CX k f fd ps sp) (hr : Room k X.A) (hb : Binds X.K fd ps ds) (hd : Vals dvs ds) (hx : Passes CX X E)
    (I : Inv X pins σ H s) (r : Vals vs us) (h : sp (vs ++ dvs) H Q E) : wpAny (model X.prog X.w) X.A (call (.ref f) us) (EP X pins σ Q) X.xe s := by
  have r2 : Vals (vs ++ dvs) (us ++ ds) := r.append hd
  have hl : (us ++ ds).length = ps.length := by rw [← r2.length]; exact F.len _ _ _ _ h
  refine wpAny_call (codeAny_mono (F.run X.A X.stack s H ⟨us, []⟩ (us ++ ds) (vs ++ dvs) Q E hr I.env0 (hb s us I.kIn hl) r2 h) fun r s' hq => ?_)
  cases r with
  | error e => exact hx pins σ H s e s' I hq
  | ok fl =>
    cases fl with
    | ret u => exact I.after hq
    | next => exact False.elim hq
    | brk => exact False.elim hq
    | cont => exact False.elim hq
theorem pe_call (F : FnOk X.prog X.w X.K X.mg X.base CX k f fd ps sp) (hr : Room k X.A) (hg : Gl X x) (hm : X.mg x = some (.ref f)) (hk : PySem.W.keepIn X.K (.ref f) = true) (hb : Binds X.K fd ps ds) (hd : Vals dvs ds) (hx : Passes CX X E)
    (ha : PA X (e :: es) t) (hdb : (x == ("__debug__" : Str)) = false := by decide) (he : starEach (e :: es) X.env = (false, eval e X.env) :: starEach es X.env := by rfl) (hpl : (backTo pos (starEach es X.env)).any (·.1) = false := by rfl) :
    PE X (.Call (.Name x p) (e :: es) [] pos) (tCall sp dvs E t) := by
  intro pins s σ H Q I h
  refine wpAny_Call_Name_kw (ld_glob I hg hm ?_ hdb)
  refine PySem.W.callWith_K (h₀ := X.base) I.ok.mod.kin hk (thn (ha pos pins s σ H _ I h) fun us s1 ⟨vs, H1, I1, r, q⟩ => ⟨I1.kIn, ?_⟩) he hpl
  exact run_fn F hr hb hd hx I1 r q
theorem pe_meth {pl : Sem Bool} (he : PE X o ta) (c : Cls X.K C) (hm : Meth X.K C m f) (F : FnOk X.prog X.w X.K X.mg X.base CX k f fd ps sp) (hr : Room k X.A) (hb : Binds X.K fd ps ds) (hd : Vals dvs ds) (hx : Passes CX X E) (ha : PA X (e :: es) t)
    (hst : starEach (e :: es) X.env = (false, eval e X.env) :: starEach es X.env := by rfl) (hpl : (backTo pos (starEach es X.env)).any (·.1) = false := by rfl)
    (ht : eval (.Call (.Attribute o m apos) (e :: es) [] pos) X.env = (do
      let ov ← eval o X.env
      standAt apos.atName
      let (f, first) ← holding [ov] (getMethod ov m pl)
      callWith pos f first (backTo pos (starEach (e :: es) X.env)) (backToKw pos (keywordEach [] X.env))) := by rfl) :
    PE X (.Call (.Attribute o m apos) (e :: es) [] pos) (tMeth C m sp dvs E ta t) := by
  intro pins s σ H Q I h
  refine PySem.W.methodCall_KW (pl := pl) (thn (he pins s σ H _ I h) fun u s1 ⟨x, H1, I1, rx, a, dx, fs, ex, ea, l, q⟩ => ?_) ht
  subst ex
  obtain rfl : u = Value.ref a := rx
  refine getmeth_ok I1 ea c hm l ?_
  refine PySem.W.callWith_K (first := [.ref a]) (h₀ := X.base) I.ok.mod.kin hm.kp (thn (ha pos pins s1 σ H1 _ I1 q) fun us s2 ⟨vs, H2, I2, r, q2⟩ => ⟨I2.kIn, ?_⟩) hst hpl
  exact run_fn (us := .ref a :: us) (vs := .ref a :: vs) F hr hb hd hx I2 (.cons rfl r) q2
structure Mk (K : PySem.W.Frag) (C f : Addr) : Prop where
  makes : PySem.W.makesIn K C = true
  init : PySem.W.findIn K (.ref C) "__init__" = some (some (.ref f))
  fn : PySem.W.isFn K (.ref f) = true
  kp : PySem.W.keepIn K (.ref C) = true
theorem run_make {pins : List (Addr × Obj)} {σ : St} {H : Hp} {s : Shared} {Q : VK} {us : List Value} {vs : List V} (M : Mk X.K C f) (F : FnOk X.prog X.w X.K X.mg X.base CX k f fd ps sp) (hr : Room (k + 1) X.A) (hb : Binds X.K fd ps ds) (hd : Vals dvs ds)
    (hx : Passes CX X E) (I : Inv X pins σ H s) (r : Vals vs us)
    (h : ∀ x dx, H x = none → H dx = none → dx ≠ x → sp (.ref x :: (vs ++ dvs)) (upd (upd H dx (.own x)) x (.ins C dx [])) (fun v H2 => v = .non ∧ Q (.ref x) H2) E) :
    wpAny (model X.prog X.w) X.A (call (.ref C) us) (EP X pins σ Q) X.xe s := by
  have hq := h (s.heap.objs.size + 1) s.heap.objs.size (I.hok.fresh (Nat.le_succ _)) (I.hok.fresh (Nat.le_refl _)) (Nat.ne_of_lt (Nat.lt_succ_self _))
  have I2 := Inv.made (C := C) I
  have r2 : Vals (V.ref (s.heap.objs.size + 1) :: (vs ++ dvs)) (Value.ref (s.heap.objs.size + 1) :: (us ++ ds)) := .cons rfl (r.append hd)
  have hl : (Value.ref (s.heap.objs.size + 1) :: us ++ ds).length = ps.length := by
    have e := r2.length
    rw [F.len _ _ _ _ hq] at e
    exact e.symm
  refine wpAny_call (make_map (f := f) I.kIn M.makes M.init (beq_iff_eq.mp M.fn) (codeAny_mono (F.run _ X.stack _ _ ⟨Value.ref (s.heap.objs.size + 1) :: us, []⟩ (Value.ref (s.heap.objs.size + 1) :: (us ++ ds)) _ _ E (hr.make C us [])
    (I2.env0.make C us []) (hb _ (Value.ref (s.heap.objs.size + 1) :: us) I2.kIn hl) r2 hq) fun r s' hq' => ?_))
  cases r with
  | error e => exact hx pins σ _ _ e s' I2 hq'
  | ok fl =>
    cases fl with
    | ret u =>
      obtain ⟨v, H', I3, rv, ev, q3⟩ := I2.after hq'
      subst ev
      exact ⟨rv, ⟨V.ref (s.heap.objs.size + 1), H', I3, rfl, q3⟩⟩
    | next => exact False.elim hq'
    | brk => exact False.elim hq'
    | cont => exact False.elim hq'
theorem pe_make (M : Mk X.K C f) (F : FnOk X.prog X.w X.K X.mg X.base CX k f fd ps sp) (hr : Room (k + 1) X.A) (hg : Gl X x) (hm : X.mg x = some (.ref C)) (hb : Binds X.K fd ps ds) (hd : Vals dvs ds) (hx : Passes CX X E)
    (ha : PA X (e :: es) t) (hdb : (x == ("__debug__" : Str)) = false := by decide) (he : starEach (e :: es) X.env = (false, eval e X.env) :: starEach es X.env := by rfl) (hpl : (backTo pos (starEach es X.env)).any (·.1) = false := by rfl) :
    PE X (.Call (.Name x p) (e :: es) [] pos) (tMake C sp dvs E t) := by
  intro pins s σ H Q I h
  refine wpAny_Call_Name_kw (ld_glob I hg hm ?_ hdb)
  refine PySem.W.callWith_K (h₀ := X.base) I.ok.mod.kin M.kp (thn (ha pos pins s σ H _ I h) fun us s1 ⟨vs, H1, I1, r, q⟩ => ⟨I1.kIn, ?_⟩) he hpl
  exact run_make M F hr hb hd hx I1 r q
end
section
variable {X : Cx} {CX : CXT} {k : Nat} {f C : Addr} {fd : FuncData} {ps ks : List Str} {sp : Sp} {E : XK} {x m : Str} {p pos apos kpos : Pos} {e o : Expr} {es : List Expr} {kws : List Keyword} {te ta : TE} {t tk : TA} {nm : Option Str}
variable {g : List Value → List Value → List Value} {gV : List V → List V → List V}
end
structure FnScope (N P : List Str) (sc : Scope) : Prop where
  kind : sc.kind = .function
  co : sc.isCoroutine = false
  gen : sc.isGenerator = false
  nd : N.Nodup
  pre : N.take P.length = P
  par : ∀ x ∈ P, sc.names.lookup x = some .local ∨ sc.names.lookup x = some .cell
  nofree : ∀ y ∈ sc.names, y.2 ≠ .free
theorem bindL_out {kindOf : Str → Option NameKind} {x : Str} : ∀ {binds : List (Str × Value)} {m : Str → Option Value}, (∀ v, (x, v) ∉ binds) → bindL kindOf binds m x = m x
  | [], _, _ => rfl
  | (n, v) :: r, m, h => by
    unfold bindL
    rw [bindL_out fun w hw => h w (List.mem_cons_of_mem _ hw)]
    split
    · have : x ≠ n := by rintro rfl; exact h v List.mem_cons_self
      simp [this]
    · rfl
theorem bindC_out {kindOf : Str → Option NameKind} {x : Str} : ∀ {binds : List (Str × Value)} {m : Str → Option Value}, (∀ v, (x, v) ∉ binds) → bindC kindOf binds m x = m x
  | [], _, _ => rfl
  | (n, v) :: r, m, h => by
    unfold bindC
    rw [bindC_out fun w hw => h w (List.mem_cons_of_mem _ hw)]
    split
    · rfl
    · have : x ≠ n := by rintro rfl; exact h v List.mem_cons_self
      simp [this]
theorem bindL_get {kindOf : Str → Option NameKind} {x : Str} {v : Value} : ∀ {P : List Str} {vs : List Value} {i : Nat} {m : Str → Option Value}, P.Nodup → P[i]? = some x → vs[i]? = some v → kindOf x = some .local →
    bindL kindOf (P.zip vs) m x = some v
  | [], _, _, _, _, h, _, _ => by simp at h
  | _ :: _, [], _, _, _, _, h, _ => by simp at h
  | p :: P, w :: vs, 0, m, nd, h1, h2, hk => by
    simp at h1 h2; subst h1; subst h2
    show bindL kindOf ((p, w) :: P.zip vs) m p = _
    unfold bindL
    rw [bindL_out fun v hv => (List.nodup_cons.mp nd).1 (List.of_mem_zip hv).1, if_pos hk]
    simp
  | p :: P, w :: vs, i + 1, m, nd, h1, h2, hk => by
    show bindL kindOf ((p, w) :: P.zip vs) m x = _
    unfold bindL
    exact bindL_get (i := i) (List.nodup_cons.mp nd).2 (by simpa using h1) (by simpa using h2) hk
theorem bindC_get {kindOf : Str → Option NameKind} {x : Str} {v : Value} : ∀ {P : List Str} {vs : List Value} {i : Nat} {m : Str → Option Value}, P.Nodup → P[i]? = some x → vs[i]? = some v → kindOf x ≠ some .local →
    bindC kindOf (P.zip vs) m x = some v
  | [], _, _, _, _, h, _, _ => by simp at h
  | _ :: _, [], _, _, _, _, h, _ => by simp at h
  | p :: P, w :: vs, 0, m, nd, h1, h2, hk => by
    simp at h1 h2; subst h1; subst h2
    show bindC kindOf ((p, w) :: P.zip vs) m p = _
    unfold bindC
    rw [bindC_out fun v hv => (List.nodup_cons.mp nd).1 (List.of_mem_zip hv).1, if_neg hk]
    simp
  | p :: P, w :: vs, i + 1, m, nd, h1, h2, hk => by
    show bindC kindOf ((p, w) :: P.zip vs) m x = _
    unfold bindC
    exact bindC_get (i := i) (List.nodup_cons.mp nd).2 (by simpa using h1) (by simpa using h2) hk
def start (N : List Str) (vs : List V) : St := vs.map some ++ List.replicate (N.length - vs.length) none
def cxOf (CX : CXT) (P : Program) (w : World) (K : PySem.W.Frag) (mg : Str → Option Value) (base : Heap) (N : List Str) (qual : Str) (scope : Scope) (f : Addr) (cd : Value) (A : Around) (outer : List Env) (s : Shared) (H : Hp) (E : XK) : Cx where
  prog := P
  w := w
  K := K
  mg := mg
  base := base
  A := A.deeper (envOfC qual scope s.heap.objs.size f cd)
  N := N
  s₀ := s
  H₀ := H
  env := envOfC qual scope s.heap.objs.size f cd
  outer := outer
  stack := envOfC qual scope s.heap.objs.size f cd :: outer
  ex := []
  calm := true
  fn := fun _ => true
  pn := []
  xe := fun e s' => wpAny (model P w) (A.deeper (envOfC qual scope s.heap.objs.size f cd)) (leaving (envOfC qual scope s.heap.objs.size f cd) e) (fun _ s'' => CX outer H s E e s'') (fun e' s'' => CX outer H s E e' s'') s'
theorem cell_has {sc : Scope} {n : Nat} {x : Str} (h : sc.names.lookup x = some .cell) : ∃ c, (cellsFrom n sc.names []).lookup x = some c := by
  have q := PySem.W.cellsFrom_some sc.names n [] (.inl h)
  exact Option.isSome_iff_exists.mp q
theorem inv_start {CX : CXT} {P : Program} {w : World} {K : PySem.W.Frag} {mg : Str → Option Value} {base : Heap} {N ps : List Str} {qual : Str} {scope : Scope} {f : Addr} {cd : Value} {A : Around} {outer : List Env} {s s1 : Shared} {H : Hp} {E : XK} {us : List Value} {vs : List V}
    (S : FnScope N ps scope) (hd : A.handled = none) (e0 : Env0 P w K mg base A outer s H) (hl : vs.length = ps.length) (r : Vals vs us)
    (x : InCallC s s.heap.objs.size (bindL (envOfC qual scope s.heap.objs.size f cd).kindOf (ps.zip us) fun _ => none) (cellsFrom (s.heap.objs.size + 1) scope.names []) (bindC (envOfC qual scope s.heap.objs.size f cd).kindOf (ps.zip us) fun _ => none) s1) :
    Inv (cxOf CX P w K mg base N qual scope f cd A outer s H E) [] (start N vs) H s1 := by
  have hpl : ps.length ≤ N.length := by have := congrArg List.length S.pre; rw [List.length_take] at this; omega
  obtain ⟨h1, tk, rfl, hk⟩ := x.done
  have noA : ∀ b : Addr, b ∉ (cxOf CX P w K mg base N qual scope f cd A outer s H E).ex := fun b z => absurd (show b ∈ ([] : List Addr) from z) (by simp)
  refine ⟨⟨e0.mod, S.kind, rfl, rfl, Nat.le_refl _, fun y z c h1 h2 => ?_, fun y hy => ?_, fun y c _ h => ?_, fun _ => hd, Around.frames_deeper e0.frames, .inr ⟨rfl, rfl⟩, fun b z => absurd z (noA b), e0.bs, e0.bsz, fun b _ _ => noA b, fun b z => absurd z (noA b), e0.funs, e0.frf⟩,
    rfl, e0.bare, Un.kept hk, ⟨_, x.toInCall.ns, fun i y v h1 h2 h3 => ?_⟩, fun y c h => ⟨_, x.cell y c h⟩, e0.hok.fresh (Nat.le_refl _), fun y c h => ?_, fun p hp => absurd (show p ∈ ([] : List (Addr × Obj)) from hp) (by simp), e0.hok.kept hk, ?_⟩
  · exact name_of_addr x.apart (PySem.mem_of_lookup h1) (PySem.mem_of_lookup h2)
  · have hy : scope.names.lookup y = some .cell ∨ scope.names.lookup y = some .free := hy
    rcases hy with hy | hy
    · exact cell_has hy
    · exact absurd rfl (S.nofree _ (PySem.mem_of_lookup hy))
  · exact Nat.le_of_lt (x.above y c (PySem.mem_of_lookup h))
  · have hi : i < vs.length := by
      unfold start at h2
      by_cases hi : i < vs.length
      · exact hi
      · rw [List.getElem?_append_right (by simpa using hi)] at h2
        rw [List.getElem?_replicate] at h2
        split at h2 <;> cases h2
    have ha : vs[i]? = some v := by
      unfold start at h2
      rw [List.getElem?_append_left (by simpa using hi), List.getElem?_map] at h2
      cases e : vs[i]? with
      | none => rw [e] at h2; cases h2
      | some a => rw [e] at h2; cases h2; rfl
    obtain ⟨u, hu, rv⟩ := r.get ha
    have hp : ps[i]? = some y := by
      rw [← S.pre, List.getElem?_take_of_lt (by omega)]; exact h1
    have ndP : ps.Nodup := by rw [← S.pre]; exact S.nd.sublist (List.take_sublist _ _)
    refine ⟨u, rv, ?_⟩
    rcases S.par y (List.mem_of_getElem? hp) with k | k
    · exact .inl ⟨k, bindL_get ndP hp hu k⟩
    · obtain ⟨c, e⟩ := cell_has (n := s.heap.objs.size + 1) k
      refine .inr ⟨.inl k, c, e, ?_⟩
      have q := x.cell y c e
      rw [bindC_get ndP hp hu (by show scope.names.lookup y ≠ _; rw [k]; decide)] at q
      exact q
  · exact e0.hok.fresh (Nat.le_of_lt (x.above y c (PySem.mem_of_lookup h)))
  · unfold start
    show _ = N.length
    rw [List.length_append, List.length_map, List.length_replicate]
    omega
theorem fn_of {CX : CXT} {P : Program} {w : World} {K : PySem.W.Frag} {mg : Str → Option Value} {base : Heap} {k : Nat} {f : Addr} {name qual : Str} {params : Arguments} {body : List Stmt} {scope : Scope} {dV kV doc pm cdv ct oc : Value} {an od : Option Addr}
    {osl : Array (Option Value)} {N ps : List Str} {sp : Sp} (lk : K.lookup f = some ⟨oc, od, .func (PySem.W.fnOf name qual params body scope dV kV doc pm an cdv ct), osl⟩) (hcd : PySem.W.codeIn K cdv qual = true) (S : FnScope N ps scope)
    (len : ∀ vs H Q E, sp vs H Q E → vs.length = ps.length)
    (hbody : ∀ (A : Around) (outer : List Env) (s : Shared) (H : Hp) (vs : List V) (Q : VK) (E : XK), Room k (A.deeper (envOfC qual scope s.heap.objs.size f cdv)) → sp vs H Q E →
      ∃ t, PSs (cxOf CX P w K mg base N qual scope f cdv A outer s H E) body t ∧ t { nx := fun _ H' => Q .non H', rt := Q } (start N vs) H) :
    FnOk P w K mg base CX (k + 1) f (PySem.W.fnOf name qual params body scope dV kV doc pm an cdv ct) ps sp := by
  refine ⟨len, fun A outer s H args us vs Q E hr e0 hb r hsp => ?_⟩
  have hl := len _ _ _ _ hsp
  have KX : K.In s.heap := e0.mod.kin.keeps fun b o e => (e0.bs b o e).1
  have lim : s.heap.NoLimit := e0.mod.nolimit.keeps fun b o e => (e0.bs b o e).1
  have hkind : ∀ y ∈ ps.zip us, scope.names.lookup y.1 = some .local ∨ (scope.names.lookup y.1 = some .cell ∧ ((cellsFrom (s.heap.objs.size + 1) scope.names []).lookup y.1).isSome = true) := fun ⟨n, v⟩ hy => by
    rcases S.par n (List.of_mem_zip hy).1 with q | q
    · exact .inl q
    · exact .inr ⟨q, PySem.W.cellsFrom_some _ _ _ (.inl q)⟩
  refine codeAny_call_function hr.depth (KX _ _ lk) rfl S.co S.gen rfl (PySem.W.codeRec_of KX hcd) (hb _ _ _ _ ?_)
  refine wpAny_newFunctionEnv_cells S.kind hkind fun env he s1 x => ?_
  subst he
  refine ⟨lim.keeps x.toInCall.keep, codeAny_func ?_⟩
  obtain ⟨t, ht, hq⟩ := hbody A outer s H vs Q E (hr.deeper _) hsp
  have I : Inv (cxOf CX P w K mg base N qual scope f cdv A outer s H E) [] (start N vs) H s1 := inv_start S hr.hd e0 hl r x
  refine wpAny_mono (ht [] s1 (start N vs) H _ I hq) (fun fl s' hs => ?_) fun e s' hs => hs
  have fin : ∀ {σ' : St} {H' : Hp} {v : V} {u : Value}, Inv (cxOf CX P w K mg base N qual scope f cdv A outer s H E) [] σ' H' s' → RelV v u → Q v H' → CE outer P w H s Q u s' :=
    fun {σ' H' v u} J rv q => ⟨v, H', J.os, J.bare, J.base, J.hok, rv, q⟩
  cases fl with
  | ret u =>
    obtain ⟨v, σ', H', J, rv, q⟩ := hs
    exact fin J rv q
  | next =>
    obtain ⟨σ', H', J, q⟩ := hs
    exact fin (v := V.non) (u := Value.none) J rfl q
  | brk =>
    obtain ⟨_, _, _, q⟩ := hs
    exact False.elim q
  | cont =>
    obtain ⟨_, _, _, q⟩ := hs
    exact False.elim q
end L2
namespace L2
open PySem PySem.Spec PyProof.Rows
section
variable {X : Cx} {x : Str} {p pos : Pos} {e : Expr} {es : List Expr} {t : TA} {id T : String} {r : List V → Hp → VK → Prop}
def tCB (r : List V → Hp → VK → Prop) (t : TA) : TE := fun σ H Q => t σ H fun vs H1 => r vs H1 Q
theorem pe_callB (hc : CallR X (.builtin id) r) (hg : Gl X x) (hm : X.mg x = none) (hv : bootBuiltins x = some (.builtin id)) (ha : PA X (e :: es) t) (hn : x ≠ "__name__" := by decide) (hdb : (x == ("__debug__" : Str)) = false := by decide)
    (he : starEach (e :: es) X.env = (false, eval e X.env) :: starEach es X.env := by rfl) (hpl : (backTo pos (starEach es X.env)).any (·.1) = false := by rfl) : PE X (.Call (.Name x p) (e :: es) [] pos) (tCB r t) := by
  intro pins s σ H Q I h
  refine wpAny_Call_Name_kw (ld_blt I hg hm hv ?_ hn hdb)
  exact PyProof.Rows.callWith_builtin1 (thn (ha pos pins s σ H _ I h) fun us s1 ⟨vs, H1, I1, r1, q1⟩ => hc pins s1 σ H1 vs us Q I1 r1 q1) he hpl
theorem pe_callTy (hc : CallR X (.type T) r) (hg : Gl X x) (hm : X.mg x = none) (hv : bootBuiltins x = some (.type T)) (ha : PA X (e :: es) t) (hn : x ≠ "__name__" := by decide) (hdb : (x == ("__debug__" : Str)) = false := by decide)
    (he : starEach (e :: es) X.env = (false, eval e X.env) :: starEach es X.env := by rfl) (hpl : (backTo pos (starEach es X.env)).any (·.1) = false := by rfl) : PE X (.Call (.Name x p) (e :: es) [] pos) (tCB r t) := by
  intro pins s σ H Q I h
  refine wpAny_Call_Name_kw (ld_blt I hg hm hv ?_ hn hdb)
  exact PyProof.Rows.callWith_type1 (thn (ha pos pins s σ H _ I h) fun us s1 ⟨vs, H1, I1, r1, q1⟩ => hc pins s1 σ H1 vs us Q I1 r1 q1) he hpl
end
end L2
namespace HT
open PySem PyProof.Rows
section
open PySem.SeqAt
open PySem.AutoSeq1 (wpAny_loadPart')
open PySem.MeetsSeq PySem.MeetsSeq2 PySem.MeetsSeq3
end
section
variable {prog : Program} {w : World} {A : Around} {E : Value → Shared → Prop} {s : Shared}
def sIx (n d : Nat) : Option Int → Nat
  | none => d
  | some v => if v < 0 then (v + (n : Int)).toNat else min v.toNat n
end
end HT
namespace L2
open PySem PySem.Spec PyProof.Rows
abbrev TO := St → Hp → (Option Int → Hp → Prop) → Prop
def PO (X : Cx) (e : Option Expr) (t : TO) : Prop :=
  ∀ (pins : List (Addr × Obj)) (s : Shared) (σ : St) (H : Hp) (Q : Option Int → Hp → Prop), Inv X pins σ H s → t σ H Q →
    wpAny (model X.prog X.w) X.A (evalPart e X.env) (fun u s' => ∃ o H', Inv X pins σ H' s' ∧ IsPart u o ∧ Q o H') X.xe s
def tNoPart : TO := fun _ H Q => Q none H
def tPart (t : TE) : TO := fun σ H Q => t σ H fun x H1 => ∃ i, x = .int i ∧ Q (some i) H1
section
variable {X : Cx} {e : Expr} {te : TE} {lo hi : Option Expr} {tl th : TO} {pos p2 : Pos}
theorem po_none : PO X none tNoPart := by
  intro pins s σ H Q I h
  rw [evalPart_none]
  exact wpAny_pure ⟨none, H, I, .none, h⟩
theorem po_some (h : PE X e te) : PO X (some e) (tPart te) := by
  intro pins s σ H Q I hw
  rw [evalPart_some]
  refine thn (h pins s σ H _ I hw) fun u s1 ⟨x, H1, I1, r1, q1⟩ => ?_
  obtain ⟨i, rfl, q⟩ := q1
  obtain ⟨t, rfl⟩ := r1
  exact ⟨some i, H1, I1, .int i t, q⟩
def tSl (r : V → Option Int → Option Int → Hp → VK → Prop) (te : TE) (tl th : TO) : TE := fun σ H Q => te σ H fun x H1 => tl σ H1 fun l H2 => th σ H2 fun u H3 => r x l u H3 Q
def cutV (xs : List V) (lo hi : Option Int) : List V := (xs.drop (HT.sIx xs.length 0 lo)).take (HT.sIx xs.length xs.length hi - HT.sIx xs.length 0 lo)
def rCatT (K : PySem.W.Frag) : R2 := fun x y H Q => ∃ a b xs ys, x = .ref a ∧ y = .ref b ∧ SqT K H a xs ∧ SqT K H b ys ∧ xs ≠ [] ∧ xs.length + ys.length ≤ sizeLine ∧
  (ys = [] → Q (.ref a) H) ∧ (ys ≠ [] → ∀ p, H p = none → Q (.ref p) (upd H p (.tup (xs ++ ys))))
end
end L2
namespace L2
open PySem PySem.Spec PyProof.Rows
def ixN (n : Nat) (i : Int) : Option Nat := if 0 ≤ i then (if i < n then some i.toNat else none) else if -(n : Int) ≤ i then some (i + n).toNat else none
def atI {α : Type} (xs : List α) (i : Int) : Option α := (ixN xs.length i).bind fun j => xs[j]?
theorem ixN_seq {n : Nat} {i : Int} {j : Nat} (h : ixN n i = some j) : seqIndex? i n = some j ∧ j < n ∧ -(n : Int) ≤ i ∧ i < n := by
  unfold ixN at h
  by_cases h0 : 0 ≤ i
  · rw [if_pos h0] at h
    by_cases h1 : i < n
    · rw [if_pos h1] at h
      have e : i.toNat = j := Option.some.inj h
      exact ⟨by rw [seqIndex_of h0 h1, e], by omega, by omega, h1⟩
    · rw [if_neg h1] at h; cases h
  · rw [if_neg h0] at h
    by_cases h1 : -(n : Int) ≤ i
    · rw [if_pos h1] at h
      have e : (i + n).toNat = j := Option.some.inj h
      exact ⟨by rw [seqIndex_neg (by omega) h1, e], by omega, h1, by omega⟩
    · rw [if_neg h1] at h; cases h
theorem atI_get {α : Type} {xs : List α} {i : Int} {v : α} (h : atI xs i = some v) : ∃ j, seqIndex? i xs.length = some j ∧ xs[j]? = some v ∧ j < xs.length ∧ -(xs.length : Int) ≤ i ∧ i < xs.length := by
  unfold atI at h
  cases e : ixN xs.length i with
  | none => rw [e] at h; cases h
  | some j =>
    rw [e] at h
    obtain ⟨h1, h2, h3, h4⟩ := ixN_seq e
    exact ⟨j, h1, h, h2, h3, h4⟩
theorem atI_nat {α : Type} {xs : List α} {j : Nat} {v : α} (h : xs[j]? = some v) : atI xs (j : Int) = some v := by
  have hj : j < xs.length := (List.getElem?_eq_some_iff.mp h).1
  have e : ixN xs.length (j : Int) = some j := by
    unfold ixN
    rw [if_pos (by omega), if_pos (by omega)]; simp
  unfold atI; rw [e]; exact h
theorem atI_last {α : Type} (xs : List α) (v : α) : atI (xs ++ [v]) (-1) = some v := by
  have hl : (xs ++ [v]).length = xs.length + 1 := by simp
  have e : ixN (xs ++ [v]).length (-1) = some xs.length := by
    unfold ixN
    rw [hl, if_neg (by decide), if_pos (by omega)]
    congr 1
    omega
  unfold atI
  rw [e]
  show (xs ++ [v])[xs.length]? = some v
  simp
def PlainIx (b : Expr) : Prop := ∀ o i, subscripted b false o i = operate [o, i] (getItem o i)
def IxR (X : Cx) (r : R2) : Prop :=
  ∀ (value slice : Expr) (pins : List (Addr × Obj)) (s : Shared) (σ : St) (H : Hp) (x y : V) (v u : Value) (Q : VK), Inv X pins σ H s → RelV x v → RelV y u → r x y H Q →
    subscripted slice false v u = operate [v, u] (getItem v u) → wpAny (model X.prog X.w) X.A (subscriptTail value slice v u) (EP X pins σ Q) X.xe s
def MtR (X : Cx) (id : String) (r : V → List V → Hp → VK → Prop) : Prop :=
  ∀ (pins : List (Addr × Obj)) (s : Shared) (σ : St) (H : Hp) (x : V) (xs : List V) (v : Value) (us : List Value) (Q : VK), Inv X pins σ H s → RelV x v → Vals xs us → r x xs H Q →
    wpAny (model X.prog X.w) X.A (call (.builtin id) (v :: us)) (EP X pins σ Q) X.xe s
section
variable {X : Cx} {a b : Expr} {ta tb : TE} {pos : Pos}
theorem pe_ix {r : R2} (hr : IxR X r) (ha : PE X a ta) (hb : PE X b tb) (hs : PlainIx b) : PE X (.Subscript a b pos) (tOp r ta tb) := by
  intro pins s σ H Q I h
  exact Subscript_ (binT ha hb I h fun v u s2 x y H2 I2 rx ry q => hr a b pins s2 σ H2 x y v u Q I2 rx ry q (hs _ _))
def rIxL (K : PySem.W.Frag) : R2 := fun x y H Q => ∃ p xs i v, x = .ref p ∧ y = .int i ∧ SqL K H p xs ∧ atI xs i = some v ∧ Q v H
def rIxT (K : PySem.W.Frag) : R2 := fun x y H Q => ∃ p xs i v, x = .ref p ∧ y = .int i ∧ SqT K H p xs ∧ atI xs i = some v ∧ Q v H
def rIxS : R2 := fun x y H Q => ∃ z i c, x = .str z ∧ y = .int i ∧ z.length ≤ sizeLine ∧ atI z.cps.toList i = some c ∧ Q (.str ⟨#[c]⟩) H
theorem ix_list : IxR X (rIxL X.K) := by
  intro value slice pins s σ H x y v u Q I rx ry h hs
  obtain ⟨p, xs, i, z, rfl, rfl, hq, he, q⟩ := h
  cases rx
  obtain ⟨t, rfl⟩ := ry
  obtain ⟨its, r, pl, hz⟩ := I.list hq
  obtain ⟨j, h1, h2, h3, h4, h5⟩ := atI_get he
  obtain ⟨w, ew, rw'⟩ := r.get h2
  have hl := r.length
  have hn := line63
  have fin : EP X pins σ Q w s := ⟨z, H, I, rw', q⟩
  by_cases h0 : 0 ≤ i
  · have hj : i.toNat = j := by
      rw [seqIndex_of h0 h5] at h1
      exact Option.some.inj h1
    exact item_listR pl.isList h0 (by omega) (by rw [hj]; simpa using ew) fin hs
  · have hj : (i + (its.toArray.size : Int)).toNat = j := by
      rw [seqIndex_neg (by omega) h4] at h1
      rw [List.size_toArray, ← hl]
      exact Option.some.inj h1
    exact subscriptTail_builtinR (x := w) pl.isList.typeIs slot_list_getitem.lookup
      (wpAny_getItem_list_neg (Q := fun r s' => r = w ∧ EP X pins σ Q r s') pl.isList (by omega) (by rw [List.size_toArray] <;> omega) (by omega) (by rw [hj]; simpa using ew) ⟨rfl, fin⟩) hs
theorem ix_tup : IxR X (rIxT X.K) := by
  intro value slice pins s σ H x y v u Q I rx ry h hs
  obtain ⟨p, xs, i, z, rfl, rfl, hq, he, q⟩ := h
  cases rx
  obtain ⟨t, rfl⟩ := ry
  obtain ⟨its, r, pl, hz⟩ := I.tuple hq
  obtain ⟨j, h1, h2, h3, h4, h5⟩ := atI_get he
  obtain ⟨w, ew, rw'⟩ := r.get h2
  have hl := r.length
  have hn := line63
  have fin : EP X pins σ Q w s := ⟨z, H, I, rw', q⟩
  exact subscriptTail_builtinR (x := w) pl.typeIs slot_tuple_getitem.lookup
    (getItem_tuple (j := j) (Q := fun r s' => r = w ∧ EP X pins σ Q r s') pl (by omega) (by omega) (by rw [List.size_toArray, ← hl]; exact h1) (by simpa using ew) ⟨rfl, fin⟩) hs
theorem ix_str : IxR X rIxS := by
  intro value slice pins s σ H x y v u Q I rx ry h hs
  obtain ⟨z, i, c, rfl, rfl, hz, he, q⟩ := h
  obtain ⟨t, rfl⟩ := rx
  obtain ⟨t', rfl⟩ := ry
  obtain ⟨j, h1, h2, h3, h4, h5⟩ := atI_get he
  have hl : z.cps.toList.length = z.length := by simp [Str.length]
  rw [hl] at h1 h4 h5
  have hn := line63
  exact tail_any (typeIs_str s z t) slot_str_getitem.lookup (getItem_str (c := c) (by
    have e1 : decide (i < -(2 ^ 63 : Int)) = false := decide_eq_false (by omega)
    have e2 : decide (i ≥ 2 ^ 63) = false := decide_eq_false (by omega)
    rw [e1, e2, Bool.or_false]) (by rw [h1]; simpa using h2) ⟨.str ⟨#[c]⟩, H, I.tok _, ⟨_, rfl⟩, q⟩) hs
theorem mapSeq_set (its : List Value) (n j : Nat) (u : Value) : Obj.mapSeq (·.setIfInBounds j u) { cls := .type "list", data := .seq its.toArray n } = { cls := .type "list", data := .seq (its.set j u).toArray n } := by
  simp [Obj.mapSeq]
theorem Inv.lst {pins : List (Addr × Obj)} {σ : St} {H : Hp} {s : Shared} {p : Addr} {xs : List V} (I : Inv X pins σ H s) (h : H p = some (.lst xs)) :
    ∃ (its : List Value) (n : Nat), Vals xs its ∧ s.heap.get? p = some { cls := .type "list", data := .seq its.toArray n } ∧ xs.length ≤ sizeLine := by
  obtain ⟨z, its, n, r, e⟩ := I.hok p _ h
  exact ⟨its, n, r, e, z⟩
theorem Inv.lstUpd {pins : List (Addr × Obj)} {σ : St} {H : Hp} {s : Shared} {p : Addr} {xs ys : List V} {its its' : List Value} {n n' : Nat} {f : Obj → Obj} (I : Inv X pins σ H s) (h : H p = some (.lst xs))
    (ho : s.heap.get? p = some { cls := .type "list", data := .seq its.toArray n }) (hf : f { cls := .type "list", data := .seq its.toArray n } = { cls := .type "list", data := .seq its'.toArray n' }) (r : Vals ys its') (hz : ys.length ≤ sizeLine) (t : Nat) :
    Inv X pins σ (upd H p (.lst ys)) { s with heap := s.heap.update p f, toks := t } := by
  have e : (s.heap.update p f).get? p = some { cls := .type "list", data := .seq its'.toArray n' } := by
    rw [Heap.get?_update_self f ho (by rw [hf] <;> rfl), hf]
  refine I.write (x := p) (e := p) (by rw [h]; trivial) (.inl rfl) (fun b u hb q => (Heap.get?_update_other _ _ (Ne.symm hb)).trans q) ⟨_, e⟩ ?_
  exact ⟨hz, its', n', r, e⟩
def rSetL : V → V → V → Hp → (Hp → Prop) → Prop := fun o i v H Q => ∃ p xs k j, o = .ref p ∧ i = .int k ∧ H p = some (.lst xs) ∧ ixN xs.length k = some j ∧ Q (upd H p (.lst (xs.set j v)))
theorem set_list : PSet X rSetL := by
  intro pins s σ H o i v ov iv u Q I ro ri rv h
  obtain ⟨p, xs, k, j, rfl, rfl, hp, hj, q⟩ := h
  cases ro
  obtain ⟨t, rfl⟩ := ri
  obtain ⟨its, n, r, ho, hz⟩ := I.lst hp
  obtain ⟨h1, h2, h3, h4⟩ := ixN_seq hj
  have hl := r.length
  have hn := line63
  have I' : Inv X pins σ (upd H p (.lst (xs.set j v))) { s with heap := s.heap.update p (Obj.mapSeq (·.setIfInBounds j u)) } :=
    I.lstUpd hp ho (mapSeq_set its n j u) (r.set rv j) (by rw [List.length_set]; exact hz) s.toks
  by_cases h0 : 0 ≤ k
  · have hk : k.toNat = j := by
      rw [seqIndex_of h0 h4] at h1
      exact Option.some.inj h1
    exact PySem.W.ki_setAt ho h0 (by omega) (by rw [List.size_toArray, ← hl]; exact h4) (by rw [hk]; exact ⟨_, I', q⟩)
  · have hk : (k + (its.toArray.size : Int)).toNat = j := by
      rw [seqIndex_neg (by omega) h3] at h1
      rw [List.size_toArray, ← hl]
      exact Option.some.inj h1
    exact PySem.W.ki_setBack ho (by omega) (by rw [List.size_toArray, ← hl]; exact h3) (by omega) (by rw [hk]; exact ⟨_, I', q⟩)
def rSlL (K : PySem.W.Frag) : V → Option Int → Option Int → Hp → VK → Prop := fun x lo hi H Q => ∃ a xs, x = .ref a ∧ SqL K H a xs ∧ ∀ p, H p = none → Q (.ref p) (upd H p (.lst (cutV xs lo hi)))
def flatV : V → Bool
  | .non => true
  | .bl _ => true
  | .int _ => true
  | .str _ => true
  | _ => false
def eqV : V → V → Bool
  | .non, .non => true
  | .bl a, .bl b => a == b
  | .bl a, .int b => (if a then 1 else 0) == b
  | .int a, .bl b => a == (if b then 1 else 0)
  | .int a, .int b => a == b
  | .str a, .str b => a == b
  | _, _ => false
theorem eqAt_V {A : Around} {s : Shared} {y x : V} {u v : Value} (ry : RelV y u) (rx : RelV x v) (fy : flatV y = true) (fx : flatV x = true) : SeqAt.EqAt A s u v (eqV y x) := by
  cases y with
  | non =>
    cases ry
    cases x with
    | non => cases rx; exact SeqAt.EqAt.same _
    | bl b => cases rx; exact SeqAt.EqAt.none_bool b
    | int b => obtain ⟨t, rfl⟩ := rx; exact SeqAt.EqAt.none_int b t
    | str b => obtain ⟨t, rfl⟩ := rx; exact SeqAt.EqAt.none_str b t
    | _ => exact absurd (show false = true from fx) Bool.false_ne_true
  | bl a =>
    cases ry
    cases x with
    | non => cases rx; exact SeqAt.EqAt.bool_none a
    | bl b => cases rx; exact SeqAt.EqAt.bool_bool a b
    | int b => obtain ⟨t, rfl⟩ := rx; exact SeqAt.EqAt.bool_int a b t
    | str b => obtain ⟨t, rfl⟩ := rx; exact SeqAt.EqAt.bool_str a b t
    | _ => exact absurd (show false = true from fx) Bool.false_ne_true
  | int a =>
    obtain ⟨t', rfl⟩ := ry
    cases x with
    | non => cases rx; exact SeqAt.EqAt.int_none a t'
    | bl b => cases rx; exact SeqAt.EqAt.int_bool a t' b
    | int b => obtain ⟨t, rfl⟩ := rx; exact SeqAt.EqAt.int_int a t' b t
    | str b => obtain ⟨t, rfl⟩ := rx; exact SeqAt.EqAt.int_str a t' b t
    | _ => exact absurd (show false = true from fx) Bool.false_ne_true
  | str a =>
    obtain ⟨t', rfl⟩ := ry
    cases x with
    | non => cases rx; exact SeqAt.EqAt.str_none a t'
    | bl b => cases rx; exact SeqAt.EqAt.str_bool a t' b
    | int b => obtain ⟨t, rfl⟩ := rx; exact SeqAt.EqAt.str_int a t' b t
    | str b => obtain ⟨t, rfl⟩ := rx; exact SeqAt.EqAt.str_str a t' b t
    | _ => exact absurd (show false = true from fx) Bool.false_ne_true
  | _ => exact absurd (show false = true from fy) Bool.false_ne_true
def eqU (x : V) (u : Value) : Bool := match u with
  | .none => eqV .non x
  | .bool b => eqV (.bl b) x
  | .int i _ => eqV (.int i) x
  | .str z _ => eqV (.str z) x
  | _ => false
theorem eqU_of {x y : V} {u : Value} (r : RelV y u) (f : flatV y = true) : eqU x u = eqV y x := by
  cases y with
  | non => cases r; rfl
  | bl b => cases r; rfl
  | int i => obtain ⟨t, rfl⟩ := r; rfl
  | str z => obtain ⟨t, rfl⟩ := r; rfl
  | _ => exact absurd (show false = true from f) Bool.false_ne_true
theorem any_eqU {x : V} : ∀ {xs : List V} {us : List Value}, Vals xs us → xs.all flatV = true → us.any (eqU x) = xs.any fun y => eqV y x
  | _, _, .nil, _ => rfl
  | y :: xs, u :: us, .cons r t, f => by
    rw [List.all_cons, Bool.and_eq_true] at f
    rw [List.any_cons, List.any_cons, eqU_of r f.1, any_eqU t f.2]
theorem mem_eqAt {A : Around} {s : Shared} {x : V} {v : Value} (rx : RelV x v) (fx : flatV x = true) : ∀ {xs : List V} {us : List Value}, Vals xs us → xs.all flatV = true → ∀ u ∈ us, SeqAt.EqAt A s u v (eqU x u)
  | _, _, .nil, _ => fun u hu => by cases hu
  | y :: xs, u :: us, .cons r t, f => fun u' hu => by
    rw [List.all_cons, Bool.and_eq_true] at f
    rcases List.mem_cons.mp hu with rfl | hu
    · rw [eqU_of r f.1]; exact eqAt_V r rx f.1 fx
    · exact mem_eqAt rx fx t f.2 u' hu
def inV (x : V) (xs : List V) : Bool := xs.any fun y => eqV y x
def rIn (K : PySem.W.Frag) (neg : Bool) : R2 := fun x y H Q => ∃ p xs, y = .ref p ∧ (SqL K H p xs ∨ SqT K H p xs) ∧ flatV x = true ∧ xs.all flatV = true ∧ Q (.bl (if neg then !inV x xs else inV x xs)) H
theorem op_in_seq : OpR X (compareOp .In) (rIn X.K false) := by
  intro pins s σ H x y v u Q I rx ry h
  obtain ⟨p, xs, rfl, hq, fx, fs, q⟩ := h
  cases ry
  rcases hq with hq | hq
  · obtain ⟨its, r, pl, hz⟩ := I.list hq
    refine SeqAt.in_listAt (eqU x) pl.isList (fun w hw => mem_eqAt rx fx r fs w (by simpa using hw)) ⟨.bl _, H, I, rfl, ?_⟩
    rw [show its.toArray.any (eqU x) = its.any (eqU x) by simp, any_eqU r fs]
    exact q
  · obtain ⟨its, r, pl, hz⟩ := I.tuple hq
    refine SeqAt.in_tupleAt (eqU x) pl (fun w hw => mem_eqAt rx fx r fs w (by simpa using hw)) ⟨.bl _, H, I, rfl, ?_⟩
    rw [show its.toArray.any (eqU x) = its.any (eqU x) by simp, any_eqU r fs]
    exact q
theorem op_notIn_seq : OpR X (compareOp .NotIn) (rIn X.K true) := by
  intro pins s σ H x y v u Q I rx ry h
  obtain ⟨p, xs, rfl, hq, fx, fs, q⟩ := h
  cases ry
  rcases hq with hq | hq
  · obtain ⟨its, r, pl, hz⟩ := I.list hq
    refine SeqAt.notIn_listAt (eqU x) pl.isList (fun w hw => mem_eqAt rx fx r fs w (by simpa using hw)) ⟨.bl _, H, I, rfl, ?_⟩
    rw [show its.toArray.any (eqU x) = its.any (eqU x) by simp, any_eqU r fs]
    exact q
  · obtain ⟨its, r, pl, hz⟩ := I.tuple hq
    refine SeqAt.notIn_tupleAt (eqU x) pl (fun w hw => mem_eqAt rx fx r fs w (by simpa using hw)) ⟨.bl _, H, I, rfl, ?_⟩
    rw [show its.toArray.any (eqU x) = its.any (eqU x) by simp, any_eqU r fs]
    exact q
theorem call_len_seq : CallR X (.builtin "len") (fun xs H Q => ∃ p ys, xs = [.ref p] ∧ (SqL X.K H p ys ∨ SqT X.K H p ys) ∧ Q (.int ys.length) H) := by
  intro pins s σ H xs us Q I r h
  obtain ⟨p, ys, rfl, hq, q⟩ := h
  obtain ⟨u, rfl, rx⟩ := vals1 r
  cases rx
  have hn := line63
  rcases hq with hq | hq
  · obtain ⟨its, r', pl, hz⟩ := I.list hq
    have hlen := r'.length
    exact Calls.call_len_list pl.isList (by simp only [List.size_toArray] <;> omega) ⟨.int ys.length, H, I.tok _, ⟨s.toks + 1, by rw [List.size_toArray, hlen]⟩, q⟩
  · obtain ⟨its, r', pl, hz⟩ := I.tuple hq
    have hlen := r'.length
    exact len_tuple pl (by simp only [List.size_toArray] <;> omega) ⟨.int ys.length, H, I.tok _, ⟨s.toks + 1, by rw [List.size_toArray, hlen]⟩, q⟩
theorem call_len_str : CallR X (.builtin "len") (fun xs H Q => ∃ z, xs = [.str z] ∧ z.length ≤ sizeLine ∧ Q (.int z.length) H) := by
  intro pins s σ H xs us Q I r h
  obtain ⟨z, rfl, hz, q⟩ := h
  obtain ⟨u, rfl, t, rfl⟩ := vals1 r
  have hn := line63
  exact len_str (by omega) ⟨.int z.length, H, I.tok _, ⟨_, rfl⟩, q⟩
theorem call_list_of : CallR X (.type "list") (fun xs H Q => ∃ p ys, xs = [.ref p] ∧ (SqL X.K H p ys ∨ SqT X.K H p ys) ∧ ∀ l, H l = none → Q (.ref l) (upd H l (.lst ys))) := by
  intro pins s σ H xs us Q I r h
  obtain ⟨p, ys, rfl, hq, q⟩ := h
  obtain ⟨u, rfl, rx⟩ := vals1 r
  cases rx
  have fin : ∀ (its : List Value), Vals ys its → ys.length ≤ sizeLine → ∀ (h' : Heap) (c' : Nat), (∀ b o', s.heap.get? b = some o' → h'.get? b = some o') →
      h'.get? s.heap.objs.size = some { cls := .type "list", dict := none, data := .seq its.toArray c', slots := #[] } → EP X pins σ Q (.ref s.heap.objs.size) { s with heap := h' } := fun its r' hz h' c' kp e =>
    ⟨.ref s.heap.objs.size, _, I.laid (t' := s.toks) kp (Nat.le_refl _) (show ObjOk X.prog X.w _ h' _ (.lst ys) from ⟨hz, its, c', r', e⟩), rfl, q _ (I.hok.fresh (Nat.le_refl _))⟩
  rcases hq with hq | hq
  · obtain ⟨its, r', pl, hz⟩ := I.list hq
    have hlen := r'.length
    obtain ⟨o, ho, hc, n, hd⟩ := pl.isList
    exact call_list_seq p (.inl rfl) ho hc hd (fun h' c' kp e => fin its r' hz h' c' kp e) (by simp only [List.size_toArray] <;> omega)
  · obtain ⟨its, r', pl, hz⟩ := I.tuple hq
    have hlen := r'.length
    obtain ⟨o, ho, hc, n, hd⟩ := pl
    exact call_list_seq p (.inr rfl) ho hc hd (fun h' c' kp e => fin its r' hz h' c' kp e) (by simp only [List.size_toArray] <;> omega)
theorem call_tuple_of : CallR X (.type "tuple") (fun xs H Q => ∃ p ys, xs = [.ref p] ∧ ((SqL X.K H p ys ∧ ∀ l, H l = none → Q (.ref l) (upd H l (.tup ys))) ∨ (SqT X.K H p ys ∧ Q (.ref p) H))) := by
  intro pins s σ H xs us Q I r h
  obtain ⟨p, ys, rfl, h⟩ := h
  obtain ⟨u, rfl, rx⟩ := vals1 r
  cases rx
  rcases h with ⟨hq, q⟩ | ⟨hq, q⟩
  · obtain ⟨its, r', pl, hz⟩ := I.list hq
    have hlen := r'.length
    refine call_tuple_list pl.isList (fun h' kp => ?_) (by simp only [List.size_toArray] <;> omega)
    have I1 : Inv X pins σ H { s with heap := h' } := I.kept (t' := s.toks) kp
    have I2 : Inv X pins σ (upd H h'.objs.size (.tup ys)) { s with heap := h'.push { cls := .type "tuple", data := .seq its.toArray } } :=
      I1.laid (t' := s.toks) (fun b o e => Heap.get?_push_of_some _ e) (Nat.le_refl _) (show ObjOk X.prog X.w _ _ _ (.tup ys) from ⟨hz, its, r', IsTup.new _ _⟩)
    exact ⟨.ref h'.objs.size, _, I2, rfl, q _ (I1.hok.fresh (Nat.le_refl _))⟩
  · obtain ⟨its, r', pl, hz⟩ := I.tuple hq
    exact call_tuple_same pl ⟨.ref p, H, I, rfl, q⟩
def tyV (K : PySem.W.Frag) (T : String) (x : V) (H : Hp) : Prop := match x with
  | .str _ => T = "str"
  | .int _ => T = "int"
  | .ref p => (T = "list" ∧ ∃ xs, SqL K H p xs) ∨ (T = "tuple" ∧ ∃ o, K.lookup p = some o ∧ o.cls = .type "tuple" ∧ o.dict = none) ∨
      (T = "dict" ∧ ((∃ kvs, H p = some (.dK kvs)) ∨ ∃ kvs, H p = some (.dT kvs))) ∨ (T = "set" ∧ ∃ S n, H p = some (.set S n))
  | _ => False
theorem tyV_is {pins : List (Addr × Obj)} {σ : St} {H : Hp} {s : Shared} {T : String} {x : V} {v : Value} (I : Inv X pins σ H s) (r : RelV x v) (ty : tyV X.K T x H) :
    s.TypeIs v T ∧ ∀ a, v = .ref a → ∃ ob, s.heap.get? a = some ob ∧ ob.dict = none := by
  cases x with
  | str z =>
    obtain ⟨t, rfl⟩ := r
    cases (show T = "str" from ty)
    exact ⟨typeIs_str s z t, fun _ e => nomatch e⟩
  | int i =>
    obtain ⟨t, rfl⟩ := r
    cases (show T = "int" from ty)
    exact ⟨typeIs_int s i t, fun _ e => nomatch e⟩
  | ref p =>
    cases r
    rcases ty with ⟨rfl, xs, hq⟩ | ⟨rfl, o, hk, hc, hd⟩ | ⟨rfl, hk⟩ | ⟨rfl, S, n, hk⟩
    · obtain ⟨its, _, pl, _⟩ := I.list hq
      refine ⟨pl.isList.typeIs, fun a e => ?_⟩
      cases e
      obtain ⟨o, n, e, c, hd, _⟩ := pl
      exact ⟨o, e, hd⟩
    · refine ⟨⟨o, I.kIn p o hk, hc⟩, fun a e => ?_⟩
      cases e
      exact ⟨o, I.kIn _ o hk, hd⟩
    · have z : ∃ o, s.heap.get? p = some o ∧ o.ExactDict := by
        rcases hk with ⟨kvs, hk⟩ | ⟨kvs, hk⟩
        · obtain ⟨_, _, _, _, o, _, _, e, ex, _⟩ := I.hok p _ hk
          exact ⟨o, e, ex⟩
        · obtain ⟨_, _, _, _, o, _, _, e, ex, _⟩ := I.hok p _ hk
          exact ⟨o, e, ex⟩
      obtain ⟨o, e, ex⟩ := z
      refine ⟨⟨o, e, ex.1⟩, fun a e2 => ?_⟩
      cases e2
      exact ⟨o, e, ex.2.1⟩
    · obtain ⟨o, _, _, _, e, ex, _⟩ := I.hok p _ hk
      refine ⟨⟨o, e, ex.1⟩, fun a e2 => ?_⟩
      cases e2
      exact ⟨o, e, ex.2.1⟩
  | _ => exact False.elim ty
def tBM0 (K : PySem.W.Frag) (T : String) (r : V → List V → Hp → VK → Prop) (to : TE) : TE := fun σ H Q => to σ H fun x H1 => tyV K T x H1 ∧ r x [] H1 Q
def tBM (K : PySem.W.Frag) (T : String) (r : V → List V → Hp → VK → Prop) (to : TE) (t : TA) : TE := fun σ H Q => to σ H fun x H1 => tyV K T x H1 ∧ t σ H1 fun xs H2 => r x xs H2 Q
variable {o e : Expr} {es : List Expr} {to : TE} {t : TA} {name : Str} {apos cpos : Pos} {T id : String} {r : V → List V → Hp → VK → Prop}
theorem pe_bm (pa : PlainAttrs T) (slot : Slot T name id) (hty : typeOf (.builtin id) = pure (.type "method_descriptor")) (hm : MtR X id r) (ho : PE X o to) (ha : PA X (e :: es) t)
    (hbase : attributeBase o name X.env (eval o X.env) = eval o X.env := by rfl)
    (hfew : ((backTo cpos (starEach (e :: es) X.env)).all (fun x => !x.1) && (backToKw cpos (keywordEach [] X.env)).all (fun x => x.1.isSome)
      && decide ((e :: es).length + ([] : List Keyword).length + (if ([] : List Keyword).isEmpty then 0 else 1) < 30)) = true := by rfl)
    (hline : (apos.endLine == cpos.line) = true := by rfl) (hs : starEach (e :: es) X.env = (false, eval e X.env) :: starEach es X.env := by rfl) (hplain : (backTo cpos (starEach es X.env)).any (·.1) = false := by rfl) :
    PE X (.Call (.Attribute o name apos) (e :: es) [] cpos) (tBM X.K T r to t) := by
  intro pins s σ H Q I h
  refine wpAny_Call_method_late hbase hfew hline rfl (thn (ho pins s σ H _ I h) fun v s1 ⟨x, H1, I1, r1, ty, q1⟩ => ?_)
  obtain ⟨h1, h2⟩ := tyV_is I1 r1 ty
  refine ⟨T, id, pa, slot, hty, h1, h2, ?_⟩
  have hA := ha cpos pins s1 σ H1 _ I1 q1
  rw [hs] at hA ⊢
  refine Calls.callWith_builtin (by show (false || (backTo cpos (starEach es X.env)).any (·.1)) = false; rw [hplain] <;> rfl) (Calls.evalArgs_plain ?_)
  exact thn hA fun us s2 ⟨vs, H2, I2, r2, q2⟩ => hm pins s2 σ H2 x vs v us Q I2 r1 r2 q2
end
end L2
namespace L2
open PySem PySem.Spec PyProof.Rows
def MtM (X : Cx) (id : String) (r : V → List V → Hp → VK → Prop) : Prop :=
  ∀ (pins : List (Addr × Obj)) (s : Shared) (σ : St) (H : Hp) (x : V) (xs : List V) (v : Value) (us : List Value) (Q : VK), Inv X pins σ H s → RelV x v → Vals xs us → r x xs H Q →
    wpAny (model X.prog X.w) X.A (call (.builtin id) (v :: us)) (EP X pins σ Q) X.xe s
theorem Vals.one : ∀ {x : V} {us : List Value}, Vals [x] us → ∃ u, us = [u] ∧ RelV x u
  | _, _, .cons r .nil => ⟨_, rfl, r⟩
theorem Vals.zero : ∀ {us : List Value}, Vals [] us → us = []
  | _, .nil => rfl
theorem Vals.dropLast {xs : List V} {us : List Value} (h : Vals xs us) : Vals xs.dropLast us.dropLast := by
  induction h with
  | nil => exact .nil
  | cons r t ih =>
    cases t with
    | nil => exact .nil
    | cons q t' => exact .cons r ih
theorem Vals.eraseIdx : ∀ {xs : List V} {us : List Value} (i : Nat), Vals xs us → Vals (xs.eraseIdx i) (us.eraseIdx i)
  | _, _, _, .nil => .nil
  | _, _, 0, .cons _ t => t
  | _, _, i + 1, .cons r t => .cons r (Vals.eraseIdx i t)
theorem Vals.reverse {xs : List V} {us : List Value} (h : Vals xs us) : Vals xs.reverse us.reverse := by
  induction h with
  | nil => exact .nil
  | cons r t ih => rw [List.reverse_cons, List.reverse_cons]; exact Vals.append ih (.cons r .nil)
section
variable {X : Cx} {pins : List (Addr × Obj)} {σ : St} {H : Hp} {s : Shared} {l b : Addr} {xs ys zs : List V}
theorem Inv.lset {its its' : List Value} {n : Nat} {f : Array Value → Array Value} {t' : Nat} (I : Inv X pins σ H s) (hH : H l = some (.lst xs))
    (e : s.heap.get? l = some { cls := .type "list", data := .seq its.toArray n }) (hf : f its.toArray = its'.toArray) (hv : Vals ys its') (hz : ys.length ≤ sizeLine) :
    Inv X pins σ (upd H l (.lst ys)) { s with heap := s.heap.update l (Obj.mapSeq f), toks := t' } := by
  have q := PySem.IsL.update e f
  rw [hf] at q
  refine I.write (x := l) (e := l) (by rw [hH]; exact trivial) (.inl rfl) (fun b' u hb hu => (Heap.get?_update_other s.heap (Obj.mapSeq f) (Ne.symm hb)).trans hu) ⟨_, q⟩ ?_
  exact ⟨hz, its', _, hv, q⟩
theorem Inv.lnew {its : List Value} {t' : Nat} (I : Inv X pins σ H s) (hv : Vals ys its) (hz : ys.length ≤ sizeLine) :
    Inv X pins σ (upd H s.heap.objs.size (.lst ys)) { s with heap := s.heap.push { cls := .type "list", data := .seq its.toArray }, toks := t' } :=
  I.laid (fun _ _ q => Heap.get?_push_of_some _ q) (Nat.le_refl _) ⟨hz, its, 0, hv, Heap.get?_push_size _ rfl⟩
theorem Inv.fresh (I : Inv X pins σ H s) : H s.heap.objs.size = none := I.hok.fresh (Nat.le_refl _)
theorem Inv.lstM (I : Inv X pins σ H s) (hH : H l = some (.lst xs)) : xs.length ≤ sizeLine ∧ ∃ (its : List Value) (n : Nat), Vals xs its ∧ xs.length = its.length ∧ s.heap.get? l = some { cls := .type "list", data := .seq its.toArray n } := by
  obtain ⟨z, its, n, r, e⟩ := I.hok l _ hH
  exact ⟨z, its, n, r, r.length, e⟩
end
section
variable {X : Cx}
def rAppend : V → List V → Hp → VK → Prop := fun x vs H Q => ∃ l xs y, x = .ref l ∧ vs = [y] ∧ H l = some (.lst xs) ∧ xs.length < sizeLine ∧ Q .non (upd H l (.lst (xs ++ [y])))
theorem mt_append : MtM X "list.append" rAppend := by
  intro pins s σ H x vs v us Q I rx rv h
  obtain ⟨l, xs, y, rfl, rfl, hH, hz, q⟩ := h
  cases rx
  obtain ⟨u, rfl, ru⟩ := rv.one
  obtain ⟨z, its, n, r, hl, e⟩ := I.lstM hH
  refine call_meets F.slot_list_append ⟨_, e, rfl⟩ F.entry_list_append (F.args_list_append_2 _ _) (PySem.list_append l its.toArray n u (by rw [List.size_toArray]; omega)) ⟨e, ?_⟩
  refine ⟨.non, _, I.lset (its' := its ++ [u]) hH e (by simp) (r.append (.cons ru .nil)) ?_, rfl, q⟩
  rw [List.length_append, List.length_singleton]
  omega
def rPop : V → List V → Hp → VK → Prop := fun x vs H Q => ∃ l xs y, x = .ref l ∧ vs = [] ∧ H l = some (.lst xs) ∧ xs[xs.length - 1]? = some y ∧ Q y (upd H l (.lst xs.dropLast))
def rPopAt : V → List V → Hp → VK → Prop := fun x vs H Q => ∃ l xs i k y, x = .ref l ∧ vs = [.int i] ∧ H l = some (.lst xs) ∧ -(2 ^ 63) ≤ i ∧ i < 2 ^ 63 ∧ seqIndex? i xs.length = some k ∧ xs[k]? = some y ∧ Q y (upd H l (.lst (xs.eraseIdx k)))
def rCat : R2 := fun x y H Q => ∃ l b xs zs, x = .ref l ∧ y = .ref b ∧ H l = some (.lst xs) ∧ H b = some (.lst zs) ∧ xs.length + zs.length ≤ sizeLine ∧ ∀ p, H p = none → Q (.ref p) (upd H p (.lst (xs ++ zs)))
theorem op_cat : OpR X (binaryOp .Add) rCat := by
  intro pins s σ H x y v u Q I rx ry h
  obtain ⟨l, b, xs, zs, rfl, rfl, hH, hB, hz, q⟩ := h
  cases rx
  cases ry
  obtain ⟨z, its, n, r, hl, e⟩ := I.lstM hH
  obtain ⟨z2, its2, n2, r2, hl2, e2⟩ := I.lstM hB
  refine PySem.P.add_list e e2 ?_ (by rw [List.size_toArray, List.size_toArray]; omega)
  have ea : its.toArray ++ its2.toArray = (its ++ its2).toArray := by simp
  rw [ea]
  exact ⟨.ref _, _, I.lnew (t' := s.toks) (r.append r2) (by rw [List.length_append]; omega), rfl, q _ I.fresh⟩
def rRep : R2 := fun x y H Q => ∃ l k xs, x = .ref l ∧ y = .int k ∧ H l = some (.lst xs) ∧ -(2 ^ 63) ≤ k ∧ k < 2 ^ 63 ∧ xs.length * k.toNat ≤ sizeLine ∧
  ∀ p, H p = none → Q (.ref p) (upd H p (.lst (List.replicate k.toNat xs).flatten))
end
section
variable {prog : Program} {w : World} {A : Around} {E : Value → Shared → Prop} {s : Shared}
end
section
variable {X : Cx}
end
end L2
namespace Att
open PySem PySem.W PySem.Calls PyProof.Rows
theorem ints_of_wellAll {P : Params} {h : Heap} : ∀ (ns : List Int) (vs : List Value), WellAll P h vs (ns.map WData.int) → IntsAre vs ns := by
  intro ns
  induction ns with
  | nil =>
    intro vs w
    rw [List.map_nil] at w
    cases w
    exact .nil
  | cons n ns ih =>
    intro vs w
    rw [List.map_cons] at w
    cases w with
    | cons a b =>
      cases a
      exact .cons _ _ (ih _ b)
theorem script_of {l : OpenLaw} {n : Nat} (hn : l.most = some n) {P : Params} {h : Heap} {args : List WData} {vals : List Value}
    (hpre : l.row.toRowW.claim.pre args = true) (hwl : WellAll P h vals args) :
    ∃ a vs ns, vals = [Value.ref a] ∧ args = [WData.list (ns.map WData.int)] ∧ h.get? a = some { cls := .type "list", data := .seq vs.toArray } ∧ IntsAre vs ns ∧ ns.length ≤ n := by
  have hsh : WShape.hasAll [] args [.list .int] = true := (pre_splitW hpre).1
  have hc : l.pre.holds [] { args := args } = true := (pre_splitW hpre).2
  obtain ⟨d, r, rfl, h1, h2⟩ := hasAllW_cons hsh
  obtain rfl := hasAllW_nil h2
  obtain ⟨xs, rfl, h3⟩ := hasW_list h1
  obtain ⟨ns, rfl⟩ := items_int h3
  have hlen : ns.length ≤ n := by
    unfold OpenLaw.pre at hc
    have h4 : (WTm.not (.lt (.lit (.int (n : Int))) (.len (.arg 0)))).holds [] { args := [.list (ns.map .int)] } = true := by
      have h4 := (holds_andW hc).1
      rw [hn] at h4
      exact h4
    have h5 := condW_of h4 (w_not (w_lt w_lit (w_len_list (w_arg rfl))))
    rw [List.length_map] at h5
    refine Nat.le_of_not_lt fun q => ?_
    have q' : (n : Int) < ((ns.length : Nat) : Int) := by omega
    first
      | (rw [decide_eq_true q'] at h5; exact absurd h5 (by decide))
      | (simp at h5; omega)
  cases hwl with
  | cons w1 w2 =>
    cases w2
    cases w1 with
    | list ho hall => exact ⟨_, _, ns, rfl, rfl, ho, ints_of_wellAll ns _ hall, hlen⟩
theorem post_true (l : OpenLaw) (args : List WData) : l.row.toRowW.claim.post args (.bool true) args = true :=
  postW_of (r := l.row.toRowW) (X := (true == true))
    (show WShape.has [] (.bool true) .bool = true by first | rfl | decide | simp [WShape.has, WShape.arms, WShape.armsAll])
    (show (WTm.eq .res (.lit (.bool true))).value [] { args := args, res := some (.bool true), after := args } = some (.bool (true == true)) from w_eq_bool (w_res rfl) w_lit) rfl
section
variable {prog : Program} {w : World} {A : Around} {E : Value → Shared → Prop} {s : Shared} {K : Frag}
end
end Att
namespace L2
open PySem PySem.Spec PyProof.Rows
theorem vals_ints : ∀ {vs : List Value} {ns : List Int}, IntsAre vs ns → Vals (ns.map V.int) vs
  | _, _, .nil => .nil
  | _, _, .cons n t h => .cons ⟨t, rfl⟩ (vals_ints h)
def Only (H : Hp) : Prop := ∀ b, H b = none ∨ ∃ o xs, H b = some (.frz o (.lst xs))
theorem law_call {P : Program} {w : World} {K : PySem.W.Frag} {mg mb : Str → Option Value} {CX : CXT} {k : Nat} {fa a : Addr} {fd : FuncData} {x : Str} {sp : Sp} {s₁ : Shared} {vs : List Value} {ns : List Int}
    (KX : K.In s₁.heap) (hns : s₁.heap.Ns mainGlobals mg) (hb : s₁.heap.Ns builtinsNs mb) (hbb : ∀ x : Str, x ≠ "__name__" → mb x = bootBuiltins x) (hlim : s₁.heap.NoLimit) (hg : s₁.gens = #[])
    (ha : s₁.heap.get? a = some { cls := .type "list", data := .seq vs.toArray }) (hi : IntsAre vs ns) (hl : ns.length ≤ sizeLine) (hr : Room k callerA)
    (F : ∀ base : Heap, K.In base → base.Ns mainGlobals mg → FnOk P w K mg base CX k fa fd [x] sp) (hbind : ∀ (s : Shared) (u : Value), BindsTo s fd ⟨[u], []⟩ [(x, u)])
    (hsp : ∀ H : Hp, Only H → SqL K H a (ns.map V.int) → sp [.ref a] H (fun v _ => v = .bl true) fun _ _ _ => False)
    (hCX : ∀ H e s', CX [] H s₁ (fun _ _ _ => False) e s' → False) :
    codeAny (model P w) callerA (.call (.ref fa) ⟨[.ref a], []⟩) (fun r s' => r = .ok (.ret (.bool true)) ∧ OldK s₁.heap s'.heap ∧ s'.os = s₁.os ∧ AllBare s'.gens) s₁ := by
  have rv := vals_ints hi
  have lenV := hi.length
  have core : ∀ H : Hp, Only H → SqL K H a (ns.map V.int) → HOk P w H s₁.heap → (∀ b, H b ≠ none → b = a) → (H a ≠ none → K.lookup a = none) →
      codeAny (model P w) callerA (.call (.ref fa) ⟨[.ref a], []⟩) (fun r s' => r = .ok (.ret (.bool true)) ∧ OldK s₁.heap s'.heap ∧ s'.os = s₁.os ∧ AllBare s'.gens) s₁ := by
    intro H hO hS hok hA hK
    have base_of : ∀ {b : Addr} {o : Obj}, s₁.heap.get? b = some o → H b = none → (hidT s₁.heap H).get? b = some o := fun e n => hidT_get e n
    have noA : ∀ {b : Addr} {o : Obj} {es : Array DictEntry} {ep : Nat}, s₁.heap.get? b = some o → o.data = .dict es ep → H b = none := fun {b o es ep} e d => by
      cases q : H b with
      | none => rfl
      | some u =>
        have e' : b = a := hA b (by rw [q]; simp)
        subst e'
        rw [ha] at e; cases e
        have d' : Data.seq vs.toArray _ = Data.dict es ep := d
        cases d'
    have nsK : ∀ {b : Addr} {m : Str → Option Value}, s₁.heap.Ns b m → (hidT s₁.heap H).Ns b m := fun {b m} ⟨o, es, ep, e, d, r⟩ => ⟨o, es, ep, base_of e (noA e d), d, r⟩
    have hKb : K.In (hidT s₁.heap H) := fun b o e => base_of (KX b o e) (by
      cases q : H b with
      | none => rfl
      | some u =>
        have e' : b = a := hA b (by rw [q]; simp)
        subst e'
        rw [hK (by rw [q]; simp)] at e; cases e)
    have hM : Mod K mg (hidT s₁.heap H) := ⟨hKb, nsK hns, ⟨mb, nsK hb, hbb⟩, let ⟨mc, h1, h2⟩ := hlim; ⟨mc, nsK h1, h2⟩⟩
    have e0 : Env0 P w K mg (hidT s₁.heap H) callerA [] s₁ H := ⟨rfl, hM, fun b o e => of_hidT e, Nat.le_of_eq (hidT_size _ _), trivial, fun b hb => absurd (show b ∈ ([] : List Addr) from hb) (by simp), hok, .of_eq hg⟩
    refine codeAny_mono ((F _ hKb (nsK hns)).run callerA [] s₁ H ⟨[.ref a], []⟩ [.ref a] [.ref a] _ _ hr e0 (hbind s₁ (.ref a)) (.cons rfl .nil) (hsp H hO hS)) fun r s' h => ?_
    cases r with
    | error e => exact (hCX H e s' h).elim
    | ok fl =>
      cases fl with
      | next => exact False.elim h
      | brk => exact False.elim h
      | cont => exact False.elim h
      | ret u =>
        obtain ⟨v, H', os, bare, un, hok', r', q⟩ := h
        have q' : v = .bl true := q
        subst q'
        obtain rfl : u = Value.bool true := r'
        refine ⟨rfl, OldK.of_keep fun b o e => ?_, os, bare⟩
        cases q : H b with
        | none => exact un.keep b o e q (by intro z; exact absurd (show b ∈ ([] : List Addr) from z) (by simp)) (by simp)
        | some u =>
          rcases hO b with z | ⟨ob, xs, z⟩
          · rw [q] at z; cases z
          · have z2 := un.frzs b ob _ z
            obtain ⟨e1, _⟩ := hok b _ z
            obtain ⟨e2, _⟩ := hok' b _ z2
            rw [e] at e1; cases e1
            exact e2
  cases hk : K.lookup a with
  | some o =>
    have e := KX a o hk
    rw [ha] at e
    cases e
    refine core (fun _ => none) (fun _ => .inl rfl) (.inr ⟨_, vs.toArray, _, hk, rfl, rfl, rfl, by rw [List.size_toArray, lenV]; exact hl, by simpa using rv⟩) (fun b u z => by have z' : (none : Option HO) = some u := z; cases z') (fun b z => absurd rfl z) fun z => absurd rfl z
  | none =>
    refine core (fun b => if b = a then some (.frz { cls := .type "list", data := .seq vs.toArray } (.lst (ns.map V.int))) else none) (fun b => ?_) (.inl (.inr ⟨{ cls := .type "list", data := .seq vs.toArray }, if_pos rfl⟩)) (fun b u z => ?_) (fun b z => ?_) fun _ => hk
    · by_cases hb : b = a
      · exact .inr ⟨_, _, if_pos hb⟩
      · exact .inl (if_neg hb)
    · by_cases hb : b = a
      · have z' := (if_pos hb).symm.trans z
        cases z'
        subst hb
        exact ⟨ha, by rw [List.length_map]; exact hl, vs, _, rv, ha⟩
      · have z' := (if_neg hb).symm.trans z
        cases z'
    · by_cases hb : b = a
      · exact hb
      · exact absurd (if_neg hb) z
end L2
namespace L2
open PySem PySem.Spec PyProof.Rows
end L2
namespace L2
open PySem PySem.Spec PyProof.Rows
def inClass (s : Stmt) (j : Nat) : Stmt := match s with
  | .ClassDef _ _ _ body _ _ _ _ _ _ _ => body.getD j (.Pass ⟨0, 0, 0, 0⟩)
  | _ => .Pass ⟨0, 0, 0, 0⟩
def defArgs (s : Stmt) : Arguments := match s with
  | .FunctionDef _ a _ _ _ _ _ _ _ _ => a
  | _ => { posonlyargs := [], args := [], vararg := none, kwonlyargs := [], kw_defaults := [], kwarg := none, defaults := [] }
def defBody (s : Stmt) : List Stmt := match s with
  | .FunctionDef _ _ b _ _ _ _ _ _ _ => b
  | _ => []
def defScope (s : Stmt) : Scope := match s with
  | .FunctionDef _ _ _ _ _ _ sc _ _ _ => sc
  | _ => { kind := .function, names := [], isGenerator := false, isCoroutine := false }
abbrev CX0 : CXT := fun _ _ _ _ _ _ => False
abbrev E0 : XK := fun _ _ _ => False
theorem pass0 {X : Cx} : Passes CX0 X E0 := fun _ _ _ _ _ _ _ h => h.elim
structure Fun (K : PySem.W.Frag) (x qual : Str) (st : Stmt) (f : Addr) (fd : FuncData) : Prop where
  ex : ∃ (oc : Value) (od : Option Addr) (kV doc pm : Value) (an : Option Addr) (cdv ct : Value) (osl : Array (Option Value)),
    fd = PySem.W.fnOf x qual (defArgs st) (defBody st) (defScope st) .none kV doc pm an cdv ct ∧ K.lookup f = some ⟨oc, od, .func fd, osl⟩ ∧ PySem.W.codeIn K cdv qual = true
  kp : PySem.W.keepIn K (.ref f) = true
section
variable {P : Program} {w : World} {K : PySem.W.Frag} {mg : Str → Option Value} {base : Heap}
theorem Fun.ok {x qual : Str} {st : Stmt} {f : Addr} {fd : FuncData} {N ps : List Str} {k : Nat} {sp : Sp} (F : Fun K x qual st f fd) (S : FnScope N ps (defScope st)) (len : ∀ vs H Q E, sp vs H Q E → vs.length = ps.length)
    (hbody : ∀ (cdv : Value) (A : Around) (outer : List Env) (s : Shared) (H : Hp) (vs : List V) (Q : VK) (E : XK), Room k (A.deeper (envOfC qual (defScope st) s.heap.objs.size f cdv)) → sp vs H Q E →
      ∃ t, PSs (cxOf CX0 P w K mg base N qual (defScope st) f cdv A outer s H E).nox (defBody st) t ∧ t { nx := fun _ H' => Q .non H', rt := Q } (start N vs) H) : FnOk P w K mg base CX0 (k + 1) f fd ps sp := by
  obtain ⟨oc, od, kV, doc, pm, an, cdv, ct, osl, rfl, lk, hcd⟩ := F.ex
  refine fn_of lk hcd S len fun A outer s H vs Q E hr hsp => ?_
  obtain ⟨t, h, q⟩ := hbody cdv A outer s H vs Q E hr hsp
  exact ⟨t, h.nox, q⟩
theorem Fun.binds {x qual : Str} {st : Stmt} {f : Addr} {fd : FuncData} {ps : List Str} (F : Fun K x qual st f fd)
    (h : ∀ (kV doc pm : Value) (an : Option Addr) (cdv ct : Value) (us : List Value), us.length = ps.length → bindArgs (PySem.W.fnOf x qual (defArgs st) (defBody st) (defScope st) .none kV doc pm an cdv ct) ⟨us, []⟩ = pure (ps.zip us)) : Binds K fd ps [] := by
  obtain ⟨oc, od, kV, doc, pm, an, cdv, ct, osl, rfl, lk, hcd⟩ := F.ex
  exact .all (h kV doc pm an cdv ct)
theorem fun_mk {x qual : Str} {st : Stmt} {f : Addr} {oc : Value} {od an : Option Addr} {osl : Array (Option Value)} {kV doc pm cdv ct : Value} (l : K.lookup f = some ⟨oc, od, .func (PySem.W.fnOf x qual (defArgs st) (defBody st) (defScope st) .none kV doc pm an cdv ct), osl⟩)
    (c : PySem.W.codeIn K cdv qual = true) (k : PySem.W.keepIn K (.ref f) = true) : Fun K x qual st f (PySem.W.fnOf x qual (defArgs st) (defBody st) (defScope st) .none kV doc pm an cdv ct) := ⟨⟨oc, od, kV, doc, pm, an, cdv, ct, osl, rfl, l, c⟩, k⟩
end
section
variable {X : Cx}
theorem pv (i : Nat) {x : Str} {pos : Pos} (hN : X.N[i]? = some x := by rfl) (hv : Vis X.env.scope x := by first | exact Or.inl rfl | exact Or.inr (Or.inl rfl) | exact Or.inr (Or.inr rfl)) (hd : (x == ("__debug__" : Str)) = false := by decide)
    (hcd : (x == ("__classdict__" : Str)) = false := by decide) : PE X (.Name x pos) (tVar i) := pe_var hN hv hd hcd
end
def Same (H H' : Hp) : Prop := ∀ b o, H b = some o → H' b = some o
theorem Same.refl (H : Hp) : Same H H := fun _ _ h => h
theorem Same.trans {H H1 H2 : Hp} (a : Same H H1) (b : Same H1 H2) : Same H H2 := fun c o h => b c o (a c o h)
theorem Same.free {H H' : Hp} (e : Same H H') {l : Addr} (h : H' l = Option.none) : H l = Option.none := by
  cases q : H l with
  | none => rfl
  | some o =>
    rw [e l o q] at h
    cases h
theorem Same.seq {K : PySem.W.Frag} {H H' : Hp} {a : Addr} {xs : List V} (e : Same H H') (h : SqL K H a xs) : SqL K H' a xs := by
  rcases h with (h | ⟨o, h⟩) | h
  · exact .inl (.inl (e _ _ h))
  · exact .inl (.inr ⟨o, e _ _ h⟩)
  · exact .inr h
end L2
set_option Elab.async false
set_option linter.all false
set_option maxRecDepth 100000
namespace L2
open PySem PySem.Spec PyProof.Rows
section
variable {κ : Type} [DecidableEq κ]
def valV (kvs : List (κ × V)) (k : κ) : Option V := (kvs.find? fun kv => decide (kv.1 = k)).map (·.2)
def putK (kvs : List (κ × V)) (k : κ) (v : V) : List (κ × V) :=
  if (kvs.any fun kv => decide (kv.1 = k)) = true then kvs.map (fun kv => if kv.1 = k then (kv.1, v) else kv) else kvs ++ [(k, v)]
def dropK (kvs : List (κ × V)) (k : κ) : List (κ × V) := kvs.filter fun kv => decide (kv.1 ≠ k)
theorem valV_nil {k : κ} : valV ([] : List (κ × V)) k = none := rfl
theorem valV_pos {p : κ × V} {r : List (κ × V)} {k : κ} (e : p.1 = k) : valV (p :: r) k = some p.2 := by simp [valV, List.find?_cons, e]
theorem valV_neg {p : κ × V} {r : List (κ × V)} {k : κ} (e : ¬ p.1 = k) : valV (p :: r) k = valV r k := by simp [valV, List.find?_cons, e]
theorem valV_any (k : κ) : ∀ kvs : List (κ × V), (kvs.any fun kv => decide (kv.1 = k)) = (valV kvs k).isSome
  | [] => rfl
  | p :: r => by
    rw [List.any_cons]
    by_cases e : p.1 = k
    · simp only [valV_pos e, decide_eq_true e, Bool.true_or, Option.isSome_some]
    · rw [valV_neg e, decide_eq_false e, Bool.false_or]; exact valV_any k r
theorem valV_map (k j : κ) (y : V) : ∀ kvs : List (κ × V), valV (kvs.map fun kv => if kv.1 = k then (kv.1, y) else kv) j = (valV kvs j).map fun x => if j = k then y else x
  | [] => rfl
  | p :: r => by
    have ih := valV_map k j y r
    rw [List.map_cons]
    by_cases h : p.1 = k
    · rw [if_pos h]
      by_cases e : p.1 = j
      · rw [valV_pos (p := (p.1, y)) e, valV_pos e, Option.map_some, if_pos (e.symm.trans h)]
      · rw [valV_neg (p := (p.1, y)) e, valV_neg e, ih]
    · rw [if_neg h]
      by_cases e : p.1 = j
      · rw [valV_pos (p := p) e, valV_pos e, Option.map_some, if_neg (fun z => h (e.trans z))]
      · rw [valV_neg (p := p) e, valV_neg e, ih]
theorem valV_snoc (k j : κ) (y : V) : ∀ kvs : List (κ × V), valV kvs k = none → valV (kvs ++ [(k, y)]) j = if j = k then some y else valV kvs j
  | [], _ => by
    by_cases e : k = j
    · rw [if_pos e.symm]; exact valV_pos (p := (k, y)) e
    · rw [if_neg (fun z => e z.symm)]; exact valV_neg (p := (k, y)) e
  | p :: r, hn => by
    rw [List.cons_append]
    have hk : ¬ p.1 = k := fun z => by rw [valV_pos z] at hn; cases hn
    rw [valV_neg hk] at hn
    have ih := valV_snoc k j y r hn
    by_cases e : p.1 = j
    · rw [valV_pos e, valV_pos e, if_neg (fun z => hk (e.trans z))]
    · rw [valV_neg e, valV_neg e, ih]
theorem valV_put (kvs : List (κ × V)) (k j : κ) (y : V) : valV (putK kvs k y) j = if j = k then some y else valV kvs j := by
  unfold putK
  by_cases a : (kvs.any fun kv => decide (kv.1 = k)) = true
  · rw [if_pos a, valV_map]
    rw [valV_any] at a
    by_cases e : j = k
    · obtain ⟨x, hx⟩ := Option.isSome_iff_exists.mp a
      rw [if_pos e, e, hx, Option.map_some, if_pos rfl]
    · rw [if_neg e]
      cases valV kvs j with
      | none => rfl
      | some x => rw [Option.map_some, if_neg e]
  · rw [if_neg a]
    refine valV_snoc k j y kvs ?_
    rw [valV_any] at a
    cases q : valV kvs k with
    | none => rfl
    | some x => rw [q] at a; exact (a rfl).elim
theorem length_putK (kvs : List (κ × V)) (k : κ) (v : V) : (putK kvs k v).length ≤ kvs.length + 1 := by
  unfold putK
  split
  · rw [List.length_map]; omega
  · rw [List.length_append, List.length_cons, List.length_nil]; omega
theorem RelO.isSome_eq {o : Option V} {u : Option Value} (r : RelO o u) : o.isSome = u.isSome := by
  cases o with
  | none => cases u with
    | none => rfl
    | some _ => exact (show False from r).elim
  | some _ => cases u with
    | none => exact (show False from r).elim
    | some _ => rfl
theorem RelO.getD {o : Option V} {u : Option Value} {d : V} {d' : Value} (r : RelO o u) (rd : RelV d d') : RelV (o.getD d) (u.getD d') := by
  cases o with
  | none => cases u with
    | none => exact rd
    | some _ => exact (show False from r).elim
  | some _ => cases u with
    | none => exact (show False from r).elim
    | some _ => exact r
theorem KV.val {kvs : List (κ × V)} {vs : List (κ × Value)} (r : KV kvs vs) (k : κ) : RelO (valV kvs k) (valueAt vs k) := by
  unfold KV at r
  induction r with
  | nil => exact True.intro
  | @cons p q ps qs h t ih =>
    obtain ⟨h1, h2⟩ := h
    by_cases e : p.1 = k
    · have e' : q.1 = k := h1.symm.trans e
      have b : valueAt (q :: qs) k = some q.2 := by simp [valueAt, List.find?_cons, e']
      rw [valV_pos e, b]; exact h2
    · have e' : ¬ q.1 = k := fun z => e (h1.trans z)
      have b : valueAt (q :: qs) k = valueAt qs k := by simp [valueAt, List.find?_cons, e']
      rw [valV_neg e, b]; exact ih
theorem KV.any {kvs : List (κ × V)} {vs : List (κ × Value)} (r : KV kvs vs) (k : κ) : (kvs.any fun kv => decide (kv.1 = k)) = vs.any fun kv => decide (kv.1 = k) := by
  unfold KV at r
  induction r with
  | nil => rfl
  | cons h t ih => rw [List.any_cons, List.any_cons, ih, h.1]
theorem KV.repl {kvs : List (κ × V)} {vs : List (κ × Value)} (r : KV kvs vs) (k : κ) {y : V} {u : Value} (ry : RelV y u) :
    KV (kvs.map fun kv => if kv.1 = k then (kv.1, y) else kv) (vs.map fun kv => if kv.1 = k then (kv.1, u) else kv) := by
  unfold KV at r ⊢
  induction r with
  | nil => exact .nil
  | @cons p q ps qs h t ih =>
    rw [List.map_cons, List.map_cons]
    refine .cons ?_ ih
    obtain ⟨h1, h2⟩ := h
    by_cases e : p.1 = k
    · rw [if_pos e, if_pos (h1.symm.trans e)]; exact ⟨h1, ry⟩
    · rw [if_neg e, if_neg (fun z => e (h1.trans z))]; exact ⟨h1, h2⟩
theorem KV.put {kvs : List (κ × V)} {vs : List (κ × Value)} (r : KV kvs vs) (k : κ) {y : V} {u : Value} (ry : RelV y u) : KV (putK kvs k y) (stored vs k u) := by
  unfold putK stored
  rw [r.any k]
  by_cases e : (vs.any fun kv => decide (kv.1 = k)) = true
  · rw [if_pos e, if_pos e]; exact r.repl k ry
  · rw [if_neg e, if_neg e]; exact Paired.snoc r ⟨rfl, ry⟩
theorem KV.drop {kvs : List (κ × V)} {vs : List (κ × Value)} (r : KV kvs vs) (k : κ) : KV (dropK kvs k) (without vs k) := by
  unfold KV at r ⊢
  unfold dropK without
  induction r with
  | nil => exact .nil
  | @cons p q ps qs h t ih =>
    obtain ⟨h1, h2⟩ := h
    rw [List.filter_cons, List.filter_cons]
    by_cases e : p.1 = k
    · have a : ¬ decide (p.1 ≠ k) = true := by simp [e]
      have b : ¬ decide (q.1 ≠ k) = true := by simp [h1.symm.trans e]
      rw [if_neg a, if_neg b]; exact ih
    · have e' : ¬ q.1 = k := fun z => e (h1.trans z)
      have a : decide (p.1 ≠ k) = true := by simp [e]
      have b : decide (q.1 ≠ k) = true := by simp [e']
      rw [if_pos a, if_pos b]; exact .cons ⟨h1, h2⟩ ih
theorem KV.keys {kvs : List (κ × V)} {vs : List (κ × Value)} (r : KV kvs vs) : kvs.map (·.1) = vs.map (·.1) := by
  unfold KV at r
  induction r with
  | nil => rfl
  | cons h t ih => rw [List.map_cons, List.map_cons, ih, h.1]
theorem KV.length {kvs : List (κ × V)} {vs : List (κ × Value)} (r : KV kvs vs) : kvs.length = vs.length := Paired.length r
end
theorem kV_is {P : Program} {w : World} {k : Key} {u : Value} (r : RelV (kV k) u) : (mixKind P w).is k u = true := by
  cases k with
  | inl i => obtain ⟨t, e⟩ := (show ∃ t, u = Value.int i t from r); subst e; exact mixKind_int P w i t
  | inr x => obtain ⟨t, e⟩ := (show ∃ t, u = Value.str x t from r); subst e; exact mixKind_str P w x t
theorem items_are {P : Program} {w : World} : ∀ {ks : List Key} {us : List Value}, Vals (ks.map kV) us → ItemsAre (mixKind P w) ks us
  | [], _, r => by rw [List.map_nil] at r; cases r; exact .nil
  | k :: ks, _, r => by
    rw [List.map_cons] at r
    cases r with
    | cons h t => exact .cons (kV_is h) (items_are t)
abbrev KT (H : Hp) : List (List Key × V) → List (List Key × Addr × Value) → Prop := Paired fun p q => p.1 = q.1 ∧ H q.2.1 = some (.tup (p.1.map kV)) ∧ RelV p.2 q.2.2
theorem KT.val {H : Hp} {kvs : List (List Key × V)} {xs : List (List Key × Addr × Value)} (r : KT H kvs xs) (k : List Key) : RelO (valV kvs k) ((atKey xs k).map (·.2)) := by
  induction r with
  | nil => exact True.intro
  | @cons p q ps qs h t ih =>
    obtain ⟨h1, _, h2⟩ := h
    by_cases e : p.1 = k
    · have e' : q.1 = k := h1.symm.trans e
      have b : atKey (q :: qs) k = some q.2 := by simp [atKey, List.find?_cons, e']
      rw [valV_pos e, b]; exact h2
    · have e' : ¬ q.1 = k := fun z => e (h1.trans z)
      have b : atKey (q :: qs) k = atKey qs k := by simp [atKey, List.find?_cons, e']
      rw [valV_neg e, b]; exact ih
theorem KT.repl {H : Hp} {kvs : List (List Key × V)} {xs : List (List Key × Addr × Value)} (r : KT H kvs xs) (k : List Key) {y : V} {u : Value} (ry : RelV y u) :
    KT H (kvs.map fun kv => if kv.1 = k then (kv.1, y) else kv) (xs.map (putAt k u)) := by
  induction r with
  | nil => exact .nil
  | @cons p q ps qs h t ih =>
    rw [List.map_cons, List.map_cons]
    refine .cons ?_ ih
    obtain ⟨h1, h2, h3⟩ := h
    unfold putAt
    by_cases e : p.1 = k
    · rw [if_pos e, if_pos (h1.symm.trans e)]; exact ⟨h1, h2, ry⟩
    · rw [if_neg e, if_neg (fun z => e (h1.trans z))]; exact ⟨h1, h2, h3⟩
theorem KT.put {H : Hp} {kvs : List (List Key × V)} {xs : List (List Key × Addr × Value)} (r : KT H kvs xs) (k : List Key) {b : Addr} {y : V} {u : Value} (hb : H b = some (.tup (k.map kV))) (ry : RelV y u) :
    KT H (putK kvs k y) (storedH xs k b u) := by
  have e : (kvs.any fun kv => decide (kv.1 = k)) = (atKey xs k).isSome := by
    rw [valV_any, (r.val k).isSome_eq, Option.isSome_map]
  unfold putK storedH
  rw [e]
  by_cases q : (atKey xs k).isSome = true
  · rw [if_pos q, if_pos q]; exact r.repl k ry
  · rw [if_neg q, if_neg q]; exact Paired.snoc r ⟨rfl, hb, ry⟩
theorem KT.keeps {H H' : Hp} {kvs : List (List Key × V)} {xs : List (List Key × Addr × Value)} (r : KT H kvs xs) (ht : ∀ b ys, H b = some (.tup ys) → H' b = some (.tup ys)) : KT H' kvs xs :=
  Paired.mapP r fun _ _ z => ⟨z.1, ht _ _ z.2.1, z.2.2⟩
section
variable {P : Program} {w : World} {H : Hp} {h : Heap} {a : Addr}
theorem rd_of {u : HO} (ok : HOk P w H h) (e : Rd H a u) : ObjOk P w H h a u := e.ok ok
theorem dk_rd {kvs : List (Key × V)} (ok : HOk P w H h) (e : Rd H a (.dK kvs)) : kvs.length ≤ sizeLine ∧ (a == sysModules) = false ∧ ∃ vs, KV kvs vs ∧ h.DictOf (mixKind P w) a vs :=
  show ObjOk P w H h a (.dK kvs) from rd_of ok e
theorem dk_of {kvs : List (Key × V)} (ok : HOk P w H h) (e : H a = some (.dK kvs)) : kvs.length ≤ sizeLine ∧ (a == sysModules) = false ∧ ∃ vs, KV kvs vs ∧ h.DictOf (mixKind P w) a vs := dk_rd ok (.inl e)
theorem key_of {ks : List Key} (ok : HOk P w H h) (e : H a = some (.tup (ks.map kV))) : (tupleKind (mixKind P w)).is h ks a := by
  obtain ⟨_, its, r, o, h1, h2, n, h3⟩ := (show ObjOk P w H h a (.tup (ks.map kV)) from ok a _ e)
  exact ⟨o, its.toArray, n, h1, h2, h3, by simpa using items_are r⟩
theorem dt_rd {kvs : List (List Key × V)} (ok : HOk P w H h) (e : Rd H a (.dT kvs)) : kvs.length ≤ sizeLine ∧ (a == sysModules) = false ∧
    ∃ xs, KT H kvs xs ∧ h.DictOfH (tupleKind (mixKind P w)) a xs := by
  obtain ⟨z, y, xs, r, o, es, ep, h1, h2, h3, h4, h5⟩ := (show ObjOk P w H h a (.dT kvs) from rd_of ok e)
  refine ⟨z, y, xs, r, o, es, ep, h1, h2, h3, h4, fun x hx => ?_, h5⟩
  have all : ∀ {l : List (List Key × V)} {m : List (List Key × Addr × Value)}, KT H l m → ∀ x ∈ m, (tupleKind (mixKind P w)).is h x.1 x.2.1 := by
    intro l m q
    induction q with
    | nil => intro x hx; exact nomatch hx
    | @cons p q ps qs hq t ih =>
      intro x hx
      rcases List.mem_cons.mp hx with e | hx
      · subst e
        exact key_of ok (by rw [← hq.1]; exact hq.2.1)
      · exact ih x hx
  exact all r x hx
end
def DGet (H : Hp) (a : Addr) (y : V) (r : Option V) : Prop :=
  (∃ kvs k, Rd H a (.dK kvs) ∧ y = kV k ∧ r = valV kvs k) ∨ ∃ kvs k b, Rd H a (.dT kvs) ∧ y = .ref b ∧ H b = some (.tup (k.map kV)) ∧ r = valV kvs k
def DPut (H : Hp) (a : Addr) (y v : V) (H' : Hp) : Prop :=
  (∃ kvs k, H a = some (.dK kvs) ∧ y = kV k ∧ kvs.length < sizeLine ∧ H' = upd H a (.dK (putK kvs k v))) ∨
  ∃ kvs k b, H a = some (.dT kvs) ∧ y = .ref b ∧ H b = some (.tup (k.map kV)) ∧ kvs.length < sizeLine ∧ H' = upd H a (.dT (putK kvs k v))
theorem DGet.k {H : Hp} {a : Addr} {kvs : List (Key × V)} {k : Key} (e : H a = some (.dK kvs)) : DGet H a (kV k) (valV kvs k) := .inl ⟨kvs, k, .inl e, rfl, rfl⟩
theorem DGet.t {H : Hp} {a b : Addr} {kvs : List (List Key × V)} {k : List Key} (e : H a = some (.dT kvs)) (eb : H b = some (.tup (k.map kV))) : DGet H a (.ref b) (valV kvs k) := .inr ⟨kvs, k, b, .inl e, rfl, eb, rfl⟩
theorem DPut.k {H : Hp} {a : Addr} {kvs : List (Key × V)} {k : Key} {v : V} (e : H a = some (.dK kvs)) (hl : kvs.length < sizeLine) : DPut H a (kV k) v (upd H a (.dK (putK kvs k v))) := .inl ⟨kvs, k, e, rfl, hl, rfl⟩
theorem DPut.t {H : Hp} {a b : Addr} {kvs : List (List Key × V)} {k : List Key} {v : V} (e : H a = some (.dT kvs)) (eb : H b = some (.tup (k.map kV))) (hl : kvs.length < sizeLine) :
    DPut H a (.ref b) v (upd H a (.dT (putK kvs k v))) := .inr ⟨kvs, k, b, e, rfl, eb, hl, rfl⟩
section
variable {X : Cx} {pins : List (Addr × Obj)} {σ : St} {H : Hp} {s : Shared} {a : Addr} {y v : V} {u r : Value} {o : Option V} {A : Around} {E : Value → Shared → Prop}
theorem Inv.big (I : Inv X pins σ H s) : sysModules < s.heap.objs.size := by
  have h : mainGlobals < s.heap.objs.size := (I.mod.glob.keeps I.bk).lt
  exact Nat.lt_trans (by decide) h
theorem d_getItem {Q : Value → Shared → Prop} (hu : A.units + 1 < cLine) (I : Inv X pins σ H s) (g : DGet H a y (some v)) (ry : RelV y u) (h : ∀ w' s', Inv X pins σ H s' → RelV v w' → Q w' s') :
    wpAny (model X.prog X.w) A (getItem (.ref a) u) Q E s := by
  rcases g with ⟨kvs, k, e, ey, l⟩ | ⟨kvs, k, b, e, ey, eb, l⟩
  · subst ey
    obtain ⟨z, hd, vs, rel, dd⟩ := dk_rd I.hok e
    obtain ⟨w', hw, rw'⟩ := RelO.some_of (v := v) (o := valueAt vs k) (by rw [l]; exact rel.val k)
    exact wpAny_getItem_of (kV_is ry) dd.mapOf hw (h w' _ (I.tok _) rw')
  · subst ey
    cases (show u = Value.ref b from ry)
    obtain ⟨z, hd, xs, rel, dd⟩ := dt_rd I.hok e
    obtain ⟨w', hw, rw'⟩ := RelO.some_of (v := v) (o := (atKey xs k).map (·.2)) (by rw [l]; exact rel.val k)
    obtain ⟨p, hp, hp2⟩ := Option.map_eq_some_iff.mp hw
    refine wpAny_getItem_heap (tupleKind_room_in1 hu) (key_of I.hok eb) dd hp ?_
    rw [hp2]
    exact h w' _ (I.tok _) rw'
theorem d_write {h' : Heap} {t' : Nat} {ob : HO} (I : Inv X pins σ H s) (mu : Mut (H a)) (hs : Heap.SameBut a s.heap h') (he : ∃ q, h'.get? a = some q) (new : ObjOk X.prog X.w (upd H a ob) h' a ob) :
    Inv X pins σ (upd H a ob) { s with heap := h', toks := t' } :=
  I.write (x := a) (e := a) mu (.inl rfl) (fun b q hb z => (hs.2 b hb).trans z) he new
theorem dk_new {P : Program} {w : World} {H' : Hp} {h' : Heap} {kvs : List (Key × V)} {vs : List (Key × Value)} (z : kvs.length ≤ sizeLine) (hd : (a == sysModules) = false) (rel : KV kvs vs) (dd : h'.DictOf (mixKind P w) a vs) :
    ObjOk P w H' h' a (.dK kvs) := ⟨z, hd, vs, rel, dd⟩
end
section
variable {X : Cx} {pins : List (Addr × Obj)} {σ : St} {H : Hp} {s : Shared} {a : Addr} {kvs : List (Key × V)} {k : Key} {u : Value} {A : Around} {E : Value → Shared → Prop}
theorem d_len {Q : Value → Shared → Prop} (I : Inv X pins σ H s) (e : Rd H a (.dK kvs)) (h : ∀ t s', Inv X pins σ H s' → Q (.int kvs.length t) s') : wpAny (model X.prog X.w) A (call (.builtin "len") [.ref a]) Q E s := by
  obtain ⟨z, hd, vs, rel, dd⟩ := dk_rd I.hok e
  refine call_len_dict hd dd (by rw [← rel.length]; rw [sizeLine_eq] at z; omega) ?_
  rw [← rel.length]
  exact h _ _ (I.tok _)
end
def NoSl (i : Expr) : Prop := ∀ ov iv, subscripted i false ov iv = operate [ov, iv] (getItem ov iv)
theorem subD_of {prog : Program} {w : World} {A : Around} {E : Value → Shared → Prop} {s : Shared} {env : Env} {value slice : Expr} {pos : Pos} {T id : String} {Q : Value → Shared → Prop}
    (hl : typeLookup (.type T) "__getitem__" = pure (some (.builtin id))) (hs : NoSl slice)
    (h : wpAny (model prog w) A (eval value env) (fun o s₁ => wpAny (model prog w) A (eval slice env) (fun i s₂ => s₂.TypeIs o T ∧ wpAny (model prog w) A (getItem o i) Q E s₂) E s₁) E s) :
    wpAny (model prog w) A (eval (.Subscript value slice pos) env) Q E s := by
  refine Subscript_ (wpAny_mono h (fun o s₁ h₁ => wpAny_mono h₁ (fun i s₂ h₂ => ?_) fun _ _ x => x) fun _ _ x => x)
  obtain ⟨hT, h₂⟩ := h₂
  unfold subscriptTail
  refine wpAny_bind ?_
  rw [getitemInPython_of_ne hT.not_modules]
  refine wpAny_bind (wpAny_specialOf hT hl ?_)
  have fin : wpAny (model prog w) A (subscripted slice false o i) (fun r s₃ => wpAny (model prog w) A (letTemporaryGo value o r >>= fun _ => pure r) Q E s₃) E s₂ := by
    rw [hs o i]
    exact wpAny_operating (wpAny_mono h₂ (fun r s₃ h₃ => wpAny_bind (wpAny_letTemporaryGo (wpAny_pure h₃))) fun _ _ x => x)
  first
    | exact wpAny_pure (wpAny_bind fin)
    | exact wpAny_bind (wpAny_pure (wpAny_bind fin))
    | exact wpAny_bind fin
theorem dict_typeIs {X : Cx} {pins : List (Addr × Obj)} {σ : St} {H : Hp} {s : Shared} {a : Addr} {y : V} {o : Option V} (I : Inv X pins σ H s) (g : DGet H a y o) : s.TypeIs (.ref a) "dict" := by
  rcases g with ⟨kvs, k, e, _, _⟩ | ⟨kvs, k, b, e, _, _, _⟩
  · obtain ⟨_, _, vs, _, dd⟩ := dk_rd I.hok e
    exact dd.typeIs
  · obtain ⟨_, _, xs, _, dd⟩ := dt_rd I.hok e
    exact dd.typeIs
def tDGet (td ty : TE) : TE := fun σ H Q => td σ H fun x H1 => ty σ H1 fun y H2 => ∃ a v, x = .ref a ∧ DGet H2 a y (some v) ∧ Q v H2
section
variable {X : Cx} {o i e value : Expr} {pos pos' tpos : Pos} {td ty tv : TE}
theorem pe_dget (hu : X.A.units + 1 < cLine) (ho : PE X o td) (hi : PE X i ty) (hs : NoSl i) : PE X (.Subscript o i pos) (tDGet td ty) := by
  intro pins s σ H Q I h
  refine subD_of PySem.F.slot_dict_getitem.lookup hs (thn (ho pins s σ H _ I h) fun u s1 ⟨x, H1, I1, rx, q1⟩ => thn (hi pins s1 σ H1 _ I1 q1) fun iv s2 ⟨y, H2, I2, ry, a, v, ex, g, q2⟩ => ?_)
  subst ex
  obtain rfl : u = Value.ref a := rx
  exact ⟨dict_typeIs I2 g, d_getItem hu I2 g ry fun w' s3 I3 rw' => ⟨v, H2, I3, rw', q2⟩⟩
end
theorem dk_empty {P : Program} {w : World} {H : Hp} (h : Heap) (hb : sysModules < h.objs.size) : ObjOk P w H (h.push { cls := .type "dict", data := .dict #[] }) h.objs.size (.dK []) :=
  ⟨Nat.zero_le _, beq_eq_false_iff_ne.mpr (Ne.symm (Nat.ne_of_lt hb)), [], .nil, Heap.DictOf.new h⟩
def tDNewK : TE := fun _ H Q => ∀ p, H p = none → Q (.ref p) (upd H p (.dK []))
section
variable {X : Cx} {pos : Pos}
end
def tPairs : List (TE × TE) → St → Hp → (List (V × V) → Hp → Prop) → Prop
  | [], _, H, Q => Q [] H
  | (tk, tv) :: r, σ, H, Q => tk σ H fun x H1 => tv σ H1 fun y H2 => tPairs r σ H2 fun ps H3 => Q ((x, y) :: ps) H3
abbrev VV : List (V × V) → List (Value × Value) → Prop := Paired fun p q => RelV p.1 q.1 ∧ RelV p.2 q.2
def PPs (X : Cx) (pos : Pos) (keys : List (Option Expr)) (values : List Expr) (trs : List (TE × TE)) : Prop :=
  ∀ (pins : List (Addr × Obj)) (s : Shared) (σ : St) (H : Hp) (Q : List (V × V) → Hp → Prop), Inv X pins σ H s → tPairs trs σ H Q →
    wpAny (model X.prog X.w) X.A (evalPairs (pairTrees keys values X.env pos)) (fun vs s' => ∃ ps H', Inv X pins σ H' s' ∧ VV ps vs ∧ Q ps H') X.xe s
theorem pps_nil {X : Cx} {pos : Pos} : PPs X pos [] [] [] := fun pins s σ H Q I h => pairTrees_nil_walk ⟨[], H, I, .nil, h⟩
theorem pps_cons {X : Cx} {pos : Pos} {k v : Expr} {ks : List (Option Expr)} {vs : List Expr} {tk tv : TE} {trs : List (TE × TE)} (hk : PE X k tk) (hv : PE X v tv) (hr : PPs X pos ks vs trs) :
    PPs X pos (some k :: ks) (v :: vs) ((tk, tv) :: trs) := fun pins s σ H Q I h =>
  pairTrees_cons_walk (thn (hk pins s σ H _ I h) fun u s1 ⟨x, H1, I1, rx, q1⟩ => thn (hv pins s1 σ H1 _ I1 q1) fun w2 s2 ⟨y, H2, I2, ry, q2⟩ =>
    thn (hr pins s2 σ H2 _ I2 q2) fun ws s3 ⟨ps, H3, I3, rel, q3⟩ => ⟨(x, y) :: ps, H3, I3, .cons ⟨rx, ry⟩ rel, q3⟩)
def mergeK (kvs more : List (Key × V)) : List (Key × V) := more.foldl (fun acc kv => putK acc kv.1 kv.2) kvs
theorem KV.merge : ∀ {more : List (Key × V)} {rs : List (Key × Value)} {kvs : List (Key × V)} {vs : List (Key × Value)}, KV more rs → KV kvs vs → KV (mergeK kvs more) (merged vs rs) := by
  intro more rs kvs vs r
  unfold KV at r
  induction r generalizing kvs vs with
  | nil => intro q; exact q
  | @cons p q ps qs h t ih =>
    intro r0
    have e : KV (putK kvs p.1 p.2) (stored vs q.1 q.2) := by
      have := r0.put p.1 h.2
      rw [← h.1]; exact this
    exact ih e
theorem length_mergeK : ∀ (more kvs : List (Key × V)), (mergeK kvs more).length ≤ kvs.length + more.length
  | [], kvs => by show kvs.length ≤ kvs.length + 0; omega
  | p :: r, kvs => by
    have h1 := length_mergeK r (putK kvs p.1 p.2)
    have h2 := length_putK kvs p.1 p.2
    show (mergeK (putK kvs p.1 p.2) r).length ≤ _
    rw [List.length_cons]; omega
theorem carries_of {P : Program} {w : World} : ∀ {kvs : List (Key × V)} {ws : List (Value × Value)}, VV (kvs.map fun kv => (kV kv.1, kv.2)) ws → ∃ rs, Carries (mixKind P w) ws rs ∧ KV kvs rs
  | [], _, r => by rw [List.map_nil] at r; cases r; exact ⟨[], True.intro, .nil⟩
  | p :: kvs, _, r => by
    rw [List.map_cons] at r
    cases r with
    | @cons a b as bs h t =>
      obtain ⟨rs, c, q⟩ := carries_of (P := P) (w := w) t
      obtain ⟨b1, b2⟩ := b
      exact ⟨(p.1, b2) :: rs, ⟨kV_is h.1, rfl, c⟩, .cons ⟨rfl, h.2⟩ q⟩
def tDisp (trs : List (TE × TE)) : TE := fun σ H Q => ∀ p, H p = none → tPairs trs σ (upd H p (.dK [])) fun ps H2 => H2 p = some (.dK []) ∧ ∃ kvs : List (Key × V), ps = kvs.map (fun kv => (kV kv.1, kv.2)) ∧ kvs.length ≤ 15 ∧ Q (.ref p) (upd H2 p (.dK (mergeK [] kvs)))
theorem pe_disp {X : Cx} {pos : Pos} {keys : List (Option Expr)} {values : List Expr} {trs : List (TE × TE)} (h : PPs X pos keys values trs) (hall : keys.all (·.isSome) = true) (hl : keys.length = values.length) (h0 : keys ≠ [])
    (h15 : keys.length ≤ 15) : PE X (.Dict keys values pos) (tDisp trs) := by
  intro pins s σ H Q I q
  have hn := I.hok.fresh (Nat.le_refl s.heap.objs.size)
  have I1 := I.laid (a := s.heap.objs.size) (o := .dK []) (h' := s.heap.push { cls := .type "dict", data := .dict #[] }) (t' := s.toks) (fun _ _ q => Heap.get?_push_of_some _ q) (Nat.le_refl _) (dk_empty s.heap I.big)
  refine wpAny_Dict_walk (knd := mixKind X.prog X.w) hall hl h0 h15 (thn (h pins _ σ _ _ I1 (q _ hn)) fun ws s2 ⟨ps, H2, I2, rel, e, kvs, ep, lk, q2⟩ => ?_)
  subst ep
  obtain ⟨rs, c, rk⟩ := carries_of (P := X.prog) (w := X.w) rel
  obtain ⟨z, hd, vs0, r0, dd⟩ := dk_of I2.hok e
  cases r0
  refine ⟨rs, c, dd, fun h' dd' hs => ⟨.ref s.heap.objs.size, _, ?_, rfl, q2⟩⟩
  have hz : (mergeK [] kvs).length ≤ sizeLine := by
    have h1 := length_mergeK kvs []
    rw [List.length_nil] at h1
    rw [sizeLine_eq]; omega
  have he : ∃ q, h'.get? s.heap.objs.size = some q := let ⟨q, _, _, hq, _⟩ := dd'; ⟨q, hq⟩
  exact d_write I2 (by rw [e]; exact True.intro) hs he (dk_new hz hd (rk.merge .nil) dd')
structure M1 (X : Cx) (o : Expr) (m : Str) (apos : Pos) (e : Expr) (cpos : Pos) : Prop where
  base : attributeBase o m X.env (eval o X.env) = eval o X.env
  few : ((backTo cpos (starEach [e] X.env)).all (fun x => !x.1) && (backToKw cpos (keywordEach [] X.env)).all (fun x => x.1.isSome)
    && decide (([e] : List Expr).length + ([] : List Keyword).length + (if ([] : List Keyword).isEmpty then 0 else 1) < 30)) = true
  line : (apos.endLine == cpos.line) = true
  trees : backTo cpos (starEach [e] X.env) = [(false, eval e X.env)]
def IsD (H : Hp) (a : Addr) : Prop := (∃ kvs, Rd H a (.dK kvs)) ∨ ∃ kvs, Rd H a (.dT kvs)
theorem isD_at {X : Cx} {pins : List (Addr × Obj)} {σ : St} {H : Hp} {s : Shared} {a : Addr} (I : Inv X pins σ H s) (d : IsD H a) :
    s.TypeIs (.ref a) "dict" ∧ (∀ b, Value.ref a = .ref b → ∃ ob, s.heap.get? b = some ob ∧ ob.dict = none) ∧ (a == sysModules) = false := by
  rcases d with ⟨kvs, e⟩ | ⟨kvs, e⟩
  · obtain ⟨_, hd, vs, _, dd⟩ := dk_rd I.hok e
    refine ⟨dd.typeIs, fun b q => ?_, hd⟩
    cases q
    obtain ⟨ob, _, _, h1, h2, _⟩ := dd
    exact ⟨ob, h1, h2.2.1⟩
  · obtain ⟨_, hd, xs, _, dd⟩ := dt_rd I.hok e
    refine ⟨dd.typeIs, fun b q => ?_, hd⟩
    cases q
    obtain ⟨ob, _, _, h1, h2, _⟩ := dd
    exact ⟨ob, h1, h2.2.1⟩
section
variable {X : Cx} {pins : List (Addr × Obj)} {σ : St} {H : Hp} {s : Shared} {a : Addr} {y d : V} {u r : Value} {o : Option V} {A : Around} {E : Value → Shared → Prop}
theorem d_get1 {Q : Value → Shared → Prop} (hu : A.units + 1 < cLine) (I : Inv X pins σ H s) (g : DGet H a y o) (ry : RelV y u) (h : ∀ w' s', Inv X pins σ H s' → RelV (o.getD .non) w' → Q w' s') :
    wpAny (model X.prog X.w) A (call (.builtin "dict.get") [.ref a, u]) Q E s := by
  rcases g with ⟨kvs, k, e, ey, l⟩ | ⟨kvs, k, b, e, ey, eb, l⟩
  · subst ey
    obtain ⟨z, hd, vs, rel, dd⟩ := dk_rd I.hok e
    refine call_meetsIn PySem.F.slot_dict_get dd.typeIs PySem.F.entry_dict_get (PySem.F.args_dict_get_2 _ _) (meets_dict_get (mixKind X.prog X.w) a (kV_is ry) hd) ⟨_, dd.mapOf, h _ _ (I.tok _) ?_⟩
    rw [l]
    exact (rel.val k).getD rfl
  · subst ey
    cases (show u = Value.ref b from ry)
    obtain ⟨z, hd, xs, rel, dd⟩ := dt_rd I.hok e
    refine call_meetsIn PySem.F.slot_dict_get dd.typeIs PySem.F.entry_dict_get (PySem.F.args_dict_get_2 _ _) (meetsH_dict_get (tupleKind (mixKind X.prog X.w)) a b hd) ⟨tupleKind_room_in1 hu, k, xs, key_of I.hok eb, dd, h _ _ (I.tok _) ?_⟩
    rw [l]
    exact (rel.val k).getD rfl
end
def tDGet1 (td ty : TE) : TE := fun σ H Q => td σ H fun x H1 => ∃ a, x = .ref a ∧ IsD H1 a ∧ ty σ H1 fun y H2 => ∃ o, DGet H2 a y o ∧ Q (o.getD .non) H2
section
variable {X : Cx} {o e f : Expr} {apos cpos : Pos} {td ty tx : TE}
theorem pe_dget1 (hu : X.A.units + 1 < cLine) (ho : PE X o td) (he : PE X e ty) (m : M1 X o "get" apos e cpos) : PE X (.Call (.Attribute o "get" apos) [e] [] cpos) (tDGet1 td ty) := by
  intro pins s σ H Q I h
  refine wpAny_Call_method m.base m.few m.line PySem.F.plainAttrs_dict PySem.F.slot_dict_get PySem.F.type_dict_get (thn (ho pins s σ H _ I h) fun u s1 ⟨x, H1, I1, rx, a, ex, d, q1⟩ => ?_)
  subst ex
  obtain rfl : u = Value.ref a := rx
  obtain ⟨t1, t2, _⟩ := isD_at I1 d
  refine ⟨t1, t2, ?_⟩
  rw [m.trees]
  refine Calls.callWith_builtin rfl (Calls.evalArgs_plain (Calls.spliced_cons (thn (he pins s1 σ H1 _ I1 q1) fun iv s2 ⟨y, H2, I2, ry, ov, g, q2⟩ => Calls.spliced_nil ?_)))
  exact d_get1 hu I2 g ry fun w' s3 I3 rw' => ⟨_, H2, I3, rw', q2⟩
end
section
variable {X : Cx} {pins : List (Addr × Obj)} {σ : St} {H : Hp} {s : Shared} {a : Addr} {kvs : List (Key × V)} {A : Around} {E : Value → Shared → Prop}
end
section
variable {X : Cx} {pins : List (Addr × Obj)} {σ : St} {H : Hp} {s : Shared} {a : Addr} {y : V} {u : Value} {A : Around} {E : Value → Shared → Prop}
end
end L2
namespace L2
open PySem PySem.Spec PyProof.Rows
section
variable {X : Cx}
end
section
variable {κ : Type} [DecidableEq κ]
end
end L2
set_option Elab.async false
set_option linter.all false
set_option maxRecDepth 100000
namespace L2
open PySem PySem.Spec PyProof.Rows
def cxComp (X : Cx) (scope : Scope) (cl : List (Str × Addr)) (N : List Str) (C : Addr) (ex : List Addr) (s₀ : Shared) (H₀ : Hp) : Cx where
  prog := X.prog
  w := X.w
  K := X.K
  mg := X.mg
  base := X.base
  A := X.A
  N := N
  s₀ := s₀
  H₀ := H₀
  env := compEnvC scope cl C X.env
  outer := X.stack
  stack := X.stack
  ex := ex
  fn := fun _ => false
  calm := X.calm
  pn := X.pn
  xe := fun _ _ => False
theorem calm_comp {X : Cx} {scope : Scope} {cl : List (Str × Addr)} {N : List Str} {C : Addr} {ex : List Addr} {s₀ : Shared} {H₀ : Hp} (c : Calm X) : Calm (cxComp X scope cl N C ex s₀ H₀) := c
structure CompScope (X : Cx) (scope : Scope) (tn cn : List Str) (caps : List Nat) : Prop where
  kind : scope.kind = .function
  nocell : ∀ y ∈ scope.names, y.2 ≠ .cell
  names : ∀ y ∈ scope.names, y.2 = .local → scope.names.lookup y.1 = some .local
  caught : ∀ y ∈ scope.names, y.2 = .free → X.env.kindOf y.1 = some .cell ∨ X.env.kindOf y.1 = some .free
  free : ∀ y ∈ cn, scope.names.lookup y = some .free
  slots : caps.map (fun j => X.N[j]?) = cn.map some
theorem CompScope.of {X : Cx} {scope osc : Scope} {tn cn : List Str} {caps : List Nat} (ho : X.env.scope = osc) (kind : scope.kind = .function) (nocell : ∀ y ∈ scope.names, y.2 ≠ .cell)
    (names : ∀ y ∈ scope.names, y.2 = .local → scope.names.lookup y.1 = some .local) (caught : ∀ y ∈ scope.names, y.2 = .free → osc.names.lookup y.1 = some .cell ∨ osc.names.lookup y.1 = some .free) (free : ∀ y ∈ cn, scope.names.lookup y = some .free)
    (slots : caps.map (fun j => X.N[j]?) = cn.map some) : CompScope X scope tn cn caps :=
  ⟨kind, nocell, names, fun y hy hf => by show X.env.scope.names.lookup y.1 = _ ∨ X.env.scope.names.lookup y.1 = _; rw [ho]; exact caught y hy hf, free, slots⟩
def capσ (σ : St) (caps : List Nat) : St := caps.map fun j => (σ[j]?).getD none
theorem closureFor_acc (env : Env) : ∀ (names : List (Str × NameKind)) (cs : List (Str × Addr)), (∀ x ∈ names, x.2 = .free → ∃ c, env.cells.lookup x.1 = some c) → (∀ y c, cs.lookup y = some c → env.cells.lookup y = some c) →
    ∃ cl : List (Str × Addr), (forIn names cs fun (x : Str × NameKind) (r : List (Str × Addr)) => (if (x.2 == NameKind.free) = true then do let a ← cellOf env x.1; pure (ForInStep.yield ((x.1, a) :: r)) else pure (ForInStep.yield r) : Sem (ForInStep (List (Str × Addr))))) = pure cl ∧
      (∀ y c, cl.lookup y = some c → env.cells.lookup y = some c) ∧ (∀ x ∈ names, x.2 = .free → ∃ c, cl.lookup x.1 = some c) ∧ ∀ y c, cs.lookup y = some c → ∃ c', cl.lookup y = some c'
  | [], cs, _, h2 => ⟨cs, by simp, h2, fun x h => absurd h (by simp), fun y c h => ⟨c, h⟩⟩
  | (n, k) :: r, cs, h1, h2 => by
    by_cases hk : (k == NameKind.free) = true
    · obtain ⟨c, hc⟩ := h1 (n, k) List.mem_cons_self (by simpa using hk)
      have h2' : ∀ y d, ((n, c) :: cs).lookup y = some d → env.cells.lookup y = some d := fun y d h => by
        rw [List.lookup_cons] at h
        split at h
        · rename_i e
          have e' : y = n := by simpa using e
          cases h
          rw [e']; exact hc
        · exact h2 y d h
      obtain ⟨cl, e, p1, p2, p3⟩ := closureFor_acc env r ((n, c) :: cs) (fun x hx => h1 x (List.mem_cons_of_mem _ hx)) h2'
      refine ⟨cl, ?_, p1, fun x hx hf => ?_, fun y d h => ?_⟩
      · rw [List.forIn_cons]
        simp only [hk, if_true, cellOf, hc, pure_bind]
        exact e
      · rcases List.mem_cons.mp hx with e1 | e1
        · subst e1
          exact p3 n c (by rw [List.lookup_cons]; simp)
        · exact p2 x e1 hf
      · by_cases hy : (y == n) = true
        · exact p3 y c (by rw [List.lookup_cons, hy])
        · exact p3 y d (by rw [List.lookup_cons]; simp only [Bool.not_eq_true] at hy; rw [hy]; exact h)
    · obtain ⟨cl, e, p1, p2, p3⟩ := closureFor_acc env r cs (fun x hx => h1 x (List.mem_cons_of_mem _ hx)) h2
      refine ⟨cl, ?_, p1, fun x hx hf => ?_, p3⟩
      · rw [List.forIn_cons]
        simp only [hk, if_false, pure_bind, Bool.false_eq_true]
        exact e
      · rcases List.mem_cons.mp hx with e1 | e1
        · subst e1
          exact absurd (by simpa using hf) hk
        · exact p2 x e1 hf
theorem closureFor_some {scope : Scope} {env : Env} (h : ∀ x ∈ scope.names, x.2 = .free → ∃ c, env.cells.lookup x.1 = some c) :
    ∃ cl : List (Str × Addr), closureFor scope env = pure cl ∧ (∀ y c, cl.lookup y = some c → env.cells.lookup y = some c) ∧ ∀ x ∈ scope.names, x.2 = .free → ∃ c, cl.lookup x.1 = some c := by
  obtain ⟨cl, e, p1, p2, _⟩ := closureFor_acc env scope.names [] h (fun y c h => by simp at h)
  refine ⟨cl, ?_, p1, p2⟩
  unfold closureFor
  simp only [bind_pure]
  first
    | exact e
    | (rw [← e]; rfl)
    | (rw [← e]; congr 1; funext x r; obtain ⟨n, k⟩ := x; by_cases hk : (k == NameKind.free) = true <;> simp [hk])
theorem lookup_relabel_free {env : Env} : ∀ {names : List (Str × NameKind)} {x : Str}, names.lookup x = some .free →
    (names.map fun (n, k) => if (k == NameKind.free && env.scope.kind == .function && env.kindOf n == some .cell) then (n, NameKind.cell) else (n, k)).lookup x = some .cell ∨
    (names.map fun (n, k) => if (k == NameKind.free && env.scope.kind == .function && env.kindOf n == some .cell) then (n, NameKind.cell) else (n, k)).lookup x = some .free
  | [], _, h => by simp at h
  | (n, k) :: r, x, h => by
    have ih := @lookup_relabel_free env r x
    show List.lookup x ((if (k == NameKind.free && env.scope.kind == .function && env.kindOf n == some .cell) = true then (n, NameKind.cell) else (n, k)) :: _) = _ ∨ List.lookup x ((if (k == NameKind.free && env.scope.kind == .function && env.kindOf n == some .cell) = true then (n, NameKind.cell) else (n, k)) :: _) = _
    cases hx : x == n with
    | true =>
      simp only [List.lookup_cons, hx] at h
      cases h
      by_cases hc : (NameKind.free == NameKind.free && env.scope.kind == .function && env.kindOf n == some .cell) = true
      · rw [if_pos hc]; simp [List.lookup_cons, hx]
      · rw [if_neg hc]; simp [List.lookup_cons, hx]
    | false =>
      simp only [List.lookup_cons, hx] at h
      by_cases hc : (k == NameKind.free && env.scope.kind == .function && env.kindOf n == some .cell) = true
      · rw [if_pos hc]; simp only [List.lookup_cons, hx]; exact ih h
      · rw [if_neg hc]; simp only [List.lookup_cons, hx]; exact ih h
theorem relabel_inv {env : Env} : ∀ {names : List (Str × NameKind)} {x : Str}, (∀ y ∈ names, y.2 ≠ .cell) →
    ((names.map fun (n, k) => if (k == NameKind.free && env.scope.kind == .function && env.kindOf n == some .cell) then (n, NameKind.cell) else (n, k)).lookup x = some .cell ∨
    (names.map fun (n, k) => if (k == NameKind.free && env.scope.kind == .function && env.kindOf n == some .cell) then (n, NameKind.cell) else (n, k)).lookup x = some .free) → names.lookup x = some .free
  | [], _, _, h => by simp at h
  | (n, k) :: r, x, hn, h => by
    have ih := @relabel_inv env r x (fun y hy => hn y (List.mem_cons_of_mem _ hy))
    have h : List.lookup x ((if (k == NameKind.free && env.scope.kind == .function && env.kindOf n == some .cell) = true then (n, NameKind.cell) else (n, k)) :: _) = _ ∨ List.lookup x ((if (k == NameKind.free && env.scope.kind == .function && env.kindOf n == some .cell) = true then (n, NameKind.cell) else (n, k)) :: _) = _ := h
    cases hx : x == n with
    | true =>
      simp only [List.lookup_cons, hx]
      by_cases hc : (k == NameKind.free && env.scope.kind == .function && env.kindOf n == some .cell) = true
      · have : (k == NameKind.free) = true := by
          simp only [Bool.and_eq_true] at hc; exact hc.1.1
        have : k = .free := by simpa using this
        rw [this]
      · rw [if_neg hc] at h
        simp only [List.lookup_cons, hx] at h
        rcases h with h | h
        · exact absurd (Option.some.inj h) (hn (n, k) List.mem_cons_self)
        · rw [Option.some.inj h]
    | false =>
      simp only [List.lookup_cons, hx]
      by_cases hc : (k == NameKind.free && env.scope.kind == .function && env.kindOf n == some .cell) = true
      · rw [if_pos hc] at h; simp only [List.lookup_cons, hx] at h; exact ih h
      · rw [if_neg hc] at h; simp only [List.lookup_cons, hx] at h; exact ih h
section
variable {X : Cx} {scope : Scope} {tn cn : List Str} {caps : List Nat} {pins : List (Addr × Obj)} {σ : St} {H : Hp} {s : Shared} {fp : List Addr} {cl : List (Str × Addr)} {ob : Obj}
theorem comp_ok (S : CompScope X scope tn cn caps) (I : Inv X pins σ H s) (hcl : ∀ y c, cl.lookup y = some c → X.env.cells.lookup y = some c) (hcl2 : ∀ x ∈ scope.names, x.2 = .free → ∃ c, cl.lookup x.1 = some c)
    (hf : ∀ b ∈ fp, FpOk X pins H b) (hfp : ∀ b ∈ fp, b < s.heap.objs.size) (N : List Str) :
    (cxComp X scope cl N (s.heap.push ob).objs.size (s.heap.objs.size :: fp) { s with heap := s.heap.push ob } H).Ok := by
  have hC : (s.heap.push ob).objs.size = s.heap.objs.size + 1 := by rw [Heap.size_push]
  refine ⟨I.ok.mod, S.kind, I.ok.glob, I.ok.blt, Nat.le_refl _, fun x y c h1 h2 => I.ok.inj x y c (hcl x c h1) (hcl y c h2), fun x hx => ?_, fun x c h => absurd h (by simp [cxComp]), I.ok.hd, I.ok.frames, .inl rfl, fun b hb => ?_,
    fun b o e => ⟨Heap.get?_push_of_some _ (I.bs b o e).1, (I.bs b o e).2⟩, ?_, fun b o e hb => ?_, fun b hb z => ?_, ?_, I.stkFree⟩
  · exact hcl2 (x, .free) (PySem.mem_of_lookup (relabel_inv S.nocell hx)) rfl
  · rcases List.mem_cons.mp (show b ∈ s.heap.objs.size :: fp from hb) with e | hb
    · subst e
      refine ⟨fun z => ?_, fun x c e z => ?_⟩
      · have z' : s.heap.objs.size = (s.heap.push ob).objs.size := z
        omega
      · obtain ⟨v, q⟩ := I.cell x c (hcl x c e)
        exact absurd q.lt (by rw [z]; exact Nat.lt_irrefl _)
    · refine ⟨fun z => ?_, fun x c e => (hf b hb).2.2.2.2.1 x c (hcl x c e)⟩
      have z' : b = (s.heap.push ob).objs.size := z
      have h1 := hfp b hb
      rw [z', hC] at h1
      exact Nat.lt_irrefl _ (Nat.lt_of_succ_lt h1)
  · show X.base.objs.size ≤ (s.heap.push ob).objs.size
    have h1 := I.ok.bsz
    have h2 := I.sz
    omega
  · rcases List.mem_cons.mp (show b ∈ s.heap.objs.size :: fp from hb) with e1 | hb
    · subst e1
      exact absurd (Heap.lt_size (I.bk _ o e)) (Nat.lt_irrefl _)
    · rcases (hf b hb).2.2.2.1 with z | z
      · exact I.ok.noex b o e z
      · have h1 := I.ok.bsz
        have h2 := Heap.lt_size e
        exact Nat.lt_irrefl _ (Nat.lt_of_lt_of_le h2 (Nat.le_trans h1 z))
  · have z' := I.stkSub b z
    rcases List.mem_cons.mp (show b ∈ s.heap.objs.size :: fp from hb) with e1 | hb
    · subst e1
      rcases List.mem_cons.mp z' with z1 | z1
      · exact absurd I.lt (by rw [← z1]; exact Nat.lt_irrefl _)
      · exact I.nofs (Nat.le_refl _) z1
    · rcases List.mem_cons.mp z' with z1 | z1
      · exact (hf b hb).2.1 z1
      · exact (hf b hb).2.2.1 z1
  · exact I.stack.of_keeps fun b o e _ => ⟨o, Heap.get?_push_of_some _ e, rfl⟩
theorem comp_inv (S : CompScope X scope tn cn caps) (I : Inv X pins σ H s) (hcl : ∀ y c, cl.lookup y = some c → X.env.cells.lookup y = some c) (hcl2 : ∀ x ∈ scope.names, x.2 = .free → ∃ c, cl.lookup x.1 = some c)
    (hf : ∀ b ∈ fp, FpOk X pins H b) (hfp : ∀ b ∈ fp, b < s.heap.objs.size) (hob : ∀ v, ob.data ≠ .cell v) (hfr : ob.isFreed = false) {h1 : Heap} {m0 : Str → Option Value} {tk : Nat} (hn : h1.Ns (s.heap.push ob).objs.size m0)
    (hk : ∀ b o, (s.heap.push ob).get? b = some o → h1.get? b = some o) :
    Inv (cxComp X scope cl (tn ++ cn) (s.heap.push ob).objs.size (s.heap.objs.size :: fp) { s with heap := s.heap.push ob } H) (X.pn ++ pins ++ [(s.heap.objs.size, ob)]) (List.replicate tn.length none ++ capσ σ caps) H { s with heap := h1, toks := tk } := by
  have hC : (s.heap.push ob).objs.size = s.heap.objs.size + 1 := by rw [Heap.size_push]
  have hk' : ∀ b o, s.heap.get? b = some o → h1.get? b = some o := fun b o e => hk b o (Heap.get?_push_of_some _ e)
  have hlen : caps.length = cn.length := by have := congrArg List.length S.slots; simpa using this
  refine ⟨comp_ok S I hcl hcl2 hf hfp _, rfl, I.bare, Un.kept hk, ⟨m0, hn, fun i x v e1 e2 e3 => ?_⟩, fun x c e => ?_, I.hok.fresh (by rw [hC]; exact Nat.le_succ _), fun x c e => I.freeC x c (hcl x c e), fun p hp => ?_, I.hok.kept hk', ?_⟩
  · have e1 : (tn ++ cn)[i]? = some x := e1
    by_cases hi : i < tn.length
    · rw [List.getElem?_append_left (by simpa using hi), List.getElem?_replicate, if_pos hi] at e2
      cases e2
    · have hi' : tn.length ≤ i := Nat.le_of_not_lt hi
      rw [List.getElem?_append_right (by simpa using hi'), List.length_replicate] at e2
      rw [List.getElem?_append_right hi'] at e1
      have hx : x ∈ cn := List.mem_of_getElem? e1
      have hsl : (caps.map fun j => X.N[j]?)[i - tn.length]? = (cn.map some)[i - tn.length]? := by rw [S.slots]
      rw [List.getElem?_map, List.getElem?_map, e1] at hsl
      unfold capσ at e2
      rw [List.getElem?_map] at e2
      cases hj : caps[i - tn.length]? with
      | none => rw [hj] at e2; cases e2
      | some j =>
        rw [hj] at hsl e2
        have hN : X.N[j]? = some x := Option.some.inj hsl
        have e2 : (σ[j]?).getD none = some v := Option.some.inj e2
        have hσ : σ[j]? = some (some v) := by
          cases q : σ[j]? with
          | none => rw [q] at e2; cases e2
          | some y => rw [q] at e2; rw [← e2]; rfl
        have hkx := S.caught (x, .free) (PySem.mem_of_lookup (S.free x hx)) rfl
        obtain ⟨m, _, hl⟩ := I.loc
        obtain ⟨u, r, l⟩ := hl j x v hN hσ (by rcases hkx with z | z; exact .inr (.inl z); exact .inr (.inr z))
        refine ⟨u, r, ?_⟩
        rcases l with ⟨k, _⟩ | ⟨k, c, e, z⟩
        · rcases hkx with z | z
          · rw [show X.env.kindOf x = _ from k] at z; cases z
          · rw [show X.env.kindOf x = _ from k] at z; cases z
        · obtain ⟨c', ec⟩ := hcl2 (x, .free) (PySem.mem_of_lookup (S.free x hx)) rfl
          have e' := hcl x c' ec
          rw [e] at e'
          cases e'
          obtain ⟨oc, ho, hd⟩ := z
          exact .inr ⟨lookup_relabel_free (S.free x hx), c, ec, oc, hk' c oc ho, hd⟩
  · obtain ⟨v, oc, ho, hd⟩ := I.cell x c (hcl x c e)
    exact ⟨v, oc, hk' c oc ho, hd⟩
  · have hp : p ∈ X.pn ++ pins ++ [(s.heap.objs.size, ob)] := (List.mem_append.mp hp).elim (fun z => List.mem_append_left _ (List.mem_append_left _ z)) id
    rcases List.mem_append.mp hp with hp | hp
    · obtain ⟨e, n, ne, nf, d⟩ := I.pin p hp
      refine ⟨hk' _ _ e, n, fun z => ?_, fun z => ?_, d⟩
      · have z' : p.1 = (s.heap.push ob).objs.size := z
        have h1 := Heap.lt_size e
        rw [z', hC] at h1
        exact Nat.lt_irrefl _ (Nat.lt_of_succ_lt h1)
      · rcases List.mem_cons.mp (I.stkSub p.1 z) with z1 | z1
        · exact ne z1
        · exact nf z1
    · have e : p = (s.heap.objs.size, ob) := by simpa using hp
      subst e
      refine ⟨hk _ _ (Heap.get?_push_size _ hfr), I.hok.fresh (Nat.le_refl _), fun z => ?_, fun z => ?_, hob⟩
      · have z' : s.heap.objs.size = (s.heap.push ob).objs.size := z
        omega
      · rcases List.mem_cons.mp (I.stkSub s.heap.objs.size z) with z1 | z1
        · exact absurd I.lt (by rw [← z1]; exact Nat.lt_irrefl _)
        · exact I.nofs (Nat.le_refl _) z1
  · show (List.replicate tn.length none ++ capσ σ caps).length = (tn ++ cn).length
    unfold capσ
    simp [hlen]
theorem comp_fin {N : List Str} {σ0 : St} {H' : Hp} {s' : Shared} {C : Addr} {s3 : Shared} {its : List Value} {n : Nat} {ys : List V} (I : Inv X pins σ H s) (hf : ∀ b ∈ fp, FpOk X pins H b) (hfp : ∀ b ∈ fp, b < s.heap.objs.size) (hC : s.heap.objs.size < C)
    (hs3 : ∀ b o, s.heap.get? b = some o → s3.heap.get? b = some o) (hos : s3.os = s.os)
    (I' : Inv (cxComp X scope cl N C (s.heap.objs.size :: fp) s3 H) (X.pn ++ pins ++ [(s.heap.objs.size, { cls := .type "list", data := .seq its.toArray n })]) σ0 H' s') (rv : Vals ys its) (hz : ys.length ≤ sizeLine) :
    Inv X pins σ (upd H' s.heap.objs.size (.lst ys)) s' ∧ H' s.heap.objs.size = none ∧ FpOk X pins (upd H' s.heap.objs.size (.lst ys)) C ∧ ∃ m, s'.heap.Ns C m := by
  have pD := I'.pin (s.heap.objs.size, { cls := .type "list", data := .seq its.toArray n }) (by show _ ∈ X.pn ++ (X.pn ++ pins ++ [_]); simp)
  have hD : H' s.heap.objs.size = none := pD.2.1
  have base : Un (frs X.stack) (s.heap.objs.size :: fp) H H' s3.heap s'.heap := I'.base
  have old : ∀ b o, s.heap.get? b = some o → b ≠ s.heap.objs.size := fun b o e => Nat.ne_of_lt (Heap.lt_size e)
  have nex : ∀ b o, s.heap.get? b = some o → b ∉ fp → b ∉ s.heap.objs.size :: fp := fun b o e h z => by
    rcases List.mem_cons.mp z with z | z
    · exact old b o e z
    · exact h z
  have oldT : ∀ b u, H b = some u → b ≠ s.heap.objs.size := fun b u e => Nat.ne_of_lt (I.hok.lt e)
  refine ⟨I.call' (ch := fp) (I'.os.trans hos) ⟨fun b o e n hb hx => base.keep b o (hs3 b o e) n hb (nex b o e hx), fun b o e n hb hx => base.slot b o (hs3 b o e) n hb (nex b o e hx), fun b o e n hx => ?_, fun b o e hx => base.there b o (hs3 b o e) (nex b o e hx),
    fun b xs e => ?_, fun b o u e => ?_, fun b ps e => ?_⟩ (fun a o e => ?_) I'.bare fun b hb => ?_, hD, I.fpOk (Nat.le_of_lt hC) ?_, ?_⟩
  · rw [upd_ne (old b o e)]; exact base.free b o (hs3 b o e) n (nex b o e hx)
  · rw [upd_ne (oldT b _ e)]; exact base.tups b xs e
  · rw [upd_ne (oldT b _ e)]; exact base.frzs b o u e
  · rw [upd_ne (oldT b _ e)]; exact base.tbls b ps e
  · by_cases ha : a = s.heap.objs.size
    · subst ha
      rw [upd_same] at e
      cases e
      exact ⟨hz, its, n, rv, pD.1⟩
    · rw [upd_ne ha] at e
      exact (I'.hok a o e).stay (fun _ _ _ q => q) (fun c q => by rw [upd_ne (ne_of_none q hD)]; exact q) fun c xs q => by rw [upd_ne (ne_of_none q hD)]; exact q
  · have q := hf b hb
    exact ⟨q.2.2.2.1, q.2.1, q.2.2.2.2.1, q.2.2.2.2.2⟩
  · rw [upd_ne (Nat.ne_of_gt hC)]; exact I'.free
  · obtain ⟨m, hn, _⟩ := I'.loc
    exact ⟨m, hn⟩
end
def PTs (X : Cx) (ifs : List Expr) (t : TT) : Prop :=
  ∀ (pins : List (Addr × Obj)) (s : Shared) (σ : St) (H : Hp) (Q : Bool → Hp → Prop), Inv X pins σ H s → t σ H Q →
    wpAny (model X.prog X.w) X.A (forIn ifs true fun c r => if r = true then do let ok ← isTrue c X.env (eval c X.env); pure (ForInStep.yield ok) else pure (ForInStep.yield r)) (TP X pins σ Q) X.xe s
def tYes : TT := fun _ H Q => Q true H
theorem pts_nil {X : Cx} : PTs X [] tYes := fun _ _ _ H _ I h => wpAny_tests_nil ⟨H, I, h⟩
theorem pts_one {X : Cx} {c : Expr} {t : TT} (h : PT X c t) : PTs X [c] t := fun pins s σ H Q I hw => wpAny_tests_one (h pins s σ H Q I hw)
theorem compLoop_own {prog : Program} {w : World} {A : Around} {R : Result → Shared → Prop} {s : Shared} {elt target iter : Expr} {ifs : List Expr} {scope : Scope} {pos : Pos} {it acc : Value} {env : Env} (I : Nat → Shared → Prop)
    (turn : ∀ n s, I n s → wpAny (model prog w) A (pyNext it) (fun r s₁ => match r with
      | none => R (.ok .next) s₁
      | some v => wpAny (model prog w) A (letOwnedTupleGo target it v) (fun _ s₁' => wpAny (model prog w) A (assign target env v) (fun _ s₂ =>
          wpAny (model prog w) A (forIn ifs true fun c r => if r = true then do let ok ← isTrue c env (eval c env); pure (ForInStep.yield ok) else pure (ForInStep.yield r)) (fun ok s₃ =>
            if ok = true then wpAny (model prog w) A (eval elt env) (fun x s₄ =>
              wpAny (model prog w) A (call (.builtin "list.append") [acc, x]) (fun _ s₅ => ∃ m, m < n ∧ I m s₅) (fun _ _ => False) s₄) (fun _ _ => False) s₃
            else ∃ m, m < n ∧ I m s₃) (fun _ _ => False) s₂) (fun _ _ => False) s₁') (fun _ _ => False) s₁) (fun _ _ => False) s)
    (n : Nat) (h : I n s) :
    codeAny (model prog w) A (.compLoop (.ListComp elt [⟨target, iter, ifs, 0⟩] scope pos) 0 it acc env) R s := by
  refine codeAny_loop rfl I (fun n s hI => ?_) n h
  show wpAny _ A ((compTurn (.ListComp elt [⟨target, iter, ifs, 0⟩] scope pos) 0 it acc env).onRaise (fun x => do noteFrame x env; theTreesLotGoes x)) _ _ s
  refine wpAny_noted ?_
  rw [compTurn_list]
  refine wpAny_bind (wpAny_standAt (wpAny_bind (wpAny_mono (turn n s hI) (fun r s₁ h₁ => ?_) fun _ _ h' => h'.elim)))
  cases r with
  | none => exact wpAny_pure h₁
  | some v =>
    refine wpAny_bind (wpAny_mono h₁ (fun _ s₁' h₁' => ?_) fun _ _ h' => h'.elim)
    refine wpAny_bind (wpAny_mono h₁' (fun _ s₂ h₂ => wpAny_bind (wpAny_mono h₂ (fun ok s₃ h₃ => ?_) fun _ _ h' => h'.elim)) fun _ _ h' => h'.elim)
    cases ok with
    | false => exact wpAny_pure ⟨rfl, h₃⟩
    | true =>
      exact wpAny_bind (wpAny_bind (wpAny_mono h₃ (fun x s₄ h₄ => wpAny_bind (wpAny_mono h₄ (fun _ s₅ h₅ => wpAny_pure (wpAny_pure ⟨rfl, h₅⟩)) fun _ _ h' => h'.elim)) fun _ _ h' => h'.elim))
def CompW (J : It) (g : TG) (tt : TT) (te : TE) (σ0 : St) (W : Nat → Nat → List V → Hp → Prop) (F : List V → Hp → Prop) : Prop :=
  ∀ i m ys H, W i m ys H → (J.stop i H ∧ ys.length ≤ sizeLine ∧ F ys H) ∨ (J.go i H ∧ ∃ N : List V → Hp → Prop, (∀ ys' H', N ys' H' → ∃ m', m' < m ∧ W (i + 1) m' ys' H') ∧
    ∀ x H', J.yld i H x H' → g x σ0 H' fun σ2 H2 => (σ2.length = σ0.length ∧ ∀ (j : Nat) (v : V), σ0[j]? = some (some v) → σ2[j]? = some (some v)) ∧
      tt σ2 H2 fun b H3 => if b = true then te σ2 H3 fun y H4 => ys.length ≤ sizeLine ∧ N (ys ++ [y]) H4 else N ys H3)
section
variable {X : Cx} {scope : Scope} {tn cn : List Str} {caps : List Nat}
theorem comp_block {tg iter elt : Expr} {ifs : List Expr} {pos : Pos} {g : TG} {tt : TT} {te : TE} {pins : List (Addr × Obj)} {σ : St} {H : Hp} {s : Shared} {it : Addr} {fp : List Addr} {tnn : Nat → Heap → Prop} {J : It} {cl : List (Str × Addr)}
    {W : Nat → Nat → List V → Hp → Prop} {F : List V → Hp → Prop} {m0 : Nat} {E : Value → Shared → Prop} {RR : Value → Addr → Result → Shared → Prop}
    (S : CompScope X scope tn cn caps) (hc : Calm X) (hcl : ∀ y c, cl.lookup y = some c → X.env.cells.lookup y = some c) (hcl2 : ∀ x ∈ scope.names, x.2 = .free → ∃ c, cl.lookup x.1 = some c)
    (hg : ∀ C ex s₀ H₀, PG (cxComp X scope cl (tn ++ cn) C ex s₀ H₀) tg g) (ht : ∀ C ex s₀ H₀, PTs (cxComp X scope cl (tn ++ cn) C ex s₀ H₀) ifs tt) (he : ∀ C ex s₀ H₀, PE (cxComp X scope cl (tn ++ cn) C ex s₀ H₀) elt te)
    (I : Inv X pins σ H s) (T : Turn X.prog X.w X.K tg J fp it tnn) (st : tnn 0 s.heap) (hf : ∀ b ∈ fp, FpOk X pins H b) (hW : CompW J g tt te (List.replicate tn.length none ++ capσ σ caps) W F) (w0 : W 0 m0 [] H)
    (hRR : ∀ D C s' H' ys m, H' D = none → F ys H' → Inv X pins σ (upd H' D (.lst ys)) s' → FpOk X pins (upd H' D (.lst ys)) C → s'.heap.Ns C m → RR (.ref D) C (.ok .next) s') :
    wpAny (model X.prog X.w) X.A (newList []) (fun acc s₃ => wpAny (model X.prog X.w) X.A (newFunctionEnv scope X.env.globals cl [] X.env.qual none .none (some X.env)) (fun cenv s₄ =>
      codeAny (model X.prog X.w) X.A (.compStart (.ListComp elt [⟨tg, iter, ifs, 0⟩] scope pos) 0 (.ref it) acc { cenv with scope := relabel scope X.env }) (RR acc cenv.locals) s₄) E s₃) E s := by
  have hfp : ∀ b ∈ fp, b < s.heap.objs.size := fun b hb => let ⟨o, e, _⟩ := T.obj 0 s.heap st b hb; Heap.lt_size e
  refine wpAny_newObj_type (wpAny_newFunctionEnv S.nocell (by intro y hy; simp at hy) (fun h₁ hns₁ hsb₁ => ?_) S.kind)
  dsimp only at hns₁ hsb₁ ⊢
  have hk : ∀ b o, (s.heap.push { cls := .type "list", dict := none, data := .seq ([] : List Value).toArray }).get? b = some o → h₁.get? b = some o := fun b o e =>
    hsb₁.extBut b o (Nat.ne_of_lt (Heap.lt_size e)) (Heap.get?_push_of_some _ e)
  have I1 := comp_inv (tk := s.toks + ([] : List (Str × Value)).length) S I hcl hcl2 hf hfp (ob := { cls := .type "list", dict := none, data := .seq ([] : List Value).toArray }) (fun v z => by cases z) rfl hns₁ hk
  have hC : (s.heap.push { cls := .type "list", dict := none, data := .seq ([] : List Value).toArray }).objs.size = s.heap.objs.size + 1 := by rw [Heap.size_push]
  generalize hCe : (s.heap.push { cls := .type "list", dict := none, data := .seq ([] : List Value).toArray }).objs.size = C at *
  have st1 : tnn 0 h₁ := T.keep 0 _ _ st fun b hb o e => hk b o (Heap.get?_push_of_some _ e)
  have hE : ∀ b o, s.heap.get? b = some o → ({ s with heap := s.heap.push { cls := .type "list", dict := none, data := .seq ([] : List Value).toArray } } : Shared).heap.get? b = some o := fun b o e => Heap.get?_push_of_some _ e
  generalize hs3 : ({ s with heap := s.heap.push { cls := .type "list", dict := none, data := .seq ([] : List Value).toArray } } : Shared) = s3 at *
  have hos : s3.os = s.os := by rw [← hs3]
  have hfp0 : ∀ b ∈ fp, H b = none := fun b hb => (hf b hb).1
  have stat : ∀ {its : List Value} {n : Nat} {H' : Hp}, (∀ b ∈ fp, H' b = none) → ∀ b ∈ fp, FpOk (cxComp X scope cl (tn ++ cn) C (s.heap.objs.size :: fp) s3 H) (X.pn ++ pins ++ [(s.heap.objs.size, { cls := .type "list", data := .seq its.toArray n })]) H' b := fun {its n H'} hn b hb => by
    have q := hf b hb
    have hlt := hfp b hb
    refine ⟨hn b hb, fun z => ?_, fun z => ?_, .inl (List.mem_cons_of_mem _ hb), fun x c e => q.2.2.2.2.1 x c (hcl x c e), fun p hp z => ?_⟩
    · have z' : b = C := z
      rw [z', hC] at hlt
      exact Nat.lt_irrefl _ (Nat.lt_of_succ_lt hlt)
    · rcases List.mem_cons.mp (I.stkSub b z) with z1 | z1
      · exact q.2.1 z1
      · exact q.2.2.1 z1
    · have hp : p ∈ X.pn ++ pins ++ [(s.heap.objs.size, _)] := (List.mem_append.mp hp).elim (fun z => List.mem_append_left _ (List.mem_append_left _ z)) id
      rcases List.mem_append.mp hp with hp | hp
      · exact q.2.2.2.2.2 p hp z
      · have e := List.mem_singleton.mp hp
        rw [e] at z
        have z' : s.heap.objs.size = b := z
        rw [← z'] at hlt
        exact Nat.lt_irrefl _ hlt
  have loop : ∀ s₄ : Shared, s₄ = { s with heap := h₁, toks := s.toks + ([] : List (Str × Value)).length } →
      codeAny (model X.prog X.w) X.A (.compLoop (.ListComp elt [⟨tg, iter, ifs, 0⟩] scope pos) 0 (.ref it) (.ref s.heap.objs.size) (compEnvC scope cl C X.env)) (RR (.ref s.heap.objs.size) C) s₄ := by
    rintro s₄ rfl
    refine compLoop_own (fun n s' => ∃ i ys its k H', Inv (cxComp X scope cl (tn ++ cn) C (s.heap.objs.size :: fp) s3 H) (X.pn ++ pins ++ [(s.heap.objs.size, { cls := .type "list", data := .seq (List.toArray its) k })]) (List.replicate tn.length none ++ capσ σ caps) H' s' ∧
      tnn i s'.heap ∧ (∀ b ∈ fp, H' b = none) ∧ Vals ys its ∧ W i n ys H') ?_ m0 ⟨0, [], [], 0, H, I1, st1, hfp0, .nil, w0⟩
    rintro n s5 ⟨i, ys, its, k, H5, I5, st5, fr5, rv5, w5⟩
    rcases hW i n ys H5 w5 with ⟨stop, hz, f5⟩ | ⟨go, Nw, hNw, step⟩
    · refine wpAny_mono (T.done (cxComp X scope cl (tn ++ cn) C (s.heap.objs.size :: fp) s3 H) rfl rfl rfl (calm_comp hc) i _ s5 _ H5 (fun _ _ => False) I5 (stat fr5) st5 stop) (fun r s6 h6 => ?_) fun _ _ z => z
      obtain ⟨hr, I6⟩ := h6
      subst hr
      obtain ⟨J1, J2, J3, m, J4⟩ := comp_fin I hf hfp (by omega) hE hos I6 rv5 hz
      exact hRR _ _ _ _ _ m J2 f5 J1 J3 J4
    · refine wpAny_mono (T.item (cxComp X scope cl (tn ++ cn) C (s.heap.objs.size :: fp) s3 H) rfl rfl rfl (calm_comp hc) i _ s5 _ H5 (fun _ _ => False) I5 (stat fr5) st5 go) (fun r s6 h6 => ?_) fun _ _ z => z
      obtain ⟨u, hr, h6⟩ := h6
      subst hr
      refine wpAny_mono h6 (fun _ s7 h7 => ?_) fun _ _ z => z
      obtain ⟨x, H7, I7, r7, y7, st7, fr7⟩ := h7
      have I7' := I7.pinned (stat fr7) (T.obj _ _ st7)
      refine wpAny_mono (hg C (s.heap.objs.size :: fp) s3 H _ s7 _ H7 x u _ I7' r7 (step x H7 y7)) (fun _ s8 h8 => ?_) fun _ _ z => z
      obtain ⟨σ8, H8, I8, ⟨hl8, hk8⟩, q8⟩ := h8
      have back : ∀ {H9 : Hp} {s9 : Shared}, Inv (cxComp X scope cl (tn ++ cn) C (s.heap.objs.size :: fp) s3 H) (X.pn ++ pins ++ [(s.heap.objs.size, { cls := .type "list", data := .seq (List.toArray its) k })] ++ pinsAt fp s7.heap) σ8 H9 s9 →
          tnn (i + 1) s9.heap ∧ (∀ b ∈ fp, H9 b = none) := fun {H9 s9} I9 => by
        refine ⟨T.keep _ _ _ st7 fun b hb o e => (I9.pin (b, o) (List.mem_append_right _ (List.mem_append_right _ (mem_pinsAt hb e)))).1, fun b hb => ?_⟩
        obtain ⟨o, e, d⟩ := T.obj _ _ st7 b hb
        exact (I9.pin (b, o) (List.mem_append_right _ (List.mem_append_right _ (mem_pinsAt hb e)))).2.1
      refine wpAny_mono (ht C (s.heap.objs.size :: fp) s3 H _ s8 σ8 H8 _ I8 q8) (fun ok s9 h9 => ?_) fun _ _ z => z
      obtain ⟨H9, I9, q9⟩ := h9
      cases ok with
      | false =>
        rw [if_neg (by decide)] at q9 ⊢
        obtain ⟨m', hm, w9⟩ := hNw _ _ q9
        obtain ⟨b1, b2⟩ := back I9
        exact ⟨m', hm, i + 1, ys, its, k, H9, I9.unpinned.weak hl8.symm hk8, b1, b2, rv5, w9⟩
      | true =>
        rw [if_pos rfl] at q9 ⊢
        refine wpAny_mono (he C (s.heap.objs.size :: fp) s3 H _ s9 σ8 H9 _ I9 q9) (fun yv s10 h10 => ?_) fun _ _ z => z
        obtain ⟨y, H10, I10, r10, hz10, n10⟩ := h10
        obtain ⟨m', hm, w10⟩ := hNw _ _ n10
        obtain ⟨b1, b2⟩ := back I10
        have pD := I10.pin (s.heap.objs.size, { cls := .type "list", data := .seq (List.toArray its) k }) (List.mem_append_right _ (List.mem_append_left _ (List.mem_append_right _ (List.mem_singleton.mpr rfl))))
        refine wpAny_list_append_plain (hsz := by rw [List.size_toArray, ← rv5.length]; exact hz10) ⟨k, pD.1⟩ fun h11 hl11 hs11 => ?_
        obtain ⟨k', e11⟩ := hl11
        have I10' : Inv (cxComp X scope cl (tn ++ cn) C (s.heap.objs.size :: fp) s3 H) (X.pn ++ pins) σ8 H10 s10 := I10.pins_of fun p hp => I10.pin p (List.mem_append_right _ (List.mem_append_left _ (List.mem_append_left _ hp)))
        have I11 := I10'.turned (t' := s10.toks) (h' := h11) (it := s.heap.objs.size) (fun b o hb e => hs11.extBut b o hb e) pD.2.1 pD.2.2.1 (.inl List.mem_cons_self) (fun x c e z => ?_) (fun p hp z => ?_)
        · refine ⟨m', hm, i + 1, ys ++ [y], its ++ [yv], k', H10, ?_, ?_, b2, rv5.append (.cons r10 .nil), w10⟩
          · refine (I11.pins_of fun p hp => ?_).weak hl8.symm hk8
            rcases List.mem_append.mp hp with hp | hp
            · exact I11.pin p (List.mem_append_right _ hp)
            · have e := List.mem_singleton.mp hp
              subst e
              refine ⟨?_, pD.2.1, pD.2.2.1, pD.2.2.2.1, fun v z => by cases z⟩
              show h11.get? s.heap.objs.size = _
              rw [e11]
              simp
          · refine T.keep _ _ _ b1 fun b hb o e => hs11.extBut b o (fun z => ?_) e
            have h1 := hfp b hb
            rw [z] at h1
            exact Nat.lt_irrefl _ h1
        · obtain ⟨v, q⟩ := I.cell x c (hcl x c e)
          exact absurd q.lt (by rw [z]; exact Nat.lt_irrefl _)
        · have hp : p ∈ X.pn ++ pins := (List.mem_append.mp hp).elim (fun z => List.mem_append_left _ z) id
          exact absurd (Heap.lt_size (I.pin p hp).1) (by rw [z]; exact Nat.lt_irrefl _)
  exact codeAny_compStart_list (loop _ rfl) (T.self X.A 0 _ _ _ st1 (loop _ rfl))
def tComp (wi : TI) (k : Nat) (caps : List Nat) (g : TG) (tt : TT) (te : TE) : TE := fun σ H Q => wi σ H fun J H1 => ∃ W : Nat → Nat → List V → Hp → Prop, (∃ m, W 0 m [] H1) ∧
  CompW J g tt te (List.replicate k none ++ capσ σ caps) W fun ys H' => ∀ D, H' D = none → Q (.ref D) (upd H' D (.lst ys))
theorem pe_comp {tg iter elt : Expr} {ifs : List Expr} {pos : Pos} {wi : TI} {g : TG} {tt : TT} {te : TE} (S : CompScope X scope tn cn caps) (hc : Calm X) (hi : PI X tg iter wi)
    (hg : ∀ cl C ex s₀ H₀, PG (cxComp X scope cl (tn ++ cn) C ex s₀ H₀) tg g) (ht : ∀ cl C ex s₀ H₀, PTs (cxComp X scope cl (tn ++ cn) C ex s₀ H₀) ifs tt) (he : ∀ cl C ex s₀ H₀, PE (cxComp X scope cl (tn ++ cn) C ex s₀ H₀) elt te)
    (hs : ∀ x, foldedSetIterable iter X.env x = pure x := by intro _; rfl) : PE X (.ListComp elt [⟨tg, iter, ifs, 0⟩] scope pos) (tComp wi tn.length caps g tt te) := by
  intro pins s σ H Q I h
  obtain ⟨cl, hcl0, hcl, hcl2⟩ := closureFor_some (scope := scope) (env := X.env) fun x hx hf => I.ok.has x.1 (S.caught x hx hf)
  rw [eval_ListComp]
  refine wpAny_comprehension_free (use := none) rfl hs hcl0 S.kind S.names (thn (hi pins s σ H _ I h) fun v s1 h1 => thn h1 fun itv s2 h2 => ?_)
  obtain ⟨it, fp, tnn, J, H2, e, I2, T, st2, f2, W, ⟨m0, w0⟩, turn⟩ := h2
  subst e
  refine comp_block (RR := fun acc C => compPost (model X.prog X.w) X.A X.xe none (EP X pins σ Q) acc C) S hc hcl hcl2 (hg cl) (ht cl) (he cl) I2 T st2 f2 turn w0 ?_
  intro D C s' H' ys m hD f I' fC hn
  refine ⟨m, hn, fun h' hs' => ?_⟩
  have I'' := I'.turned (t' := s'.toks) (h' := h') (it := C) (fun b o hb e => hs'.extBut b o hb e) fC.1 fC.2.1 fC.2.2.2.1 fC.2.2.2.2.1 fC.2.2.2.2.2
  exact ⟨.ref D, _, I'', rfl, f D hD⟩
def sComp (i : Nat) (wi : TI) (k : Nat) (caps : List Nat) (g : TG) (tt : TT) (te : TE) : TS := fun D σ H => wi σ H fun J H1 => ∃ W : Nat → Nat → List V → Hp → Prop, (∃ m, W 0 m [] H1) ∧
  CompW J g tt te (List.replicate k none ++ capσ σ caps) W fun ys H' => ∀ p, H' p = none → D.nx (σ.set i (some (.ref p))) (upd H' p (.lst ys))
theorem ps_comp {tg iter elt : Expr} {ifs : List Expr} {pos spos py : Pos} {y : Str} {i : Nat} {wi : TI} {g : TG} {tt : TT} {te : TE} (S : CompScope X scope tn cn caps) (hc : Calm X) (hN : X.N.Nodup) (hy : X.N[i]? = some y) (hl : X.env.scope.names.lookup y = some .local)
    (hi : PI X tg iter wi)
    (hg : ∀ cl C ex s₀ H₀, PG (cxComp X scope cl (tn ++ cn) C ex s₀ H₀) tg g) (ht : ∀ cl C ex s₀ H₀, PTs (cxComp X scope cl (tn ++ cn) C ex s₀ H₀) ifs tt) (he : ∀ cl C ex s₀ H₀, PE (cxComp X scope cl (tn ++ cn) C ex s₀ H₀) elt te)
    (hsw : swapsWith (.ListComp elt [⟨tg, iter, ifs, 0⟩] scope pos) (some (.Name y py)) spos.line X.env = pure true)
    (hs : ∀ x, foldedSetIterable iter X.env x = pure x := by intro _; rfl) : PS X (.Assign [.Name y py] (.ListComp elt [⟨tg, iter, ifs, 0⟩] scope pos) spos) (sComp i wi tn.length caps g tt te) := by
  intro pins s σ H D I h
  obtain ⟨cl, hcl0, hcl, hcl2⟩ := closureFor_some (scope := scope) (env := X.env) fun x hx hf => I.ok.has x.1 (S.caught x hx hf)
  rw [exec_Assign_Name_used _ _ _ _ hsw]
  refine wpAny_bind (wpAny_standAt (wpAny_bind ?_))
  show wpAny _ X.A (do let _ ← comprehension (.ListComp elt [⟨tg, iter, ifs, 0⟩] scope pos) scope X.env _ (newList []) false (eval iter X.env) (some (assign (.Name y py) X.env))) _ _ s
  refine wpAny_bind (wpAny_mono (wpAny_comprehension_free (use := some (assign (.Name y py) X.env)) (Q := fun _ s' => SP X pins D .next s') rfl hs hcl0 S.kind S.names
    (thn (hi pins s σ H _ I h) fun v s1 h1 => thn h1 fun itv s2 h2 => ?_)) (fun _ s' hq => wpAny_pure (wpAny_pure hq)) fun _ _ e => e)
  obtain ⟨it, fp, tnn, J, H2, e, I2, T, st2, f2, W, ⟨m0, w0⟩, turn⟩ := h2
  subst e
  refine comp_block (RR := fun acc C => compPost (model X.prog X.w) X.A X.xe (some (assign (.Name y py) X.env)) (fun _ s' => SP X pins D .next s') acc C) S hc hcl hcl2 (hg cl) (ht cl) (he cl) I2 T st2 f2 turn w0 ?_
  intro p C s' H' ys m hD f I' fC hn
  show wpAny _ X.A (assign (.Name y py) X.env (.ref p)) _ _ _
  refine wpAny_assign_Name (store_ok2 (v := .ref p) I' hN hy (.inl hl) rfl (fun s4 I4 ⟨a, hs4, ha⟩ => ?_) (.inr hl))
  have hCa : C ≠ a := by
    rcases ha with ha | ha
    · rw [ha]; exact fC.2.1
    · exact fun z => fC.2.2.2.2.1 y a ha z.symm
  refine ⟨m, hn.sameBut hs4 hCa, fun h' hs' => ?_⟩
  have I'' := I4.turned (t' := s4.toks) (h' := h') (it := C) (fun b o hb e => hs'.extBut b o hb e) fC.1 fC.2.1 fC.2.2.2.1 fC.2.2.2.2.1 fC.2.2.2.2.2
  exact ⟨_, _, I'', f p hD⟩
end
structure SrcIs (J : It) (H : Hp) (xs : List V) : Prop where
  go : ∀ i, i < xs.length → J.go i H
  yld : ∀ i x H', i < xs.length → J.yld i H x H' → H' = H ∧ xs[i]? = some x
  stop : J.stop xs.length H
theorem src_list {K : PySem.W.Frag} {H : Hp} {a : Addr} {xs : List V} (h : SqL K H a xs) : SrcIs (Itl K a) H xs :=
  ⟨fun i hi => ⟨xs, xs[i], h, by simp [hi]⟩, fun i x H' _ y => ⟨y.1, y.2 xs h⟩, ⟨xs, h, Nat.le_refl _⟩⟩
theorem src_tup {K : PySem.W.Frag} {H : Hp} {a : Addr} {xs : List V} (h : SqT K H a xs) : SrcIs (Itt K a) H xs :=
  ⟨fun i hi => ⟨xs, xs[i], h, by simp [hi]⟩, fun i x H' _ y => ⟨y.1, y.2 xs h⟩, ⟨xs, h, Nat.le_refl _⟩⟩
theorem src_range {H : Hp} {lo : Int} {n : Nat} : SrcIs (Itr lo n) H ((List.range n).map fun i => V.int (lo + (i : Nat))) :=
  ⟨fun i hi => (show i < n by simpa using hi), fun i x H' hi y => ⟨y.1, by
    have hi' : i < n := by simpa using hi
    have e : x = .int (lo + (i : Nat)) := y.2
    rw [e, List.getElem?_map, List.getElem?_range hi']; rfl⟩, by show n ≤ _; simp⟩
theorem keeps_name {x : V} {cs : St} : ((some x :: cs : St).length = (none :: cs : St).length) ∧ ∀ (j : Nat) (v : V), (none :: cs : St)[j]? = some (some v) → (some x :: cs : St)[j]? = some (some v) := by
  refine ⟨by simp, fun j v h => ?_⟩
  cases j with
  | zero => simp at h
  | succ j => simpa using h
theorem comp_pure {J : It} {H : Hp} {xs : List V} {tt : TT} {te : TE} {cs : St} {F : List V → Hp → Prop} (S : SrcIs J H xs) (p : V → Bool) (f : V → V) (htt : ∀ x ∈ xs, ∀ Q : Bool → Hp → Prop, Q (p x) H → tt (some x :: cs) H Q)
    (hte : ∀ x ∈ xs, p x = true → ∀ Q : VK, Q (f x) H → te (some x :: cs) H Q) (hn : xs.length ≤ sizeLine) (hF : F ((xs.filter p).map f) H) :
    ∃ W : Nat → Nat → List V → Hp → Prop, (∃ m, W 0 m [] H) ∧ CompW J (gName 0) tt te (none :: cs) W F := by
  refine ⟨fun i m ys H' => m = xs.length - i ∧ i ≤ xs.length ∧ H' = H ∧ ys = ((xs.take i).filter p).map f, ⟨xs.length, by simp, Nat.zero_le _, rfl, by simp⟩, ?_⟩
  rintro i m ys H' ⟨rfl, hi, rfl, rfl⟩
  have hlen : (((xs.take i).filter p).map f).length ≤ sizeLine := by
    rw [List.length_map]
    refine Nat.le_trans (List.length_filter_le _ _) ?_
    rw [List.length_take]
    omega
  by_cases hlt : i < xs.length
  · refine .inr ⟨S.go i hlt, fun ys' H'' => H'' = H' ∧ ys' = ((xs.take (i + 1)).filter p).map f, fun ys' H'' h => ⟨xs.length - (i + 1), by omega, rfl, hlt, h.1, h.2⟩, fun x H'' y => ?_⟩
    obtain ⟨rfl, hx⟩ := S.yld i x H'' hlt y
    have hm : x ∈ xs := List.mem_of_getElem? hx
    have htk : xs.take (i + 1) = xs.take i ++ [x] := by
      rw [List.take_add_one, hx]; rfl
    show _ ∧ _
    refine ⟨keeps_name, ?_⟩
    refine htt x hm _ ?_
    cases hp : p x with
    | true =>
      rw [if_pos rfl]
      refine hte x hm hp _ ⟨hlen, rfl, ?_⟩
      rw [htk, List.filter_append, List.map_append]
      simp [hp]
    | false =>
      rw [if_neg (by decide)]
      refine ⟨rfl, ?_⟩
      rw [htk, List.filter_append, List.map_append]
      simp [hp]
  · have e : i = xs.length := by omega
    subst e
    refine .inl ⟨S.stop, hlen, ?_⟩
    rw [List.take_length]
    exact hF
theorem cxK {CX : CXT} {P : Program} {w : World} {K : PySem.W.Frag} {mg : Str → Option Value} {base : Heap} {N : List Str} {qual : Str} {scope : Scope} {f : Addr} {cd : Value} {A : Around} {outer : List Env} {s : Shared} {H : Hp} {E : XK} : (cxOf CX P w K mg base N qual scope f cd A outer s H E).K = K := rfl
theorem cxA {CX : CXT} {P : Program} {w : World} {K : PySem.W.Frag} {mg : Str → Option Value} {base : Heap} {N : List Str} {qual : Str} {scope : Scope} {f : Addr} {cd : Value} {A : Around} {outer : List Env} {s : Shared} {H : Hp} {E : XK} : (cxOf CX P w K mg base N qual scope f cd A outer s H E).A = A.deeper (envOfC qual scope s.heap.objs.size f cd) := rfl
theorem cxKc {X : Cx} {scope : Scope} {cl : List (Str × Addr)} {N : List Str} {C : Addr} {ex : List Addr} {s₀ : Shared} {H₀ : Hp} : (cxComp X scope cl N C ex s₀ H₀).K = X.K := rfl
theorem cxAc {X : Cx} {scope : Scope} {cl : List (Str × Addr)} {N : List Str} {C : Addr} {ex : List Addr} {s₀ : Shared} {H₀ : Hp} : (cxComp X scope cl N C ex s₀ H₀).A = X.A := rfl
end L2
set_option Elab.async false
set_option linter.all false
set_option maxRecDepth 100000
namespace L2
open PySem PySem.Spec PyProof.Rows
def chr1 (c : Nat) : V := .str ⟨#[c]⟩
def Its (x : Str) : It := ⟨fun i _ => i < x.cps.size, fun i H v H' => H' = H ∧ ∃ c, x.cps[i]? = some c ∧ v = chr1 c, fun i _ => x.cps.size ≤ i⟩
theorem turn_str {P : Program} {w : World} {K : PySem.W.Frag} {tg : Expr} (it : Addr) (x : Str) (t : Tok) {ty : String} (hty : ty = "str_ascii_iterator" ∨ ty = "str_iterator") : Turn P w K tg (Its x) [it] it (fun i h => h.IsStrIter it ty x t i) where
  mem := by simp
  obj := fun i h st b hb => by
    have e : b = it := by simpa using hb
    subst e
    obtain ⟨o, e, c, d⟩ := st
    exact ⟨o, e, fun v z => by rw [d] at z; cases z⟩
  keep := fun i h h' st k => let ⟨o, e, r⟩ := st; ⟨o, k it (by simp) o e, r⟩
  item := by
    intro X hP hw hK hc i pins s σ H E I hf st hg
    subst hP hw hK
    have hi : i < x.cps.size := hg
    obtain ⟨f0, f1, f2, f3, f4, f5⟩ := hf it (by simp)
    have hx : x.cps[i]? = some x.cps[i] := by simp [hi]
    have fin : ∀ h', h'.IsStrIter it ty x t (i + 1) → Heap.SameBut it s.heap h' → ∃ u, some (Value.str ⟨#[x.cps[i]]⟩ s.toks) = some u ∧
        wpAny (model X.prog X.w) X.A (letOwnedTupleGo tg (.ref it) u) (fun _ s2 => ∃ y H', Inv X pins σ H' s2 ∧ RelV y u ∧ (Its x).yld i H y H' ∧ s2.heap.IsStrIter it ty x t (i + 1) ∧ ∀ b ∈ [it], H' b = none) E { s with heap := h', toks := s.toks + 1 } := fun h' st' sb => by
      have I1 : Inv X pins σ H { s with heap := h', toks := s.toks + 1 } := I.turned (fun b o hb e => (sb.2 b hb).trans e) f0 f1 f3 f4 f5
      obtain ⟨o, e, c, d⟩ := id st'
      refine ⟨_, rfl, go_of (s := { s with heap := h', toks := s.toks + 1 }) e c d ?_ ⟨chr1 x.cps[i], H, I1, ⟨_, rfl⟩, ⟨rfl, _, hx, rfl⟩, st', fun b hb => (hf b hb).1⟩⟩
      rcases hty with z | z <;> (subst z; decide)
    rcases hty with z | z
    · subst z; exact wpAny_pyNext_ascii_item st hx fin
    · subst z; exact wpAny_pyNext_wide_item st hx fin
  done := by
    intro X hP hw hK hc i pins s σ H E I hf st hg
    subst hP hw hK
    have hi : x.cps.size ≤ i := hg
    obtain ⟨f0, f1, f2, f3, f4, f5⟩ := hf it (by simp)
    have hx : x.cps[i]? = none := by simp [hi]
    have fin : ∀ h', Heap.ExtBut it s.heap h' → (none : Option Value) = none ∧ Inv X pins σ H { s with heap := h' } := fun h' eb => ⟨rfl, I.turned (t' := s.toks) (fun b o hb e => eb b o hb e) f0 f1 f3 f4 f5⟩
    rcases hty with z | z
    · subst z; exact chars_end (.inl rfl) (I.calm hc) st hx fin
    · subst z; exact chars_end (.inr rfl) (I.calm hc) st hx fin
  self := fun _ _ _ _ _ st h => by
    rcases hty with z | z
    · subst z; exact wpAny_pyIter_striter_ascii st h
    · subst z; exact wpAny_pyIter_striter_wide st h
def iStr (tl : TE) : TI := fun σ H R => tl σ H fun v H1 => ∃ x, v = .str x ∧ R (Its x) H1
theorem pi_str {X : Cx} {tg l : Expr} {tl : TE} (hl : PE X l tl) : PI X tg l (iStr tl) := by
  intro pins s σ H R I h
  refine thn (hl pins s σ H _ I h) fun v s1 ⟨y, H1, I1, r1, q1⟩ => ?_
  obtain ⟨x, e, q⟩ := q1
  subst e
  obtain ⟨t, rfl⟩ := r1
  have fin : ∀ ty, (ty = "str_ascii_iterator" ∨ ty = "str_iterator") → PIE X pins σ tg R (.ref s1.heap.objs.size) { s1 with heap := s1.heap.push { cls := .type ty, data := .fields #[.str x t, .int 0 0] } } := fun ty hty => by
    refine ⟨s1.heap.objs.size, [s1.heap.objs.size], _, _, H1, rfl, I1.kept (t' := s1.toks) fun b o e => Heap.get?_push_of_some _ e, turn_str _ x t hty, ⟨_, Heap.get?_push_size _ rfl, rfl, rfl⟩, fun b hb => ?_, q⟩
    have e : b = s1.heap.objs.size := by simpa using hb
    subst e
    exact I1.fpOk (Nat.le_refl _) (I1.hok.fresh (Nat.le_refl _))
  cases ha : x.cps.all (· < 128)
  · exact wpAny_pyIter_wide ha (fin _ (.inr rfl))
  · exact wpAny_pyIter_ascii ha (fin _ (.inl rfl))
theorem src_str {H : Hp} {x : Str} : SrcIs (Its x) H (x.cps.toList.map chr1) :=
  ⟨fun i hi => (show i < x.cps.size by simpa using hi), fun i v H' hi y => ⟨y.1, by
    obtain ⟨c, e1, e2⟩ := y.2
    rw [e2, List.getElem?_map, Array.getElem?_toList, e1]; rfl⟩, by show x.cps.size ≤ _; simp⟩
section
variable {X : Cx}
theorem op_in_chr : OpR X (compareOp .In) (fun x y H Q => ∃ c j, x = chr1 c ∧ y = .str j ∧ Q (.bl (decide (c ∈ j.cps.toList))) H) := by
  intro pins s σ H x y v u Q I rx ry h
  obtain ⟨c, j, rfl, rfl, q⟩ := h
  refine op_in_str pins s σ H _ _ v u Q I rx ry ⟨_, j, rfl, rfl, ?_⟩
  rw [PySem.StrLaws.found_one]
  exact q
theorem op_mul_str : OpR X (binaryOp .Mult) (fun x y H Q => ∃ z n, x = .str z ∧ y = .int n ∧ MulOk z n ∧ Q (.str (Txt.mul z n)) H) := by
  intro pins s σ H x y v u Q I rx ry h
  obtain ⟨z, n, rfl, rfl, hok, q⟩ := h
  obtain ⟨t, rfl⟩ := rx
  obtain ⟨t', rfl⟩ := ry
  exact SB.mul hok fun t'' k => ⟨.str (Txt.mul z n), H, I.tok _, ⟨_, rfl⟩, q⟩
def tSlS (te : TE) (tl th : TO) : TE := fun σ H Q => te σ H fun x H1 => tl σ H1 fun l H2 => th σ H2 fun u H3 => ∃ z, x = .str z ∧ z.length ≤ sizeLine ∧ Q (.str (Txt.slice z l u)) H3
theorem pe_sliceS {e : Expr} {lo hi : Option Expr} {te : TE} {tl th : TO} {p2 pos : Pos} (he : PE X e te) (hl : PO X lo tl) (hu : PO X hi th) : PE X (.Subscript e (.Slice lo hi none p2) pos) (tSlS te tl th) := by
  intro pins s σ H Q I h
  refine Subscript_ (thn (he pins s σ H _ I h) fun v s1 ⟨x, H1, I1, r1, q1⟩ => ?_)
  refine wpAny_Slice (thn (hl pins s1 σ H1 _ I1 q1) fun vl s2 ⟨l, H2, I2, pl, q2⟩ => thn (hu pins s2 σ H2 _ I2 q2) fun vu s3 ⟨u, H3, I3, pu, q3⟩ => ?_)
  rw [evalPart_none]
  refine wpAny_pure ?_
  obtain ⟨z, rfl, hz, q⟩ := q3
  obtain ⟨t, rfl⟩ := r1
  show wpAny (model X.prog X.w) X.A (subscriptTail e (.Slice lo hi none p2) (.str z t) (.ref s3.heap.objs.size)) (EP X pins σ Q) X.xe { s3 with heap := s3.heap.push { cls := .type "slice", data := .fields #[vl, vu, .none] } }
  have hk : KeptH fun h' => ∀ b o, s3.heap.get? b = some o → h'.get? b = some o := fun h ob p b o e => Heap.get?_push_of_some _ (p b o e)
  have fin : ∀ h' t' k, (∀ b o, s3.heap.get? b = some o → h'.get? b = some o) → EP X pins σ Q (.str (Txt.slice z l u) t') { s3 with heap := h', toks := k } := fun h' t' k kp => ⟨.str (Txt.slice z l u), H3, I3.kept kp, ⟨t', rfl⟩, q⟩
  have hI : ItemOn (model X.prog X.w) X.A X.xe (.str z t) (.ref s3.heap.objs.size) (EP X pins σ Q) { s3 with heap := s3.heap.push { cls := .type "slice", data := .fields #[vl, vu, .none] } } := by
    cases pl with
    | none =>
      cases pu with
      | none => exact SBH.sliceItem_nn hk (fun b o e => e) fin hz
      | int => exact SBH.sliceItem_ns hk (fun b o e => e) fin hz
    | int =>
      cases pu with
      | none => exact SBH.sliceItem_sn hk (fun b o e => e) fin hz
      | int => exact SBH.sliceItem_ss hk (fun b o e => e) fin hz
  obtain ⟨T, id, hlk, hT, hg⟩ := hI
  exact tail_any (ops := [.ref s3.heap.objs.size, .str z t]) hT hlk hg (by with_unfolding_all rfl)
theorem all_range (bs : List Bool) : (List.range bs.length).all (fun i => bs.getD i false) = bs.all id := by
  rw [Bool.eq_iff_iff, List.all_eq_true, List.all_eq_true]
  constructor
  · intro h b hb
    obtain ⟨i, hi, e⟩ := List.mem_iff_getElem.mp hb
    have q := h i (List.mem_range.mpr hi)
    simpa [List.getD, hi, e] using q
  · intro h i hi
    have hi' := List.mem_range.mp hi
    have q := h bs[i] (List.getElem_mem hi')
    simpa [List.getD, hi'] using q
theorem call_all_list : CallR X (.builtin "all") (fun xs H Q => ∃ (a : Addr) (bs : List Bool), xs = [.ref a] ∧ X.A.handled = none ∧ SqL X.K H a (bs.map V.bl) ∧ Q (.bl (bs.all id)) H) := by
  intro pins s σ H xs us Q I r h
  obtain ⟨a, bs, rfl, hh, hq, q⟩ := h
  obtain ⟨u, rfl, ru⟩ := vals1 r
  cases ru
  obtain ⟨its, rv, p, hz⟩ := I.list hq
  have hl := rv.length
  rw [List.length_map] at hl
  obtain ⟨o, ho, _⟩ := id p.isList
  have hlt := Heap.lt_size ho
  refine call_all_walk (wpAny_pyIter_list p.isList ?_)
  refine ⟨s.heap.objs.size, _, _, _, _, _, fun i => bs.getD i false, rfl, Walks.list (A := X.A.in1) hh s.heap.objs.size a (Nat.ne_of_lt hlt) its.toArray, ⟨⟨_, Heap.get?_push_size _ rfl, rfl, rfl⟩, p.isList.at fun o e => Heap.get?_push_of_some _ e⟩, ?_, fun h' tk hk => ?_⟩
  · intro i v s' Q' E' hv hQ
    have hv : its.toArray[i]? = some v := hv
    have hi : its[i]? = some v := by simpa using hv
    have hib : i < bs.length := by rw [hl]; exact (List.getElem?_eq_some_iff.mp hi).1
    obtain ⟨u, hu, ru⟩ := rv.get (i := i) (x := V.bl bs[i]) (by simp [hib])
    rw [hi] at hu
    cases hu
    cases ru
    refine wpAny_truthy_bool ?_
    have e : bs.getD i false = bs[i] := by simp [List.getD, hib]
    rw [← e]
    exact hQ
  · rw [List.size_toArray, ← hl, all_range]
    refine ⟨.bl (bs.all id), H, I.kept fun b o e => ?_, rfl, q⟩
    exact hk b o (fun z => Nat.lt_irrefl _ (by have := Heap.lt_size e; rw [List.mem_singleton.mp z] at this; exact this)) (Heap.get?_push_of_some _ e)
def figs : Str := "0123456789"
def rIndex : V → List V → Hp → VK → Prop := fun x vs H Q => ∃ c, x = .str figs ∧ vs = [chr1 c] ∧ 48 ≤ c ∧ c ≤ 57 ∧ Q (.int ((c - 48 : Nat) : Int)) H
end
theorem str_app_list (x y : Str) : (x ++ y).cps.toList = x.cps.toList ++ y.cps.toList := by
  show (x.cps ++ y.cps).toList = _
  simp
theorem str_ext {x y : Str} (h : x.cps.toList = y.cps.toList) : x = y := by
  obtain ⟨a⟩ := x
  obtain ⟨b⟩ := y
  congr 1
  exact Array.toList_inj.mp h
theorem str_len_list (x : Str) : x.cps.toList.length = x.length := by simp [Str.length]
theorem foldl_app (a : Array Nat) : ∀ (k : Nat) (acc : Array Nat), ((List.replicate k a).foldl (· ++ ·) acc).toList = acc.toList ++ (List.replicate k a.toList).flatten
  | 0, acc => by simp
  | k + 1, acc => by
    rw [List.replicate_succ, List.foldl_cons, foldl_app a k, List.replicate_succ, List.flatten_cons]
    simp
theorem mul_list (x : Str) (n : Nat) : (Txt.mul x (n : Int)).cps.toList = (List.replicate n x.cps.toList).flatten := by
  unfold Txt.mul
  by_cases h1 : (n : Int) < 1
  · have h0 : n = 0 := by omega
    subst h0
    rw [if_pos h1]
    rfl
  · rw [if_neg h1]
    by_cases h2 : ((n : Int) == 1 || x.length == 0) = true
    · rw [if_pos h2]
      rcases Bool.or_eq_true_iff.mp h2 with h | h
      · have h0 : n = 1 := by have := eq_of_beq h; omega
        subst h0
        simp
      · have h0 : x.cps.toList = [] := List.length_eq_zero_iff.mp (by rw [str_len_list]; exact eq_of_beq h)
        rw [h0]
        have : ∀ k : Nat, (List.replicate k ([] : List Nat)).flatten = [] := fun k => by induction k with
          | zero => rfl
          | succ k ih => rw [List.replicate_succ, List.flatten_cons, ih]; rfl
        exact (this n).symm
    · rw [if_neg h2]
      show ((List.replicate (n : Int).toNat x.cps).foldl (· ++ ·) #[]).toList = _
      rw [foldl_app]
      simp
theorem mul_ok (x : Str) (n : Nat) (hn : n ≤ 100000) (h : x.length * n ≤ 100000) : MulOk x (n : Int) := by
  have hz : (100000 : Nat) ≤ sizeLine := by rw [sizeLine_eq]; decide
  refine ⟨?_, fun h1 h2 => ?_, fun h1 h2 => ?_⟩
  · rw [decide_eq_false (by omega), decide_eq_false (by omega)]; rfl
  · have hp : (0 : Int) < n := by omega
    rw [gt_iff_lt, Int.not_lt, Int.le_ediv_iff_mul_le hp]
    have e : ((x.length : Int)) * (n : Int) = ((x.length * n : Nat) : Int) := by simp
    rw [e]
    omega
  · unfold Builtin.Str.tooLong
    rw [Int.toNat_natCast]
    exact decide_eq_false (by omega)
end L2
set_option Elab.async false
set_option linter.all false
set_option maxRecDepth 100000
namespace L2
open PySem PySem.Spec PyProof.Rows
mutual
inductive Den (K : PySem.W.Frag) (H : Hp) : V → PyData → Prop
  | non : Den K H .non .none
  | bl (b : Bool) : Den K H (.bl b) (.bool b)
  | int (i : Int) : Den K H (.int i) (.int i)
  | str (x : Str) : Den K H (.str x) (.str x)
  | lst {a : Addr} {xs : List V} {ds : List PyData} : SqL K H a xs → DenAll K H xs ds → Den K H (.ref a) (.list ds)
  | tup {a : Addr} {xs : List V} {ds : List PyData} : SqT K H a xs → DenAll K H xs ds → Den K H (.ref a) (.tuple ds)
inductive DenAll (K : PySem.W.Frag) (H : Hp) : List V → List PyData → Prop
  | nil : DenAll K H [] []
  | cons {x : V} {xs : List V} {d : PyData} {ds : List PyData} : Den K H x d → DenAll K H xs ds → DenAll K H (x :: xs) (d :: ds)
end
section
variable {X : Cx} {pins : List (Addr × Obj)} {σ : St} {H : Hp} {s : Shared}
mutual
theorem Den.reads (I : Inv X pins σ H s) : ∀ {x : V} {d : PyData} {u : Value}, Den X.K H x d → RelV x u → ∃ as, Reads s.heap u d as
  | _, _, _, .non, r => by cases r; exact ⟨_, Reads.none⟩
  | _, _, _, .bl b, r => by cases r; exact ⟨_, Reads.bool b⟩
  | _, _, _, .int i, r => by obtain ⟨t, rfl⟩ := r; exact ⟨_, Reads.int i t⟩
  | _, _, _, .str x, r => by obtain ⟨t, rfl⟩ := r; exact ⟨_, Reads.str x t⟩
  | _, _, _, .lst h hs, r => by
    cases r
    obtain ⟨its, rv, p, hz⟩ := I.list h
    obtain ⟨as, q⟩ := DenAll.reads I hs rv
    obtain ⟨o, ho, hc, n, hd⟩ := p.isList
    exact ⟨_, reads_list_at ho hc hd (by simpa using q)⟩
  | _, _, _, .tup h hs, r => by
    cases r
    obtain ⟨its, rv, p, hz⟩ := I.tuple h
    obtain ⟨as, q⟩ := DenAll.reads I hs rv
    obtain ⟨o, ho, hc, n, hd⟩ := (show s.heap.IsTuple _ _ from p)
    exact ⟨_, reads_tuple_at ho hc hd (by simpa using q)⟩
theorem DenAll.reads (I : Inv X pins σ H s) : ∀ {xs : List V} {ds : List PyData} {us : List Value}, DenAll X.K H xs ds → Vals xs us → ∃ as, ReadsAll s.heap us ds as
  | _, _, _, .nil, r => by cases r; exact ⟨_, ReadsAll.nil⟩
  | _, _, _, .cons h hs, r => by
    cases r with
    | cons r rr =>
      obtain ⟨as, q⟩ := Den.reads I h r
      obtain ⟨bs, p⟩ := DenAll.reads I hs rr
      exact ⟨_, ReadsAll.cons q p⟩
end
def rEqD (K : PySem.W.Frag) (neg : Bool) : R2 := fun x y H Q => ∃ d e, Den K H x d ∧ Den K H y e ∧ SeqAt.shaped d = true ∧ SeqAt.shaped e = true ∧ Q (.bl (if neg then !PyData.eqv d e else PyData.eqv d e)) H
theorem op_eqD (hu : X.A.units + 64 < cLine) : OpR X (compareOp .Eq) (rEqD X.K false) := by
  intro pins s σ H x y v u Q I rx ry h
  obtain ⟨d, e, hd, he, sd, se, q⟩ := h
  obtain ⟨as, ra⟩ := hd.reads I rx
  obtain ⟨bs, rb⟩ := he.reads I ry
  exact eq_dataH ra rb sd se hu (fin_bl I q rfl)
theorem op_neD (hu : X.A.units + 64 < cLine) : OpR X (compareOp .NotEq) (rEqD X.K true) := by
  intro pins s σ H x y v u Q I rx ry h
  obtain ⟨d, e, hd, he, sd, se, q⟩ := h
  obtain ⟨as, ra⟩ := hd.reads I rx
  obtain ⟨bs, rb⟩ := he.reads I ry
  exact ne_dataH ra rb sd se hu (fin_bl I q rfl)
end
theorem denAll_ints {K : PySem.W.Frag} {H : Hp} : ∀ ns : List Int, DenAll K H (ns.map V.int) (ns.map PyData.int)
  | [] => .nil
  | n :: r => .cons (.int n) (denAll_ints r)
theorem denAll_strs {K : PySem.W.Frag} {H : Hp} : ∀ ns : List Str, DenAll K H (ns.map V.str) (ns.map PyData.str)
  | [] => .nil
  | n :: r => .cons (.str n) (denAll_strs r)
theorem shaped_strs : ∀ ns : List Str, (∀ x ∈ ns, PyData.strOk x = true) → SeqAt.shaped (.list (ns.map PyData.str)) = true := by
  have a : ∀ ns : List Str, (∀ x ∈ ns, PyData.strOk x = true) → PyData.canLayAll0 (ns.map PyData.str) = true := by
    intro ns
    induction ns with
    | nil => intro _; rfl
    | cons x r ih => intro h; simp [PyData.canLayAll0, PyData.canLay0, h x List.mem_cons_self, ih fun y hy => h y (List.mem_cons_of_mem _ hy)]
  have b : ∀ ns : List Str, PyData.depthAll (ns.map PyData.str) = 0 := by
    intro ns
    induction ns with
    | nil => rfl
    | cons x r ih => simp [PyData.depthAll, PyData.depth, ih]
  intro ns h
  simp [SeqAt.shaped, PyData.canLay0, PyData.depth, a ns h, b ns]
section
variable {X : Cx}
theorem call_isinst : CallR X (.builtin "isinstance") (fun xs H Q => ∃ x n t b, xs = [x, .ty n] ∧ TyOf X.K H x t ∧ PySem.W.kitOne X.K t (.type n) = some b ∧ Q (.bl b) H) := by
  intro pins s σ H xs us Q I r h
  obtain ⟨x, n, t, b, rfl, ty, e, q⟩ := h
  obtain ⟨u, v, rfl, ru, rv⟩ := vals2 r
  cases rv
  exact isinst_ok I ru ty e fun tk => ⟨.bl b, H, I.tok _, rfl, q⟩
end
end L2
set_option Elab.async false
set_option linter.all false
set_option maxRecDepth 100000
namespace L2
open PySem PySem.Spec PyProof.Rows
namespace RevF
end RevF
section
variable {X : Cx}
def tJoinRev (K : PySem.W.Frag) (ts te : TE) : TE := fun σ H Q => ts σ H fun x H1 => ∃ sep : Str, x = .str sep ∧ te σ H1 fun y H2 => ∃ (l : Addr) (ys : List Str), y = .ref l ∧ SqL K H2 l (ys.map V.str) ∧ JoinOk sep ys.reverse = true ∧ Q (.str (Txt.join sep ys.reverse)) H2
end
end L2
set_option Elab.async false
set_option linter.all false
set_option maxRecDepth 100000
namespace L2
open PySem PySem.Spec PyProof.Rows
section
variable {X : Cx}
end
end L2
set_option Elab.async false
set_option linter.all false
set_option maxRecDepth 100000
namespace L2
open PySem PySem.Spec PyProof.Rows
theorem vis_of {X : Cx} {sc : Scope} {x : Str} (h : Vis sc x) (e : X.env.scope = sc := by rfl) : Vis X.env.scope x := e ▸ h
theorem gl_of {X : Cx} {sc : Scope} {x : Str} (h : sc.names.lookup x = some .globalImplicit) (e : X.env.scope = sc := by rfl) : Gl X x := by
  show X.env.scope.names.lookup x = _
  rw [e]
  exact h
theorem loc_of {X : Cx} {sc : Scope} {x : Str} (h : sc.names.lookup x = some .local ∨ sc.names.lookup x = some .cell) (e : X.env.scope = sc := by rfl) : Loc X.env.scope x := e ▸ h
def plainE : Expr → Bool
  | .Starred _ _ => false
  | _ => true
def plainAll : List Expr → Bool
  | [] => true
  | e :: r => plainE e && plainAll r
theorem stp {e : Expr} {es : List Expr} {env : Env} (h : plainE e = true) : starEach (e :: es) env = (false, eval e env) :: starEach es env := by
  cases e <;> first | rfl | cases h
theorem st1 {e : Expr} {env : Env} (h : plainE e = true) : starEach [e] env = [(false, eval e env)] := by
  rw [stp h]; rfl
theorem st2 {e d : Expr} {env : Env} (h : plainE e = true) (h2 : plainE d = true) : starEach [e, d] env = [(false, eval e env), (false, eval d env)] := by
  rw [stp h, st1 h2]
theorem anp {env : Env} {pos : Pos} : ∀ {es : List Expr}, plainAll es = true → (backTo pos (starEach es env)).any (·.1) = false
  | [], _ => rfl
  | e :: r, h => by
    have h' : (plainE e && plainAll r) = true := h
    rw [Bool.and_eq_true] at h'
    rw [stp h'.1]
    show (false || (backTo pos (starEach r env)).any (·.1)) = false
    rw [anp h'.2]
    rfl
end L2
set_option Elab.async false
set_option linter.all false
set_option maxRecDepth 100000
namespace HT
open PySem PyProof.Rows
section
variable {prog : Program} {w : World} {A : Around} {E : Value → Shared → Prop} {s : Shared}
end
end HT
namespace L2
open PySem PySem.Spec PyProof.Rows
section
variable {X : Cx}
def rSlA (K : PySem.W.Frag) : V → Option Int → Option Int → Hp → VK → Prop := fun x lo hi H Q => ∃ a xs, x = .ref a ∧ SqT K H a xs ∧
  ((HT.sIx xs.length 0 lo = 0 ∧ HT.sIx xs.length xs.length hi = xs.length) → Q (.ref a) H) ∧
  (¬ (HT.sIx xs.length 0 lo = 0 ∧ HT.sIx xs.length xs.length hi = xs.length) → ∀ p, H p = none → Q (.ref p) (upd H p (.tup (cutV xs lo hi))))
theorem op_mulB : OpR X (binaryOp .Mult) (rI IntMulOk fun i j => .int (i * j)) := opI fun _ _ _ _ _ _ _ hc q => mul_int q hc
end
def Bits (i : Int) : Prop := Builtin.Int.intBits i ≤ 2 ^ 20
theorem bits_abs {i : Int} (h : Bits i) : i.natAbs < 2 ^ (2 ^ 20) := by
  unfold Bits Builtin.Int.intBits at h
  split at h
  · rename_i h0
    have : i = 0 := by simpa using h0
    rw [this]
    exact Nat.pow_pos (by decide)
  · rename_i h0
    have h0' : i.natAbs ≠ 0 := by
      intro z
      apply h0
      have : i = 0 := by omega
      rw [this]; rfl
    exact (Nat.log2_lt h0').mp (by omega)
theorem bits_zero : Bits 0 := by unfold Bits; decide +kernel
theorem mulOk_near {i j c d : Int} (hc : Bits c) (hd : Bits d) (h1 : (i - c).natAbs ≤ 1000000) (h2 : (j - d).natAbs ≤ 1000000) : IntMulOk i j := by
  have key : ∀ {i c : Int}, Bits c → (i - c).natAbs ≤ 1000000 → Builtin.Int.intBits i ≤ 2 ^ 20 + 1 := by
    intro i c hc h
    have hb := bits_abs hc
    have hlt : i.natAbs < 2 ^ (2 ^ 20 + 1) := by
      rw [Nat.pow_succ]
      have h20 : 1000000 ≤ 2 ^ 20 := by decide
      have hle : 2 ^ 20 ≤ 2 ^ (2 ^ 20) := Nat.pow_le_pow_right (by decide) (by decide)
      have : i.natAbs ≤ c.natAbs + (i - c).natAbs := by omega
      generalize 2 ^ (2 ^ 20) = B at *
      omega
    unfold Builtin.Int.intBits
    split
    · exact Nat.zero_le _
    · rename_i h0
      have h0' : i.natAbs ≠ 0 := by
        intro z
        apply h0
        have : i = 0 := by omega
        rw [this]; rfl
      have := (Nat.log2_lt h0').mpr hlt
      omega
  exact IntMulOk.of_le (key hc h1) (key hd h2) (by decide)
theorem weight_mem : ∀ {ns : List Int} {m : Nat}, PySem.W.WData.weightAll (ns.map PySem.W.WData.int) ≤ m → ∀ i ∈ ns, Builtin.Int.intBits i ≤ m
  | [], _, _, i, h => absurd h (by simp)
  | n :: r, m, hw, i, h => by
    have hw : Builtin.Int.intBits n + 1 + PySem.W.WData.weightAll (r.map PySem.W.WData.int) ≤ m := hw
    rcases List.mem_cons.mp h with e | e
    · rw [e]; omega
    · exact weight_mem (by omega) i e
theorem attach_callB {l : PySem.W.OpenLaw} {n : Nat} {q : Program} {loose : List Str} {XP : (Str → Option Value) → Heap → Prop} {YP : World → Heap → Prop} {d : DefRec}
    (hn : l.most = some n) (hdf : d.params.defaults = [])
    (call : ∀ (w : World) (s₀ s₁ : Shared) (mg mb : Str → Option Value) (fa : Addr) (o : Obj) (pm cd doc : Value) (a : Addr) (vs : List Value) (ns : List Int),
      PySem.W.Ground q loose [] XP w s₀ mg mb s₁.heap → YP w s₁.heap →
      s₁.heap.get? fa = some o → o.data = .func (Calls.docDef d.name d.params d.body d.scope pm cd doc) → s₁.heap.CodeRec cd d.name → mg d.name = some (.ref fa) →
      s₁.heap.get? a = some { cls := .type "list", data := .seq vs.toArray } → IntsAre vs ns → ns.length ≤ n → (∀ i ∈ ns, Bits i) → s₁.gens = #[] →
      codeAny (model l.prog w) callerA (.call (.ref fa) ⟨[.ref a], []⟩) (fun r s' => r = .ok (.ret (.bool true)) ∧ OldK s₁.heap s'.heap ∧ s'.os = s₁.os ∧ AllBare s'.gens) s₁) :
    PySem.W.WalkO q loose XP YP l.row.toRowW d [] (fun f vs => PySem.call f vs) := by
  intro w s₀ s₁ mg mb G Y fa o pm cd doc dV kV ho hd hcd hD hmg hg args vals as hpre hlay hrd hwl hlo
  obtain rfl : dV = .none := PySem.W.Dflts.none hD hdf
  obtain rfl : kV = .none := PySem.W.Dflts.noKw hD
  obtain ⟨a, vs, ns, rfl, rfl, hobj, hints, hlen⟩ := Att.script_of hn hpre hwl
  have hb : ∀ i ∈ ns, Bits i := by
    have h1 : (PySem.W.WData.layable (.list (ns.map PySem.W.WData.int)) && true) = true := hlay
    rw [Bool.and_true] at h1
    have h2 : (PySem.W.WData.canLay (.list (ns.map PySem.W.WData.int)) && decide (PySem.W.WData.depth (.list (ns.map PySem.W.WData.int)) ≤ 64) && decide (PySem.W.WData.weight (.list (ns.map PySem.W.WData.int)) ≤ 2 ^ 20)) = true := h1
    rw [Bool.and_eq_true] at h2
    exact weight_mem (of_decide_eq_true h2.2)
  refine PySem.W.enter_call (codeAny_mono (call w s₀ s₁ mg mb fa o pm cd doc a vs ns G Y ho (PySem.W.fd_plain hd) hcd hmg hobj hints hlen hb hg) fun r s' hq => ?_)
  obtain ⟨rfl, h2, h3, h4⟩ := hq
  exact ⟨.inl ⟨.bool true, .bool true, [], rfl, fun _ => rfl, .bool true, Att.post_true l _, fun _ => ⟨List.Pairwise.nil, fun _ hm => (nomatch hm)⟩⟩, h2, h3, h4⟩
theorem walk_ofB {l : PySem.W.OpenLaw} {n k : Nat} {q : Program} {loose : List Str} {XP : (Str → Option Value) → Heap → Prop} {YP : World → Heap → Prop} {d : DefRec} {K : Params → PySem.W.Frag} {CX : World → CXT} {sp : World → Sp} {x : Str}
    (hn : l.most = some n) (hn2 : n ≤ sizeLine) (hdf : d.params.defaults = []) (hr : Room k callerA)
    (hY : ∀ (w : World) (h : Heap), YP w h → (K w.params).In h)
    (F : ∀ (w : World) (mg : Str → Option Value) (fa : Addr) (h : Heap), (K w.params).In h → h.Ns mainGlobals mg → mg d.name = some (.ref fa) →
      ∃ fd : FuncData, (∀ (s : Shared) (u : Value), BindsTo s fd ⟨[u], []⟩ [(x, u)]) ∧
        ∀ base : Heap, (K w.params).In base → base.Ns mainGlobals mg → FnOk l.prog w (K w.params) mg base (CX w) k fa fd [x] (sp w))
    (hsp : ∀ (w : World) (H : Hp) (a : Addr) (ns : List Int), ns.length ≤ n → (∀ i ∈ ns, Bits i) → Only H → SqL (K w.params) H a (ns.map V.int) → sp w [.ref a] H (fun v _ => v = .bl true) fun _ _ _ => False)
    (hCX : ∀ (w : World) (H : Hp) (s : Shared) (e : Value) (s' : Shared), CX w [] H s (fun _ _ _ => False) e s' → False) :
    PySem.W.WalkO q loose XP YP l.row.toRowW d [] (fun f vs => PySem.call f vs) := by
  refine attach_callB hn hdf fun w s₀ s₁ mg mb fa o pm cd doc a vs ns G Y ho hd hcd hmg hobj hints hlen hbits hg => ?_
  have KX := hY w _ Y
  obtain ⟨fd, hb, hF⟩ := F w mg fa _ KX G.T.g hmg
  exact law_call KX G.T.g G.T.b G.T.builtins G.T.nolimit hg hobj hints (Nat.le_trans hlen hn2) hr hF hb (fun H hO hS => hsp w H a ns hlen hbits hO hS) fun H e s' => hCX w H s₁ e s'
end L2
set_option Elab.async false
set_option linter.all false
set_option maxRecDepth 100000
namespace L2
open PySem PySem.Spec PyProof.Rows
def ForJ (J : It) (g : TG) (tb : TS) (D : Ends) (σ : St) (H1 : Hp) : Prop := ∃ W : Nat → Nat → St → Hp → Prop, (∃ m, W 0 m σ H1) ∧ ∀ i m σ H, W i m σ H →
  (J.stop i H ∧ D.nx σ H) ∨ (J.go i H ∧ ∃ N : St → Hp → Prop, (∀ σ' H', N σ' H' → ∃ m', m' < m ∧ W (i + 1) m' σ' H') ∧ ∀ x H', J.yld i H x H' → g x σ H' fun σ2 H2 => tb { D with nx := N, ct := N, bk := D.nx } σ2 H2)
theorem tFor_eq {wi : TI} {g : TG} {tb : TS} {D : Ends} {σ : St} {H : Hp} : tFor wi g tb D σ H = wi σ H fun J H1 => ForJ J g tb D σ H1 := rfl
theorem same_new {H : Hp} {p : Addr} {o : HO} (h : H p = none) : Same H (upd H p o) := fun b u e => by rw [upd_ne (ne_of_none e h)]; exact e
theorem same_upd {H H1 : Hp} {p : Addr} {o : HO} (h : Same H H1) (hp : H p = none) : Same H (upd H1 p o) := fun b u e => by rw [upd_ne (ne_of_none e hp)]; exact h b u e
theorem atI_int {cs : List Int} {i : Int} (h0 : 0 ≤ i) (h1 : i < cs.length) : atI (cs.map V.int) i = some (V.int (cs.getD i.toNat 0)) := by
  obtain ⟨j, rfl⟩ := Int.eq_ofNat_of_zero_le h0
  have hj : j < cs.length := by omega
  refine atI_nat ?_
  simp [hj]
theorem getD_in {cs : List Int} {j : Nat} (h : j < cs.length) : cs.getD j 0 ∈ cs := by
  simp [List.getD, h]
theorem den_ints {K : PySem.W.Frag} {H : Hp} {a : Addr} {ns : List Int} (h : SqL K H a (ns.map V.int)) : Den K H (.ref a) (.list (ns.map PyData.int)) := .lst h (denAll_ints ns)
theorem canLay_ints : ∀ ns : List Int, PyData.canLayAll0 (ns.map PyData.int) = true
  | [] => rfl
  | n :: r => by simp [PyData.canLayAll0, PyData.canLay0, canLay_ints r]
theorem depth_ints : ∀ ns : List Int, PyData.depthAll (ns.map PyData.int) = 0
  | [] => rfl
  | n :: r => by simp [PyData.depthAll, PyData.depth, depth_ints r]
theorem shaped_ints (ns : List Int) : SeqAt.shaped (.list (ns.map PyData.int)) = true := by
  simp [SeqAt.shaped, PyData.canLay0, PyData.depth, canLay_ints ns, depth_ints ns]
mutual
theorem eqv_self : ∀ d : PyData, d.canLay0 = true → PyData.eqv d d = true
  | .none, _ => rfl
  | .bool b, _ => by simp [PyData.eqv]
  | .int i, _ => by simp [PyData.eqv]
  | .str x, _ => by simp [PyData.eqv]
  | .list xs, h => by
    have h' : PyData.canLayAll0 xs = true := h
    show PyData.eqvAll xs xs = true
    exact eqvAll_self xs h'
  | .tuple xs, h => by
    have h' : PyData.canLayAll0 xs = true := h
    show PyData.eqvAll xs xs = true
    exact eqvAll_self xs h'
  | .dict _, h => by cases h
theorem eqvAll_self : ∀ ds : List PyData, PyData.canLayAll0 ds = true → PyData.eqvAll ds ds = true
  | [], _ => rfl
  | d :: r, h => by
    have h' : (PyData.canLay0 d && PyData.canLayAll0 r) = true := h
    rw [Bool.and_eq_true] at h'
    show (PyData.eqv d d && PyData.eqvAll r r) = true
    rw [eqv_self d h'.1, eqvAll_self r h'.2]
    rfl
end
end L2
set_option Elab.async false
set_option linter.all false
set_option maxRecDepth 100000
namespace HT
open PySem PyProof.Rows
section
variable {prog : Program} {w : World} {A : Around} {E : Value → Shared → Prop} {s : Shared}
theorem filterMap_all {α β : Type} {f : α → Option β} {g : α → β} : ∀ {l : List α}, (∀ m ∈ l, f m = some (g m)) → l.filterMap f = l.map g
  | [], _ => rfl
  | a :: r, h => by
    rw [List.filterMap_cons, h a List.mem_cons_self, List.map_cons, filterMap_all fun m hm => h m (List.mem_cons_of_mem _ hm)]
end
end HT
namespace L2
open PySem PySem.Spec PyProof.Rows
section
variable {X : Cx} {pos : Pos}
def gTupL (K : PySem.W.Frag) (n : Nat) (t : TGs) : TG := fun v σ H Q => ∃ a xs, v = .ref a ∧ SqL K H a xs ∧ xs.length = n ∧ t xs σ H Q
def tRevT (K : PySem.W.Frag) (te : TE) : TE := fun σ H Q => te σ H fun x H1 => ∃ a xs, x = .ref a ∧ SqT K H1 a xs ∧ ∀ p, H1 p = none → Q (.ref p) (upd H1 p (.tup xs.reverse))
def rRep01 (K : PySem.W.Frag) : R2 := fun x y H Q => ∃ a xs k, x = .ref a ∧ y = .int k ∧ SqT K H a xs ∧ xs ≠ [] ∧ (k = 0 ∨ k = 1) ∧ (k = 1 → Q (.ref a) H) ∧ (k = 0 → ∀ p, H p = none → Q (.ref p) (upd H p (.tup [])))
end
end L2
set_option Elab.async false
set_option linter.all false
set_option maxRecDepth 100000
namespace L2
open PySem PySem.Spec PyProof.Rows
theorem strsAre_of : ∀ {ys : List Str} {us : List Value}, Vals (ys.map V.str) us → StrsAre us ys := by
  intro ys
  induction ys with
  | nil => intro us r; rw [List.map_nil] at r; cases r; exact .nil
  | cons n ns ih =>
    intro us r
    rw [List.map_cons] at r
    cases r with
    | cons r1 r2 =>
      obtain ⟨t, e⟩ := r1
      subst e
      exact .cons n t (ih r2)
section
variable {X : Cx}
def rJoin (K : PySem.W.Frag) : V → List V → Hp → VK → Prop := fun x vs H Q => ∃ (sep : Str) (a : Addr) (ys : List Str), x = .str sep ∧ vs = [.ref a] ∧ SqL K H a (ys.map V.str) ∧ (ys.map (·.length)).sum + ys.length * sep.length ≤ 16777216 ∧ Q (.str (Txt.join sep ys)) H
theorem mt_join : MtR X "str.join" (rJoin X.K) := by
  intro pins s σ H x vs v us Q I rx rv h
  obtain ⟨sep, a, ys, rfl, rfl, hq, hok, q⟩ := h
  obtain ⟨t, rfl⟩ := rx
  obtain ⟨u, rfl, ru⟩ := rv.one
  cases ru
  obtain ⟨its, r, pl, hz⟩ := I.list hq
  exact join_list pl.isList (strsAre_of (by simpa using r)) hok fun t' k => ⟨.str (Txt.join sep ys), H, I.tok _, ⟨t', rfl⟩, q⟩
def tLRng2 (ta : TA) : TE := fun σ H Q => ta σ H fun vs H1 => ∃ i j : Int, vs = [.int i, .int j] ∧ (-(2 ^ 62) ≤ i ∧ i < 2 ^ 62 ∧ -(2 ^ 62) ≤ j ∧ j < 2 ^ 62) ∧ (j - i).toNat ≤ 1000000 ∧ ∀ p, H1 p = none → Q (.ref p) (upd H1 p (.lst ((List.range (j - i).toNat).map fun k => V.int (i + (k : Nat)))))
end
end L2
set_option Elab.async false
set_option linter.all false
set_option maxRecDepth 100000
namespace L2
open PySem PySem.Spec PyProof.Rows
section
variable {X : Cx} {K : PySem.W.Frag}
theorem ix_listK (hK : X.K = K) : IxR X (rIxL K) := by subst hK; exact ix_list
theorem ix_tupK (hK : X.K = K) : IxR X (rIxT K) := by subst hK; exact ix_tup
theorem call_len_seqK (hK : X.K = K) : CallR X (.builtin "len") (fun xs H Q => ∃ p ys, xs = [.ref p] ∧ (SqL K H p ys ∨ SqT K H p ys) ∧ Q (.int ys.length) H) := by subst hK; exact call_len_seq
end
theorem comp_list {K : PySem.W.Frag} {a : Addr} {H : Hp} {xs : List V} {tt : TT} {te : TE} {cs : St} {F : List V → Hp → Prop} (Pv : Nat → List V → Hp → Prop) (h0 : Pv 0 [] H) (hl : ∀ i ys H, i ≤ xs.length → Pv i ys H → SqL K H a xs)
    (hs : ∀ i x ys H, xs[i]? = some x → Pv i ys H → tt (some x :: cs) H fun b H3 => if b = true then te (some x :: cs) H3 fun y H4 => ys.length ≤ sizeLine ∧ Pv (i + 1) (ys ++ [y]) H4 else Pv (i + 1) ys H3)
    (hd : ∀ ys H, Pv xs.length ys H → ys.length ≤ sizeLine ∧ F ys H) :
    ∃ W : Nat → Nat → List V → Hp → Prop, (∃ m, W 0 m [] H) ∧ CompW (Itl K a) (gName 0) tt te (none :: cs) W F := by
  refine ⟨fun i m ys H' => m = xs.length - i ∧ i ≤ xs.length ∧ Pv i ys H', ⟨xs.length, by simp, Nat.zero_le _, h0⟩, ?_⟩
  rintro i m ys H' ⟨rfl, hi, p⟩
  have q := hl i ys H' hi p
  have S := src_list q
  by_cases hlt : i < xs.length
  · refine .inr ⟨S.go i hlt, fun ys' H'' => Pv (i + 1) ys' H'', fun ys' H'' p' => ⟨xs.length - (i + 1), by omega, rfl, hlt, p'⟩, fun x H'' y => ?_⟩
    obtain ⟨e1, e2⟩ := S.yld i x H'' hlt y
    subst e1
    refine ⟨⟨rfl, fun j v hj => ?_⟩, ?_⟩
    · cases j with
      | zero => cases hj
      | succ j => exact hj
    · exact hs i x ys H'' e2 p
  · have e : i = xs.length := by omega
    subst e
    exact .inl ⟨S.stop, hd ys H' p⟩
theorem in_ints {z : Int} {xs : List Int} : inV (V.int z) (xs.map V.int) = decide (z ∈ xs) := by
  unfold inV
  rw [Bool.eq_iff_iff, List.any_eq_true, decide_eq_true_eq]
  constructor
  · rintro ⟨y, hy, e⟩
    obtain ⟨x, hx, rfl⟩ := List.mem_map.mp hy
    have : (x == z) = true := e
    rw [← eq_of_beq this]
    exact hx
  · intro h
    exact ⟨V.int z, List.mem_map.mpr ⟨z, h, rfl⟩, by show (z == z) = true; simp⟩
end L2
set_option Elab.async false
set_option linter.all false
set_option maxRecDepth 100000
namespace L2
open PySem PyProof.Rows PySem.Calls
def XAt (B : Heap) (e : Addr) (cls : Value) (dx : Option Addr) (fl : Value) (h : Heap) : Prop :=
  ∃ (vs : Array Value) (sl : Array (Option Value)) (T : Addr) (oT : Obj) (ts : Array Value), h.get? e = some ⟨cls, dx, .fields vs, sl⟩ ∧ vs[2]? = some Value.none ∧ vs[1]? = some (.ref T) ∧ B.get? T = none ∧ T ≠ e ∧ h.get? T = some oT ∧ oT.data = .fields ts ∧ ts[3]? = some fl
structure Fly (B : Heap) (l : List Env) (e : Addr) (cls : Value) (dx : Option Addr) (fl : Value) (h : Heap) : Prop where
  st : B.StaysIn h
  new : B.get? e = none
  fr : h.FunFrames B l
  at_ : XAt B e cls dx fl h
section
variable {M : Model} {A : Around} {E : Value → Shared → Prop} {s : Shared} {B : Heap} {env : Env} {outer l : List Env} {L e : Addr} {cls : Value} {dx : Option Addr} {Q : Unit → Shared → Prop}
theorem place_laid {vs : Array Value} {sl : Array (Option Value)} {head : Value} {had : Bool} (hfr : A.frames = some (env :: outer)) (hf : env.frame = some L) (st : B.StaysIn s.heap) (hn : B.get? e = none) (fr : s.heap.FunFrames B (env :: outer))
    (he : s.heap.get? e = some ⟨cls, dx, .fields vs, sl⟩) (h2 : vs[2]? = some Value.none) (k : ∀ h', Fly B (env :: outer) e cls dx (rawInt L) h' → s.heap.UpToSlots h' → Q () { s with heap := h' }) :
    wpAny M A (frameOf env >>= fun a => entryPlaceOf L had >>= fun pl => EntryCells.newEntry head a .none (rawInt L) .none pl >>= fun b => setField (.ref e) 1 b) Q E s := by
  have sz2 : 2 < vs.size := (Array.getElem?_eq_some_iff.mp h2).1
  have nof : e ∉ (env :: outer).filterMap (·.frame) := fun hm => by
    obtain ⟨_, o, ho, hnf⟩ := fr.mem hm
    rw [he] at ho
    cases ho
    exact hnf vs rfl
  refine wpAny_bind (wpAny_frameOf_fun hfr fr hf fun h₁ hs => ?_)
  refine wpAny_bind (wpAny_entryPlaceOf fun pl hpl => ?_)
  unfold EntryCells.newEntry newFields
  refine wpAny_bind (wpAny_newObj_type ?_ (hpl.sizeOk5 _ _ _ _ _))
  have e1 : h₁.get? e = some ⟨cls, dx, .fields vs, sl⟩ := (hs.2.1 e nof).trans he
  have st1 : B.StaysIn h₁ := fun b o q => (hs.2.1 b fun hm => by rw [(fr.mem hm).1] at q; cases q).trans (st b o q)
  refine wpAny_setField (Heap.get?_push_of_some _ e1) rfl (Nat.lt_trans (by decide) sz2) (k _ ?_ ?_)
  all_goals have ne : h₁.objs.size ≠ e := Nat.ne_of_gt (Heap.lt_size e1)
  · refine ⟨fun b o q => ?_, hn, fr.of_keeps fun b o q nf => ?_, ⟨vs.setIfInBounds 1 (.ref h₁.objs.size), sl, h₁.objs.size, _, _, ?_, ?_, ?_, st1.fresh, ne, (Heap.get?_update_other _ _ (Ne.symm ne)).trans (Heap.get?_push_size h₁ rfl), rfl, ?_⟩⟩
    · rw [Heap.get?_update_other _ _ (fun z => by rw [← z, hn] at q; cases q)]
      exact Heap.get?_push_of_some _ (st1 b o q)
    · obtain ⟨sl', hb⟩ := hs.2.2 b o q
      refine ⟨{ o with slots := sl' }, ?_, rfl⟩
      rw [Heap.get?_update_other _ _ (fun z => by rw [← z, he] at q; cases q; exact nf vs rfl)]
      exact Heap.get?_push_of_some _ hb
    · exact Heap.get?_update_self _ (Heap.get?_push_of_some _ e1) rfl
    · rw [Array.getElem?_setIfInBounds_ne (by decide)]
      exact h2
    · simp [Nat.lt_trans (show 1 < 2 by decide) sz2]
    · first | (simp; done) | (rcases hpl with rfl | ⟨_, _, _, _, _, _, _, rfl⟩ <;> simp)
  · intro b o q nf
    obtain ⟨sl', hb⟩ := hs.2.2 b o q
    refine ⟨sl', ?_⟩
    rw [Heap.get?_update_other _ _ (fun z => by rw [← z, he] at q; cases q; exact nf vs rfl)]
    exact Heap.get?_push_of_some _ hb
theorem note_first {vs : Array Value} {sl : Array (Option Value)} (hfr : A.frames = some (env :: outer)) (hf : env.frame = some L) (st : B.StaysIn s.heap) (hn : B.get? e = none) (fr : s.heap.FunFrames B (env :: outer))
    (he : s.heap.get? e = some ⟨cls, dx, .fields vs, sl⟩) (h2 : vs[2]? = some Value.none) (h1 : vs[1]? = some Value.none) (k : ∀ h', Fly B (env :: outer) e cls dx (rawInt L) h' → s.heap.UpToSlots h' → Q () { s with heap := h' }) :
    wpAny M A (noteFrame (.ref e) env) Q E s := by
  unfold noteFrame
  simp only [hf]
  refine wpAny_bind (wpAny_field he rfl h1 ?_)
  rw [if_neg (by decide)]
  exact place_laid hfr hf st hn fr he h2 k
theorem note_more (hfr : A.frames = some (env :: outer)) (hf : env.frame = some L) (f : Fly B (env :: outer) e cls dx .none s.heap) (k : ∀ h', Fly B (env :: outer) e cls dx (rawInt L) h' → s.heap.UpToSlots h' → Q () { s with heap := h' }) :
    wpAny M A (noteFrame (.ref e) env) Q E s := by
  obtain ⟨st, hn, fr, vs, sl, T, oT, ts, he, h2, h1, nT, ne, hT, dT, t3⟩ := f
  unfold noteFrame
  simp only [hf]
  refine wpAny_bind (wpAny_field he rfl h1 ?_)
  rw [if_pos (by simp)]
  refine wpAny_bind (wpAny_field hT dT t3 ?_)
  rw [if_neg (by simp [rawInt])]
  refine wpAny_bind (wpAny_setField hT dT (Array.getElem?_eq_some_iff.mp t3).1 ?_)
  have other : ∀ b o, b ≠ T → s.heap.get? b = some o → (s.heap.update T (Obj.mapFields (·.setIfInBounds 3 Value.none))).get? b = some o := fun b o hb z => by
    rw [Heap.get?_update_other _ _ (Ne.symm hb)]
    exact z
  have noT : ∀ b o, s.heap.get? b = some o → (∀ ws, o.data ≠ .fields ws) → b ≠ T := fun b o q nf z => by
    rw [z, hT] at q
    cases q
    exact nf ts dT
  refine place_laid (s := { s with heap := _ }) hfr hf (fun b o q => other b o (fun z => by rw [z, nT] at q; cases q) (st b o q)) hn (fr.of_keeps fun b o q nf => ⟨o, other b o (noT b o q nf) q, rfl⟩) (other e _ (Ne.symm ne) he) h2 fun h' f' u => k h' f' fun b o q nf => ?_
  exact u b o (other b o (noT b o q nf) q) nf
theorem land {fl : Value} (f : Fly B l e cls dx fl s.heap) (k : ∀ h', Fly B l e cls dx .none h' → s.heap.UpToSlots h' → Q () { s with heap := h' }) : wpAny M A (setFlight (.ref e) none) Q E s := by
  obtain ⟨st, hn, fr, vs, sl, T, oT, ts, he, h2, h1, nT, ne, hT, dT, t3⟩ := f
  unfold setFlight
  refine wpAny_bind (wpAny_field he rfl h1 ?_)
  rw [if_pos (by simp)]
  have sz := (Array.getElem?_eq_some_iff.mp t3).1
  have other : ∀ b o, b ≠ T → s.heap.get? b = some o → (s.heap.update T (Obj.mapFields (·.setIfInBounds 3 Value.none))).get? b = some o := fun b o hb z => by
    rw [Heap.get?_update_other _ _ (Ne.symm hb)]
    exact z
  have noT : ∀ b o, s.heap.get? b = some o → (∀ ws, o.data ≠ .fields ws) → b ≠ T := fun b o q nf z => by
    rw [z, hT] at q
    cases q
    exact nf ts dT
  refine wpAny_setField hT dT sz (k _ ⟨fun b o q => other b o (fun z => by rw [z, nT] at q; cases q) (st b o q), hn, fr.of_keeps fun b o q nf => ⟨o, other b o (noT b o q nf) q, rfl⟩, vs, sl, T, _, _, other e _ (Ne.symm ne) he, h2, h1, nT, ne, Heap.get?_update_self _ hT (Obj.isFreed_of_fields (Obj.data_mapFields dT _)), Obj.data_mapFields dT _, ?_⟩ fun b o q nf => ⟨o.slots, other b o (noT b o q nf) q⟩)
  simp [sz]
theorem Fly.tail {fl : Value} {h : Heap} (f : Fly B (env :: outer) e cls dx fl h) : Fly B outer e cls dx fl h := ⟨f.st, f.new, f.fr.2.2, f.at_⟩
theorem leave_first {vs : Array Value} {sl : Array (Option Value)} (hfr : A.frames = some (env :: outer)) (hf : env.frame = some L) (st : B.StaysIn s.heap) (hn : B.get? e = none) (fr : s.heap.FunFrames B (env :: outer))
    (he : s.heap.get? e = some ⟨cls, dx, .fields vs, sl⟩) (h2 : vs[2]? = some Value.none) (h1 : vs[1]? = some Value.none) (k : ∀ h', Fly B outer e cls dx .none h' → s.heap.UpToSlots h' → Q () { s with heap := h' }) :
    wpAny M A (leaving env (.ref e)) Q E s := by
  unfold leaving
  exact wpAny_bind (note_first hfr hf st hn fr he h2 h1 fun h' f u => land f fun h2 f2 u2 => k h2 f2.tail (u.trans u2))
theorem leave_more (hfr : A.frames = some (env :: outer)) (hf : env.frame = some L) (f : Fly B (env :: outer) e cls dx .none s.heap) (k : ∀ h', Fly B outer e cls dx .none h' → s.heap.UpToSlots h' → Q () { s with heap := h' }) :
    wpAny M A (leaving env (.ref e)) Q E s := by
  unfold leaving
  exact wpAny_bind (note_more hfr hf f fun h' f u => land f fun h2 f2 u2 => k h2 f2.tail (u.trans u2))
end
end L2
set_option Elab.async false
set_option linter.all false
set_option maxRecDepth 100000
namespace L2
open PySem PySem.Spec PyProof.Rows
theorem ObjOk.some {P : Program} {w : World} {H : Hp} {h : Heap} {a : Addr} {o : HO} (x : ObjOk P w H h a o) : ∃ u, h.get? a = some u := by
  cases o with
  | lst xs => obtain ⟨_, _, _, _, e⟩ := x; exact ⟨_, e⟩
  | tup xs => obtain ⟨_, _, _, o, e, _⟩ := x; exact ⟨_, e⟩
  | dK kvs => obtain ⟨_, _, _, _, o, _, _, e, _⟩ := x; exact ⟨_, e⟩
  | dT kvs => obtain ⟨_, _, _, _, o, _, _, e, _⟩ := x; exact ⟨_, e⟩
  | set S n => obtain ⟨o, _, _, _, e, _⟩ := x; exact ⟨_, e⟩
  | ins C dx fs => obtain ⟨_, _, _, e, _⟩ := x; exact ⟨_, e⟩
  | own y => exact x
  | xd fs => obtain ⟨_, ⟨_, _, _, e, _⟩, _⟩ := x; exact ⟨_, e⟩
  | rng lo hi => obtain ⟨_, _, _, e⟩ := x; exact ⟨_, e⟩
  | frz ob u => obtain ⟨e, _⟩ := x; exact ⟨_, e⟩
  | tbl ps => exact ⟨_, x⟩
  | met f y => exact ⟨_, x⟩
  | ext φ => obtain ⟨_, e, _⟩ := x; exact e
structure UnB (fs : List Addr) (H H' : Hp) (h B : Heap) : Prop where
  keep : ∀ b o, h.get? b = some o → H b = none → b ∉ fs → B.get? b = some o
  free : ∀ b o, h.get? b = some o → H b = none → H' b = none
  there : ∀ b o, h.get? b = some o → b ∉ fs → ∃ o', B.get? b = some o'
  tups : ∀ b xs, H b = some (.tup xs) → H' b = some (.tup xs)
  frzs : ∀ b o u, H b = some (.frz o u) → H' b = some (.frz o u)
  tbls : ∀ b ps, H b = some (.tbl ps) → ∃ more, H' b = some (.tbl (ps ++ more))
theorem UnB.un {fs : List Addr} {H H' : Hp} {h B h3 : Heap} (u : UnB fs H H' h B) (st : B.StaysIn h3) (sl : ∀ b o, b ∈ fs → h.get? b = some o → ∃ sl, h3.get? b = some { o with slots := sl }) : Un fs [] H H' h h3 where
  keep := fun b o e n hb _ => st _ _ (u.keep b o e n hb)
  slot := fun b o e n hb _ => sl b o hb e
  free := fun b o e n _ => u.free b o e n
  there := fun b o e _ => by
    by_cases hb : b ∈ fs
    · obtain ⟨_, z⟩ := sl b o hb e
      exact ⟨_, z⟩
    · obtain ⟨o', z⟩ := u.there b o e hb
      exact ⟨o', st _ _ z⟩
  tups := u.tups
  frzs := u.frzs
  tbls := u.tbls
def CXE (P : Program) (w : World) : CXT := fun outer H s E e s' =>
  ∃ (ea : Addr) (cls : Value) (dx : Option Addr) (H' : Hp) (B : Heap), e = .ref ea ∧ s'.os = s.os ∧ AllBare s'.gens ∧ Fly B outer ea cls dx .none s'.heap ∧ HOk P w H' B ∧ UnB (frs outer) H H' s.heap B ∧
    (∀ b o, b ∈ frs outer → s.heap.get? b = some o → ∃ sl, s'.heap.get? b = some { o with slots := sl }) ∧ E cls dx H'
abbrev WXT := St → XK
structure XC (X : Cx) (WX : WXT) : Prop where
  pass : ∀ (pins : List (Addr × Obj)) (σ : St) (H : Hp) (s : Shared) (e : Value) (s' : Shared), Inv X pins σ H s → CXE X.prog X.w X.stack H s (WX σ) e s' → X.xe e s'
structure XW (X : Cx) (WX : WXT) : Prop extends XC X WX where
  raise : ∀ (pins : List (Addr × Obj)) (σ : St) (H : Hp) (s : Shared) (h' : Heap) (e : Addr) (cls : Value) (args : List Value), Inv X pins σ H s → Heap.MadeExcOf s.heap h' e cls args → WX σ cls none H → X.xe (.ref e) { s with heap := h' }
def noW : WXT := fun _ _ _ _ => False
section
variable {P : Program} {w : World} {K : PySem.W.Frag} {mg : Str → Option Value} {base : Heap} {N : List Str} {qual : Str} {scope : Scope} {f : Addr} {cd : Value} {A : Around} {outer : List Env} {s₀ : Shared} {H₀ : Hp} {E : XK}
theorem hok_hide {H : Hp} {h : Heap} {l : List Addr} (ok : HOk P w H h) (fr : ∀ b ∈ l, H b = none) : HOk P w H (PySem.W.hideAll h l) := fun a o e =>
  (ok a o e).stay (fun b u hb q => PySem.W.hideAll_get _ q fun z => by
    have n := fr b z
    rcases hb with rfl | hb
    · rw [n] at e; cases e
    · rw [n] at hb; cases hb) (fun _ q => q) fun _ _ q => q
theorem xw_fn : XW (cxOf (CXE P w) P w K mg base N qual scope f cd A outer s₀ H₀ E) (fun _ => E) where
  raise := fun pins σ H s h' e cls args I mk hE => by
    have hst : (cxOf (CXE P w) P w K mg base N qual scope f cd A outer s₀ H₀ E).stack = envOfC qual scope s₀.heap.objs.size f cd :: outer := rfl
    have stF := I.stkFree
    have stS := I.stack
    rw [hst] at stF stS
    obtain ⟨t, he, _, _⟩ := mk.there
    have hn : (PySem.W.hideAll s.heap (frs (envOfC qual scope s₀.heap.objs.size f cd :: outer))).get? e = none := by
      cases q : (PySem.W.hideAll s.heap (frs (envOfC qual scope s₀.heap.objs.size f cd :: outer))).get? e with
      | none => rfl
      | some o => have := PySem.W.of_hideAll _ q; rw [mk.new] at this; cases this
    have fr0 : s.heap.FunFrames (PySem.W.hideAll s.heap (frs (envOfC qual scope s₀.heap.objs.size f cd :: outer))) (envOfC qual scope s₀.heap.objs.size f cd :: outer) :=
      PySem.W.funFrames_hide stS fun env he a ha => List.mem_filterMap.mpr ⟨env, he, ha⟩
    show wpAny (model P w) (A.deeper (envOfC qual scope s₀.heap.objs.size f cd)) (leaving (envOfC qual scope s₀.heap.objs.size f cd) (.ref e)) _ _ _
    refine leave_first (s := { s with heap := h' }) (B := PySem.W.hideAll s.heap (frs (envOfC qual scope s₀.heap.objs.size f cd :: outer))) (env := envOfC qual scope s₀.heap.objs.size f cd) (outer := outer) (L := s₀.heap.objs.size) I.ok.frames rfl (fun b o q => mk.keeps b o (PySem.W.of_hideAll _ q)) hn (fr0.of_keeps fun b o q _ => ⟨o, mk.keeps b o q, rfl⟩) he rfl rfl fun h2 fl up => ?_
    have nst : ∀ b o, s₀.heap.get? b = some o → b ∉ frs outer → b ∉ frs (envOfC qual scope s₀.heap.objs.size f cd :: outer) := fun b o q n z => by
      rcases List.mem_cons.mp (show b ∈ s₀.heap.objs.size :: frs outer from z) with z | z
      · exact absurd (Heap.lt_size q) (by rw [z]; exact Nat.lt_irrefl _)
      · exact n z
    refine ⟨e, cls, none, H, _, rfl, I.os, I.bare, fl, hok_hide I.hok stF, ⟨fun b o q n nf => PySem.W.hideAll_get _ (I.base.keep b o q n nf (fun z => nomatch z)) (nst b o q nf), fun b o q n => I.base.free b o q n (fun z => nomatch z), fun b o q nf => ?_, I.base.tups, I.base.frzs, I.base.tbls⟩, fun b o hb q => ?_, hE⟩
    · obtain ⟨o', q'⟩ := I.base.there b o q (fun z => nomatch z)
      exact ⟨o', PySem.W.hideAll_get _ q' (nst b o q nf)⟩
    · obtain ⟨_, o', q', nf⟩ := I.ok.funs.mem hb
      obtain rfl : o = o' := Option.some.inj ((show s₀.heap.get? b = some o from q).symm.trans q')
      obtain ⟨sl, z⟩ := I.base.slot b o q (I.ok.frf b hb) hb (fun z => nomatch z)
      exact up b { o with slots := sl } (mk.keeps _ _ z) nf
  pass := fun pins σ H s e s' I z => by
    obtain ⟨ea, cls, dx, H', B, rfl, os, bare, fl, hok, u, slo, hE⟩ := z
    have fl : Fly B (envOfC qual scope s₀.heap.objs.size f cd :: outer) ea cls dx .none s'.heap := fl
    show wpAny (model P w) (A.deeper (envOfC qual scope s₀.heap.objs.size f cd)) (leaving (envOfC qual scope s₀.heap.objs.size f cd) (.ref ea)) _ _ _
    refine leave_more (L := s₀.heap.objs.size) I.ok.frames rfl fl fun h2 fl2 up => ?_
    have nst : ∀ b o, s₀.heap.get? b = some o → b ∉ frs outer → b ∉ frs (envOfC qual scope s₀.heap.objs.size f cd :: outer) := fun b o q n z => by
      rcases List.mem_cons.mp (show b ∈ s₀.heap.objs.size :: frs outer from z) with z | z
      · exact absurd (Heap.lt_size q) (by rw [z]; exact Nat.lt_irrefl _)
      · exact n z
    refine ⟨ea, cls, dx, H', B, rfl, os.trans I.os, bare, fl2, hok, ⟨fun b o q n nf => u.keep b o (I.base.keep b o q n nf (fun z => nomatch z)) (I.base.free b o q n (fun z => nomatch z)) (nst b o q nf), fun b o q n => ?_, fun b o q nf => ?_, fun b xs q => u.tups b xs (I.base.tups b xs q), fun b o x q => u.frzs b o x (I.base.frzs b o x q), fun b ps q => ?_⟩, fun b o hb q => ?_, hE⟩
    · obtain ⟨o', q'⟩ := I.base.there b o q (fun z => nomatch z)
      exact u.free b o' q' (I.base.free b o q n (fun z => nomatch z))
    · obtain ⟨o', q'⟩ := I.base.there b o q (fun z => nomatch z)
      exact u.there b o' q' (nst b o q nf)
    · obtain ⟨m1, e1⟩ := I.base.tbls b ps q
      obtain ⟨m2, e2⟩ := u.tbls b _ e1
      exact ⟨m1 ++ m2, by rw [e2, Array.append_assoc]⟩
    · obtain ⟨_, o', q', nf⟩ := I.ok.funs.mem hb
      obtain rfl : o = o' := Option.some.inj ((show s₀.heap.get? b = some o from q).symm.trans q')
      obtain ⟨sl, z⟩ := I.base.slot b o q (I.ok.frf b hb) hb (fun z => nomatch z)
      obtain ⟨sl2, z2⟩ := slo b _ (show b ∈ s₀.heap.objs.size :: frs outer from List.mem_cons_of_mem _ hb) z
      exact up b { o with slots := sl2 } z2 nf
end
def tCallX (sp : Sp) (dvs : List V) (WX : WXT) (t : TA) : TE := fun σ H Q => t σ H fun vs H1 => sp (vs ++ dvs) H1 Q (WX σ)
def tMethX (C : Addr) (m : Str) (sp : Sp) (dvs : List V) (WX : WXT) (ta : TE) (t : TA) : TE := fun σ H Q => ta σ H fun x H1 => ∃ a dx fs, x = .ref a ∧ H1 a = some (.ins C dx fs) ∧ fs.lookup m = none ∧ t σ H1 fun vs H2 => sp (x :: (vs ++ dvs)) H2 Q (WX σ)
def tMakeX (C : Addr) (sp : Sp) (dvs : List V) (WX : WXT) (t : TA) : TE := fun σ H Q => t σ H fun vs H1 => ∀ x dx, H1 x = none → H1 dx = none → dx ≠ x →
  sp (.ref x :: (vs ++ dvs)) (upd (upd H1 dx (.own x)) x (.ins C dx [])) (fun v H2 => v = .non ∧ Q (.ref x) H2) (WX σ)
section
variable {X : Cx} {k : Nat} {f C : Addr} {fd : FuncData} {ps : List Str} {sp : Sp} {dvs : List V} {ds : List Value} {WX : WXT} {x m : Str} {p pos apos : Pos} {e o : Expr} {es : List Expr} {ta : TE} {t : TA}
theorem run_fnX {pins : List (Addr × Obj)} {σ : St} {H : Hp} {s : Shared} {Q : VK} {us : List Value} {vs : List V} (F : FnOk X.prog X.w X.K X.mg X.base (CXE X.prog X.w) k f fd ps sp) (hr : Room k X.A) (hb : Binds X.K fd ps ds) (hd : Vals dvs ds) (hx : XC X WX)
    (I : Inv X pins σ H s) (r : Vals vs us) (h : sp (vs ++ dvs) H Q (WX σ)) : wpAny (model X.prog X.w) X.A (call (.ref f) us) (EP X pins σ Q) X.xe s := by
  have r2 : Vals (vs ++ dvs) (us ++ ds) := r.append hd
  have hl : (us ++ ds).length = ps.length := by rw [← r2.length]; exact F.len _ _ _ _ h
  refine wpAny_call (codeAny_mono (F.run X.A X.stack s H ⟨us, []⟩ (us ++ ds) (vs ++ dvs) Q (WX σ) hr I.env0 (hb s us I.kIn hl) r2 h) fun r s' hq => ?_)
  cases r with
  | error e => exact hx.pass pins σ H s e s' I hq
  | ok fl => cases fl with
    | ret u => exact I.after hq
    | next => exact hq.elim
    | brk => exact hq.elim
    | cont => exact hq.elim
theorem pe_callX (F : FnOk X.prog X.w X.K X.mg X.base (CXE X.prog X.w) k f fd ps sp) (hr : Room k X.A) (hg : Gl X x) (hm : X.mg x = some (.ref f)) (hk : PySem.W.keepIn X.K (.ref f) = true) (hb : Binds X.K fd ps ds) (hd : Vals dvs ds) (hx : XC X WX)
    (ha : PA X (e :: es) t) (hdb : (x == ("__debug__" : Str)) = false := by decide) (he : starEach (e :: es) X.env = (false, eval e X.env) :: starEach es X.env := by rfl) (hpl : (backTo pos (starEach es X.env)).any (·.1) = false := by rfl) :
    PE X (.Call (.Name x p) (e :: es) [] pos) (tCallX sp dvs WX t) := by
  intro pins s σ H Q I h
  refine wpAny_Call_Name_kw (ld_glob I hg hm ?_ hdb)
  exact PySem.W.callWith_K (h₀ := X.base) I.ok.mod.kin hk (thn (ha pos pins s σ H _ I h) fun us s1 ⟨vs, H1, I1, r, q⟩ => ⟨I1.kIn, run_fnX F hr hb hd hx I1 r q⟩) he hpl
structure ErrC (K : PySem.W.Frag) (C : Addr) : Prop where
  ex : PySem.W.excIn K C [.type "ValueError", .type "Exception", .type "BaseException", .type "object"] "ValueError.__new__" = true
def tRaise (WX : WXT) (C : Addr) (t : TA) : TS := fun D σ H => t σ H fun vs H1 => vs.length ≤ sizeLine ∧ WX σ (.ref C) none H1
theorem ps_raise {np cpos : Pos} (hx : XW X WX) (hc : X.calm = true) (hg : Gl X x) (hm : X.mg x = some (.ref C)) (er : ErrC X.K C) (ha : PA X (e :: es) t)
    (hdb : (x == ("__debug__" : Str)) = false := by decide) (he : starEach (e :: es) X.env = (false, eval e X.env) :: starEach es X.env := by rfl) (hpl : (backTo cpos (starEach es X.env)).any (·.1) = false := by rfl) :
    PS X (.Raise (some (.Call (.Name x np) (e :: es) [] cpos)) none pos) (tRaise WX C t) := by
  intro pins s σ H D I h
  have q := er.ex
  unfold PySem.W.excIn at q
  split at q
  · rename_i dd cd sl ho
    split at q
    · rename_i C' bm k0 k1 k2 k3 n k5 hm' hs
      simp only [Bool.and_eq_true, beq_iff_eq, Bool.not_eq_true'] at q
      obtain ⟨⟨⟨⟨⟨rfl, rfl⟩, hdel⟩, ht⟩, hok⟩, hni⟩ := q
      obtain ⟨nm, bs, mro, ns, qn, hd, sn, sub, ab, col, del⟩ := cd
      dsimp only at hm' hdel hok hni
      subst hm' hdel
      obtain rfl : sl = #[k0, k1, k2, k3, some (.builtin "ValueError.__new__"), k5] := by
        obtain ⟨l⟩ := sl
        simp only at hs
        rw [hs]
      have T := PySem.W.tail_of_in I.ok.mod.kin ht
      refine wpAny_Raise_call_subT (C := C') (nm := nm) (q := qn) (N := ns) (bs := bs) (bm := bm) (hdct := hd) (sn := sn) (sub := sub) (ab := ab) (col := col) (dd := dd) (k0 := k0) (k1 := k1) (k2 := k2) (k3 := k3) (k5 := k5) PySem.F.excBase_ValueError (mN := X.base.nsMap ns)
        (T.hasType PySem.F.excBase_ValueError.hasBase) (I.ok.hd hc) (by rw [he]; show (false || (backTo cpos (starEach es X.env)).any (·.1)) = false; rw [hpl]; rfl) (PySem.W.nsMap_none_of_in I.ok.mod.kin hok hni) (ld_glob I hg hm ⟨rfl, ?_⟩ hdb)
      rw [he]
      have hp := ha cpos pins s σ H _ I h
      rw [he] at hp
      refine Calls.evalArgs_plain (wpAny_mono hp (fun us s1 z => ?_) fun _ _ z => z)
      obtain ⟨vs, H1, I1, rv, hz, hw⟩ := z
      refine ⟨rfl, by rw [← rv.length]; exact hz, I1.kIn _ _ ho, (Heap.Ns.of_isNs (PySem.W.isNs_of_in I.ok.mod.kin hok)).keeps I1.bk, T.keeps I1.bk, fun h' ea mk => hx.raise pins σ H1 s1 h' ea _ _ I1 mk hw⟩
    · cases q
  · cases q
end
end L2
set_option Elab.async false
set_option linter.all false
set_option maxRecDepth 100000
namespace L2
open PySem PySem.Spec PyProof.Rows
structure MkO (C : Addr) (dx : Option Addr) (ob : Obj) : Prop where
  ex : ∃ (vs : Array Value) (sl : Array (Option Value)), ob = ⟨.ref C, dx, .fields vs, sl⟩ ∧ vs[2]? = some Value.none
def cxTry (X : Cx) (pins : List (Addr × Obj)) (E : Value → Shared → Prop) : Cx := { X with pn := X.pn ++ pins, xe := E }
def cxSuite (X : Cx) (pins : List (Addr × Obj)) (ea : Addr) (ob : Obj) : Cx := { X with A := X.A.mark (some (.ref ea)), calm := false, pn := X.pn ++ pins ++ [(ea, ob)], xe := fun _ _ => False }
section
variable {X : Cx} {pins pins' : List (Addr × Obj)} {σ : St} {H : Hp} {s : Shared} {E : Value → Shared → Prop} {ea : Addr} {ob : Obj}
theorem ok_try (ok : X.Ok) : (cxTry X pins E).Ok := ⟨ok.mod, ok.kind, ok.glob, ok.blt, ok.above, ok.inj, ok.has, ok.cab, ok.hd, ok.frames, ok.stk, ok.exf, ok.bs, ok.bsz, ok.noex, ok.exfs, ok.funs, ok.frf⟩
theorem ok_suite (ok : X.Ok) : (cxSuite X pins ea ob).Ok := ⟨ok.mod, ok.kind, ok.glob, ok.blt, ok.above, ok.inj, ok.has, ok.cab, (fun z => nomatch z), ok.frames, ok.stk, ok.exf, ok.bs, ok.bsz, ok.noex, ok.exfs, ok.funs, ok.frf⟩
theorem inv_try (I : Inv X pins σ H s) : Inv (cxTry X pins E) [] σ H s := ⟨ok_try I.ok, I.os, I.bare, I.base, I.loc, I.cell, I.free, I.freeC, fun p hp => I.pin p (by simpa [cxTry] using hp), I.hok, I.len⟩
theorem inv_untry (ok : X.Ok) (I : Inv (cxTry X pins E) pins' σ H s) : Inv X pins σ H s := ⟨ok, I.os, I.bare, I.base, I.loc, I.cell, I.free, I.freeC, fun p hp => I.pin p (List.mem_append_left _ hp), I.hok, I.len⟩
theorem inv_suite (I : Inv X pins σ H s) (he : s.heap.get? ea = some ob) (hn : H ea = none) (hl : ea ≠ X.env.locals) (hf : ea ∉ X.fs) (hc : ∀ v, ob.data ≠ .cell v) : Inv (cxSuite X pins ea ob) [] σ H s :=
  ⟨ok_suite I.ok, I.os, I.bare, I.base, I.loc, I.cell, I.free, I.freeC, fun p hp => by
    have hp : p ∈ X.pn ++ pins ++ [(ea, ob)] := by simpa [cxSuite] using hp
    rcases List.mem_append.mp hp with z | z
    · exact I.pin p z
    · cases List.mem_singleton.mp z
      exact ⟨he, hn, hl, hf, hc⟩, I.hok, I.len⟩
theorem inv_unsuite (ok : X.Ok) (I : Inv (cxSuite X pins ea ob) pins' σ H s) : Inv X pins σ H s := ⟨ok, I.os, I.bare, I.base, I.loc, I.cell, I.free, I.freeC, fun p hp => I.pin p (List.mem_append_left _ (List.mem_append_left _ hp)), I.hok, I.len⟩
theorem SP.untry {D : Ends} {f : Flow} (ok : X.Ok) (h : SP (cxTry X pins E) [] D f s) : SP X pins D f s := by
  cases f with
  | next => obtain ⟨σ', H', I, q⟩ := h; exact ⟨σ', H', inv_untry ok I, q⟩
  | brk => obtain ⟨σ', H', I, q⟩ := h; exact ⟨σ', H', inv_untry ok I, q⟩
  | cont => obtain ⟨σ', H', I, q⟩ := h; exact ⟨σ', H', inv_untry ok I, q⟩
  | ret u => obtain ⟨v, σ', H', I, r, q⟩ := h; exact ⟨v, σ', H', inv_untry ok I, r, q⟩
theorem Inv.forget {h' : Heap} {m' : Str → Option Value} {t' : Nat} (I : Inv X pins σ H s) (hn : h'.Ns X.env.locals m') (sb : Heap.SameBut X.env.locals s.heap h') : Inv X pins (List.replicate X.N.length none) H { s with heap := h', toks := t' } := by
  have nl : ∀ b o, X.s₀.heap.get? b = some o → b ≠ X.env.locals := fun b o e => Nat.ne_of_lt (Nat.lt_of_lt_of_le (Heap.lt_size e) I.ok.above)
  have up : ∀ b o, b ≠ X.env.locals → s.heap.get? b = some o → h'.get? b = some o := fun b o hb e => (sb.2 b hb).trans e
  refine ⟨I.ok, I.os, I.bare, ⟨fun b o e n hb hx => up b o (nl b o e) (I.base.keep b o e n hb hx), fun b o e n hb hx => ?_, I.base.free, fun b o e hx => ?_, I.base.tups, I.base.frzs, I.base.tbls⟩, ⟨m', hn, fun i x v _ h2 _ => ?_⟩, fun x c e => ?_, I.free, I.freeC, fun p hp => ?_, fun a o e => ?_, by simp⟩
  · obtain ⟨sl, z⟩ := I.base.slot b o e n hb hx
    exact ⟨sl, up b _ (nl b o e) z⟩
  · obtain ⟨o', z⟩ := I.base.there b o e hx
    exact ⟨o', up b _ (nl b o e) z⟩
  · rw [List.getElem?_replicate] at h2
    split at h2 <;> cases h2
  · obtain ⟨v, o, z, d⟩ := I.cell x c e
    exact ⟨v, o, up c o (I.cne x c e) z, d⟩
  · obtain ⟨z1, z2, z3, z4⟩ := I.pin p hp
    exact ⟨up _ _ z3 z1, z2, z3, z4⟩
  · have ne : ∀ b u, H b = some u → b ≠ X.env.locals := fun b u q z => by rw [z, I.free] at q; cases q
    exact (I.hok a o e).stay (fun b u hb q => up b u (by
      rcases hb with rfl | hb
      · exact ne _ _ e
      · exact ne _ _ hb) q) (fun _ q => q) fun _ _ q => q
def onlyRet (D : Ends) : Ends := { nx := fun _ _ => False, rt := D.rt }
end
def tTryAs (K : PySem.W.Frag) (C : Addr) (i : Nat) (tb : WXT → TS) (th : Addr → Addr → Option Addr → TS) : TS := fun D σ H =>
  ∃ WE : WXT, tb WE D σ H ∧ ∀ σ' cls dx H', WE σ' cls dx H' → ∃ C', cls = .ref C' ∧ PySem.W.exmOne K (.ref C') (.ref C) = some true ∧ ∀ ea, H' ea = none → th ea C' dx (onlyRet D) (σ'.set i (some (.ref ea))) H'
section
variable {X : Cx} {x n : Str} {C : Addr} {body : List Stmt} {b₀ : Stmt} {suite : List Stmt} {np pos hpos : Pos} {tb : WXT → TS} {th : Addr → Addr → Option Addr → TS}
theorem looks_type {M : Model} {h : Heap} {a : Addr} {o : Obj} (e : h.get? a = some o) : PySem.W.Looks M h (typeOf (.ref a)) o.cls := (PySem.W.Looks.ld e).andThen .now
def Behind (X : Cx) (nm : Option Str) (hpos : Pos) (Q : Flow → Shared → Prop) (r : Result) (s : Shared) : Prop := match r with
  | .ok f => (match nm with
    | none => Q f s
    | some n => wpAny (model X.prog X.w) X.A (do bindName X.env n .none; unbindBehindTheSuite X.env n hpos) (fun _ s₃ => Q f s₃) X.xe s)
  | .error x => cameBackBy (model X.prog X.w) X.A X.env X.xe x s
theorem try_seen {pins pins' : List (Addr × Obj)} {σ : St} {H : Hp} {s s' : Shared} {e : Value} {WE : XK} {nm : Option Str} {Q : Flow → Shared → Prop} {EE : Value → Shared → Prop} {L : Addr} {outer : List Env} (hst : X.stack = X.env :: outer) (hf : X.env.frame = some L) (hg : Gl X x) (hm : X.mg x = some (.ref C)) (hdb : (x == ("__debug__" : Str)) = false) (ok : X.Ok)
    (I : Inv (cxTry X pins EE) pins' σ H s) (z : CXE X.prog X.w X.stack H s WE e s') (hW : ∀ cls dx H', WE cls dx H' → ∃ C', cls = .ref C' ∧ PySem.W.exmOne X.K (.ref C') (.ref C) = some true)
    (k : ∀ (ea C' : Addr) (dx : Option Addr) (H' : Hp) (s5 : Shared), e = .ref ea → WE (.ref C') dx H' → H' ea = none → (∀ (M : Model) (A : Around) (E : Value → Shared → Prop) (Q : Unit → Shared → Prop), (∀ ob s6, MkO C' dx ob → Inv (cxSuite X pins ea ob) [] σ H' s6 → Q () s6) → wpAny M A (setFlight (.ref ea) none) Q E s5) →
      codeAny (model X.prog X.w) (X.A.mark (some (.ref ea))) (.handlers (.ref ea) [.ExceptHandler none nm (b₀ :: suite) hpos] X.env) (Behind X nm hpos Q) s5) :
    wpAny (model X.prog X.w) X.A (noteFrame e X.env) (fun _ s₂ => wpAny (model X.prog X.w) X.A (setFlight e none) (fun _ s₃ => wpAny (model X.prog X.w) X.A (handleBy e X.env [.ExceptHandler (some (.Name x np)) nm (b₀ :: suite) hpos]) Q X.xe s₃) X.xe s₂) X.xe s' := by
  obtain ⟨ea, cls, dx, H', B, rfl, os, bare, fl, hok, u, slo, hE⟩ := z
  obtain ⟨C', rfl, hmt⟩ := hW cls dx H' hE
  have fl : Fly B (X.env :: outer) ea (.ref C') dx .none s'.heap := by rw [← hst]; exact fl
  have J : ∀ {h3 : Heap} {t3 : Nat}, B.StaysIn h3 → s'.heap.UpToSlots h3 → Inv X pins σ H' { s' with heap := h3, toks := t3 } := fun {h3 t3} st up => by
    refine inv_untry ok (Inv.call' I (s' := { s' with heap := h3, toks := t3 }) os (u.un st fun b o hb q => ?_) (hok.kept st) bare (fun b z => nomatch z))
    obtain ⟨_, o', q', nf⟩ := I.stack.mem hb
    rw [q] at q'
    cases q'
    obtain ⟨sl, q2⟩ := slo b o hb q
    exact up b { o with slots := sl } q2 nf
  have hn : H' ea = none := by
    cases q : H' ea with
    | none => rfl
    | some o => obtain ⟨_, z⟩ := (hok ea o q).some; rw [fl.new] at z; cases z
  refine note_more (by rw [ok.frames, hst]) hf fl fun h4 fl4 up4 => ?_
  refine land (s := { s' with heap := h4 }) fl4 fun h5 fl5 up5 => ?_
  have fin : ∀ {h6 : Heap} {t6 : Nat}, Fly B (X.env :: outer) ea (.ref C') dx .none h6 → h5.UpToSlots h6 → ∃ ob, MkO C' dx ob ∧ Inv (cxSuite X pins ea ob) [] σ H' { s' with heap := h6, toks := t6 } := fun {h6 t6} fl6 up6 => by
    have I6 := J (t3 := t6) fl6.st ((up4.trans up5).trans up6)
    obtain ⟨vs, sl, T, oT, ts, he, h2, h1, _⟩ := fl6.at_
    refine ⟨_, ⟨vs, sl, rfl, h2⟩, inv_suite I6 he hn (fun z => ?_) (fun z => ?_) (fun v z => by cases z)⟩
    · obtain ⟨m, ⟨o, es, ep, ho, hd, _⟩, _⟩ := I6.loc
      rw [← z] at ho
      have ho := (show h6.get? ea = some o from ho)
      rw [he] at ho
      cases ho
      cases hd
    · obtain ⟨_, o, ho, nf⟩ := I6.funs.mem z
      have ho := (show h6.get? ea = some o from ho)
      rw [he] at ho
      cases ho
      exact nf _ rfl
  refine wpAny_handleBy_cons (codeAny_handlers_test ?_) (by intro q; cases q)
  obtain ⟨ob5, _, I5⟩ := fin (t6 := s'.toks) fl5 (Heap.UpToSlots.refl _)
  refine ld_glob (X := cxSuite X pins ea ob5) I5 hg hm ?_ hdb
  obtain ⟨vs, sl, T, oT, ts, he, _⟩ := id fl5.at_
  refine (PySem.W.exm_one I5.kIn (looks_type he) hmt).here ?_
  refine k ea C' dx H' _ rfl hE hn fun M A E Q q => land (s := { s' with heap := h5 }) fl5 fun h6 fl6 up6 => ?_
  obtain ⟨ob6, m6, I6⟩ := fin (t6 := s'.toks) fl6 up6
  exact q ob6 _ m6 I6
theorem ps_tryAs {L : Addr} {outer : List Env} {i : Nat} (hN : X.N.Nodup) (hi : X.N[i]? = some n) (hl : X.env.scope.names.lookup n = some .local) (hst : X.stack = X.env :: outer) (hf : X.env.frame = some L) (hg : Gl X x) (hm : X.mg x = some (.ref C)) (hdb : (x == ("__debug__" : Str)) = false)
    (hb : ∀ pins EE WE, XC (cxTry X pins EE) WE → PSs (cxTry X pins EE) body (tb WE)) (hh : ∀ pins ea C' dx ob, MkO C' dx ob → PSs (cxSuite X pins ea ob) (b₀ :: suite) (th ea C' dx)) :
    PS X (.Try body [.ExceptHandler (some (.Name x np)) (some n) (b₀ :: suite) hpos] [] [] pos) (tTryAs X.K C i tb th) := by
  intro pins s σ H D I h
  obtain ⟨WE, h1, h2⟩ := h
  refine wpAny_Try_except (thn (hb pins _ WE ⟨fun pins' σ' H' s1 e s2 I' z => ?_⟩ [] s σ H D (inv_try I) h1) fun f s1 q => ?_)
  · refine try_seen hst hf hg hm hdb I.ok I' z (fun cls dx H' w => let ⟨C', e1, e2, _⟩ := h2 σ' cls dx H' w; ⟨C', e1, e2⟩) fun ea C' dx H2 s5 e5 w hn land => ?_
    obtain ⟨C2, e1, e2, h3⟩ := h2 σ' _ dx H2 w
    cases e1
    refine codeAny_handlers_suite_as (wpAny_noRaise (land _ _ _ _ fun ob s6 mk I6 => wpAny_noRaise (store_ok (X := cxSuite X pins ea ob) (v := .ref ea) I6 hN hi (.inl hl) rfl (fun s7 I7 => ?_) (.inr hl))))
    refine wpAny_mono (hh pins ea C' dx ob mk [] s7 _ H2 (onlyRet D) I7 (h3 ea hn)) (fun f s8 q8 => ?_) fun _ _ z => z.elim
    cases f with
    | next => obtain ⟨_, _, _, z⟩ := q8; exact z.elim
    | brk => obtain ⟨_, _, _, z⟩ := q8; exact z.elim
    | cont => obtain ⟨_, _, _, z⟩ := q8; exact z.elim
    | ret v =>
      obtain ⟨y, σ9, H9, I9, r9, q9⟩ := q8
      have I9 := inv_unsuite I.ok I9
      obtain ⟨m, hn9, _⟩ := id I9.loc
      refine wpAny_nameGoes (m := m) hl hn9 (by rw [I9.ok.kind]; rfl) fun h' m' hn' sb => ?_
      refine ⟨y, List.replicate X.N.length none, H9, ?_, r9, q9⟩
      exact I9.forget hn' sb
  · have q := SP.untry I.ok q
    cases f with
    | next => exact wpAny_execs_nil q
    | brk => exact q
    | cont => exact q
    | ret u => exact q
end
end L2
set_option Elab.async false
set_option linter.all false
set_option maxRecDepth 100000
namespace L2
open PySem PySem.Spec PyProof.Rows
structure RoomM (k : Nat) (A : Around) : Prop where
  dp : A.depth + 3 * k + 5 < recursionLimit
  un : A.units + 16 * k + 200 < cLine
theorem Room.m {k : Nat} {A : Around} {e : Option Value} (r : Room k A) : RoomM k (A.mark e) := ⟨r.dp, r.un⟩
theorem RoomM.mono {j k : Nat} {A : Around} (r : RoomM k A) (h : j ≤ k) : RoomM j A := ⟨by have := r.dp; omega, by have := r.un; omega⟩
theorem RoomM.deeper {k : Nat} {A : Around} (r : RoomM (k + 1) A) (env : Env) : RoomM k (A.deeper env) :=
  ⟨by have := r.dp; show A.depth + 1 + 3 * k + 5 < _; omega, by have := r.un; show A.units + 3 + 16 * k + 200 < _; omega⟩
theorem RoomM.depth {k : Nat} {A : Around} (r : RoomM k A) : A.depth < recursionLimit := by have := r.dp; omega
theorem RoomM.units {k : Nat} {A : Around} (r : RoomM k A) : A.units + 64 < cLine := by have := r.un; omega
theorem RoomM.units0 {k : Nat} {A : Around} (r : RoomM k A) : A.units < cLine := by have := r.un; omega
structure FnOkM (P : Program) (w : World) (K : PySem.W.Frag) (mg : Str → Option Value) (base : Heap) (ea : Addr) (ob : Obj) (k : Nat) (f : Addr) (fd : FuncData) (ps : List Str) (sp : Sp) : Prop where
  len : ∀ vs H Q E, sp vs H Q E → vs.length = ps.length
  run : ∀ (A : Around) (outer : List Env) (s : Shared) (H : Hp) (args : Args) (us : List Value) (vs : List V) (Q : VK), RoomM k A → A.handled = some (.ref ea) → s.heap.get? ea = some ob → H ea = none → ea ∉ frs outer → Env0 P w K mg base A outer s H → BindsTo s fd args (ps.zip us) → Vals vs us → sp vs H Q E0 →
    codeAny (model P w) A (.call (.ref f) args) (CR CX0 outer P w H s Q E0) s
def cxM (P : Program) (w : World) (K : PySem.W.Frag) (mg : Str → Option Value) (base : Heap) (N : List Str) (qual : Str) (scope : Scope) (f : Addr) (cd : Value) (A : Around) (outer : List Env) (s : Shared) (H : Hp) (ea : Addr) (ob : Obj) : Cx :=
  { cxOf CX0 P w K mg base N qual scope f cd A outer s H E0 with calm := false, pn := [(ea, ob)], xe := fun _ _ => False }
theorem calm_m {P : Program} {w : World} {K : PySem.W.Frag} {mg : Str → Option Value} {base : Heap} {N : List Str} {qual : Str} {scope : Scope} {f : Addr} {cd : Value} {A : Around} {outer : List Env} {s : Shared} {H : Hp} {ea C : Addr} {dx : Option Addr} {ob : Obj} (mk : MkO C dx ob) (hh : A.handled = some (.ref ea)) :
    Calm (cxM P w K mg base N qual scope f cd A outer s H ea ob) := by
  obtain ⟨vs, sl, rfl, h2⟩ := mk.ex
  exact .inr ⟨ea, C, dx, vs, sl, hh, h2, List.mem_singleton.mpr rfl⟩
theorem fn_ofM {P : Program} {w : World} {K : PySem.W.Frag} {mg : Str → Option Value} {base : Heap} {k : Nat} {f : Addr} {name qual : Str} {params : Arguments} {body : List Stmt} {scope : Scope} {dV kV doc pm cdv ct oc : Value} {an od : Option Addr} {ea C : Addr} {dx : Option Addr} {ob : Obj}
    {osl : Array (Option Value)} {N ps : List Str} {sp : Sp} (mk : MkO C dx ob) (lk : K.lookup f = some ⟨oc, od, .func (PySem.W.fnOf name qual params body scope dV kV doc pm an cdv ct), osl⟩) (hcd : PySem.W.codeIn K cdv qual = true) (S : FnScope N ps scope)
    (len : ∀ vs H Q E, sp vs H Q E → vs.length = ps.length)
    (hbody : ∀ (A : Around) (outer : List Env) (s : Shared) (H : Hp) (vs : List V) (Q : VK), RoomM k (A.deeper (envOfC qual scope s.heap.objs.size f cdv)) → Calm (cxM P w K mg base N qual scope f cdv A outer s H ea ob) → A.handled = some (.ref ea) → sp vs H Q E0 →
      ∃ t, PSs (cxM P w K mg base N qual scope f cdv A outer s H ea ob) body t ∧ t { nx := fun _ H' => Q .non H', rt := Q } (start N vs) H) :
    FnOkM P w K mg base ea ob (k + 1) f (PySem.W.fnOf name qual params body scope dV kV doc pm an cdv ct) ps sp := by
  refine ⟨len, fun A outer s H args us vs Q hr hh hea hne hnf e0 hb r hsp => ?_⟩
  have hl := len _ _ _ _ hsp
  have KX : K.In s.heap := e0.mod.kin.keeps fun b o e => (e0.bs b o e).1
  have lim : s.heap.NoLimit := e0.mod.nolimit.keeps fun b o e => (e0.bs b o e).1
  refine codeAny_call_function hr.depth (KX _ _ lk) rfl S.co S.gen rfl (PySem.W.codeRec_of KX hcd) (hb _ _ _ _ ?_)
  refine wpAny_newFunctionEnv_cells S.kind (fun ⟨n, v⟩ hy => ?_) fun env he s1 x => ?_
  · rcases S.par n (List.of_mem_zip hy).1 with q | q
    · exact .inl q
    · exact .inr ⟨q, PySem.W.cellsFrom_some _ _ _ (.inl q)⟩
  subst he
  refine ⟨lim.keeps x.toInCall.keep, codeAny_func ?_⟩
  obtain ⟨t, ht, hq⟩ := hbody A outer s H vs Q (hr.deeper _) (calm_m mk hh) hh hsp
  have e1 : Env0 P w K mg base { A with handled := none } outer s H := ⟨e0.frames, e0.mod, e0.bs, e0.bsz, e0.funs, e0.frf, e0.hok, e0.bare⟩
  have I0 : Inv (cxOf CX0 P w K mg base N qual scope f cdv { A with handled := none } outer s H E0) [] (start N vs) H s1 := inv_start S rfl e1 hl r x
  have I : Inv (cxM P w K mg base N qual scope f cdv A outer s H ea ob) [] (start N vs) H s1 := by
    refine ⟨⟨I0.ok.mod, I0.ok.kind, I0.ok.glob, I0.ok.blt, I0.ok.above, I0.ok.inj, I0.ok.has, I0.ok.cab, (fun z => nomatch z), Around.frames_deeper e0.frames, I0.ok.stk, I0.ok.exf, I0.ok.bs, I0.ok.bsz, I0.ok.noex, I0.ok.exfs, I0.ok.funs, I0.ok.frf⟩, I0.os, I0.bare, I0.base, I0.loc, I0.cell, I0.free, I0.freeC, fun p hp => ?_, I0.hok, I0.len⟩
    obtain rfl : p = (ea, ob) := by simpa [cxM] using hp
    obtain ⟨vs', sl, rfl, _⟩ := mk.ex
    exact ⟨x.toInCall.keep _ _ hea, hne, Nat.ne_of_lt (Heap.lt_size hea), hnf, fun v z => by cases z⟩
  refine wpAny_mono (ht [] s1 (start N vs) H _ I hq) (fun fl s' hs => ?_) fun e s' hs => hs.elim
  cases fl with
  | ret u =>
    obtain ⟨v, σ', H', J, rv, q⟩ := hs
    exact ⟨v, H', J.os, J.bare, J.base, J.hok, rv, q⟩
  | next =>
    obtain ⟨σ', H', J, q⟩ := hs
    exact ⟨.non, H', J.os, J.bare, J.base, J.hok, rfl, q⟩
  | brk =>
    obtain ⟨_, _, _, q⟩ := hs
    exact q.elim
  | cont =>
    obtain ⟨_, _, _, q⟩ := hs
    exact q.elim
section
variable {P : Program} {w : World} {K : PySem.W.Frag} {mg : Str → Option Value} {base : Heap} {x qual : Str} {st : Stmt} {f : Addr} {fd : FuncData} {N ps : List Str} {k : Nat} {sp : Sp}
theorem Fun.okR (F : Fun K x qual st f fd) (S : FnScope N ps (defScope st)) (len : ∀ vs H Q E, sp vs H Q E → vs.length = ps.length)
    (hbody : ∀ (cdv : Value) (A : Around) (outer : List Env) (s : Shared) (H : Hp) (vs : List V) (Q : VK) (E : XK), Room k (A.deeper (envOfC qual (defScope st) s.heap.objs.size f cdv)) → sp vs H Q E →
      ∃ t, PSs (cxOf (CXE P w) P w K mg base N qual (defScope st) f cdv A outer s H E) (defBody st) t ∧ t { nx := fun _ H' => Q .non H', rt := Q } (start N vs) H) : FnOk P w K mg base (CXE P w) (k + 1) f fd ps sp := by
  obtain ⟨oc, od, kV, doc, pm, an, cdv, ct, osl, rfl, lk, hcd⟩ := F.ex
  exact fn_of lk hcd S len fun A outer s H vs Q E hr hsp => hbody cdv A outer s H vs Q E hr hsp
theorem Fun.okM {ea C : Addr} {dx : Option Addr} {ob : Obj} (F : Fun K x qual st f fd) (mk : MkO C dx ob) (S : FnScope N ps (defScope st)) (len : ∀ vs H Q E, sp vs H Q E → vs.length = ps.length)
    (hbody : ∀ (cdv : Value) (A : Around) (outer : List Env) (s : Shared) (H : Hp) (vs : List V) (Q : VK), RoomM k (A.deeper (envOfC qual (defScope st) s.heap.objs.size f cdv)) → Calm (cxM P w K mg base N qual (defScope st) f cdv A outer s H ea ob) → A.handled = some (.ref ea) → sp vs H Q E0 →
      ∃ t, PSs (cxM P w K mg base N qual (defScope st) f cdv A outer s H ea ob) (defBody st) t ∧ t { nx := fun _ H' => Q .non H', rt := Q } (start N vs) H) : FnOkM P w K mg base ea ob (k + 1) f fd ps sp := by
  obtain ⟨oc, od, kV, doc, pm, an, cdv, ct, osl, rfl, lk, hcd⟩ := F.ex
  exact fn_ofM mk lk hcd S len fun A outer s H vs Q hr hc hh hsp => hbody cdv A outer s H vs Q hr hc hh hsp
end
theorem cxKm {P : Program} {w : World} {K : PySem.W.Frag} {mg : Str → Option Value} {base : Heap} {N : List Str} {qual : Str} {scope : Scope} {f : Addr} {cd : Value} {A : Around} {outer : List Env} {s : Shared} {H : Hp} {ea : Addr} {ob : Obj} : (cxM P w K mg base N qual scope f cd A outer s H ea ob).K = K := rfl
theorem cxKs {X : Cx} {pins : List (Addr × Obj)} {ea : Addr} {ob : Obj} : (cxSuite X pins ea ob).K = X.K := rfl
theorem cxKt {X : Cx} {pins : List (Addr × Obj)} {E : Value → Shared → Prop} : (cxTry X pins E).K = X.K := rfl
structure Mkd (X : Cx) (ea : Addr) (ob : Obj) : Prop where
  hd : X.A.handled = some (.ref ea)
  pin : (ea, ob) ∈ X.pn
theorem mkd_suite {X : Cx} {pins : List (Addr × Obj)} {ea : Addr} {ob : Obj} : Mkd (cxSuite X pins ea ob) ea ob := ⟨rfl, List.mem_append_right _ (List.mem_singleton.mpr rfl)⟩
theorem mkd_m {P : Program} {w : World} {K : PySem.W.Frag} {mg : Str → Option Value} {base : Heap} {N : List Str} {qual : Str} {scope : Scope} {f : Addr} {cd : Value} {A : Around} {outer : List Env} {s : Shared} {H : Hp} {ea : Addr} {ob : Obj} (hh : A.handled = some (.ref ea)) : Mkd (cxM P w K mg base N qual scope f cd A outer s H ea ob) ea ob := ⟨hh, List.mem_singleton.mpr rfl⟩
section
variable {X : Cx} {k : Nat} {f C : Addr} {fd : FuncData} {ps : List Str} {sp : Sp} {ea : Addr} {ob : Obj} {x m : Str} {p pos apos : Pos} {e o : Expr} {es : List Expr} {ta : TE} {t : TA}
theorem run_fnM {pins : List (Addr × Obj)} {σ : St} {H : Hp} {s : Shared} {Q : VK} {us : List Value} {vs : List V} (F : FnOkM X.prog X.w X.K X.mg X.base ea ob k f fd ps sp) (mk : Mkd X ea ob) (hr : RoomM k X.A) (hb : Binds X.K fd ps [])
    (I : Inv X pins σ H s) (r : Vals vs us) (h : sp vs H Q E0) : wpAny (model X.prog X.w) X.A (call (.ref f) us) (EP X pins σ Q) X.xe s := by
  have hl : (us ++ []).length = ps.length := by rw [List.append_nil, ← r.length]; exact F.len _ _ _ _ h
  obtain ⟨p1, p2, p3, p4, _⟩ := I.pin _ (List.mem_append_left _ mk.pin)
  have hb' := hb s us I.kIn hl
  rw [List.append_nil] at hb'
  refine wpAny_call (codeAny_mono (F.run X.A X.stack s H ⟨us, []⟩ us vs Q hr mk.hd p1 p2 (fun z => (List.mem_cons.mp (I.stkSub _ z)).elim p3 p4) I.env0 hb' r h) fun r s' hq => ?_)
  cases r with
  | error e => exact hq.elim
  | ok fl => cases fl with
    | ret u => exact I.after hq
    | next => exact hq.elim
    | brk => exact hq.elim
    | cont => exact hq.elim
theorem pe_callM (F : FnOkM X.prog X.w X.K X.mg X.base ea ob k f fd ps sp) (mk : Mkd X ea ob) (hr : RoomM k X.A) (hg : Gl X x) (hm : X.mg x = some (.ref f)) (hk : PySem.W.keepIn X.K (.ref f) = true) (hb : Binds X.K fd ps [])
    (ha : PA X (e :: es) t) (hdb : (x == ("__debug__" : Str)) = false := by decide) (he : starEach (e :: es) X.env = (false, eval e X.env) :: starEach es X.env := by rfl) (hpl : (backTo pos (starEach es X.env)).any (·.1) = false := by rfl) :
    PE X (.Call (.Name x p) (e :: es) [] pos) (tCall sp [] E0 t) := by
  intro pins s σ H Q I h
  refine wpAny_Call_Name_kw (ld_glob I hg hm ?_ hdb)
  exact PySem.W.callWith_K (h₀ := X.base) I.ok.mod.kin hk (thn (ha pos pins s σ H _ I h) fun us s1 ⟨vs, H1, I1, r, q⟩ => ⟨I1.kIn, run_fnM F mk hr hb I1 r (by simpa only [List.append_nil] using q)⟩) he hpl
end
end L2
set_option Elab.async false
set_option linter.all false
set_option maxRecDepth 100000
namespace L2
open PySem PySem.Spec PyProof.Rows PySem.W
section
variable {prog : Program} {w : World} {A : Around} {E : Value → Shared → Prop} {s : Shared} {K : Frag} {x D : Addr} {ox : Obj} {od : Option Obj} {name : Str}
structure ErrA (K : Frag) (D : Addr) : Prop where
  ga : findIn K (.ref D) "__getattribute__" = some (some (.builtin "BaseException.__getattribute__"))
  gn : findIn K (.ref D) "__getattr__" = some none
  bx : mroIn K D (.type "BaseException") = some true
theorem check_ga {M : Model} {nameV : Value} {Q : Unit → Shared → Prop} (X : K.In s.heap) (I : InstAt s.heap x ox D od) (er : ErrA K D) (q : Q () s) : wpAny M A (checkBuiltinCall "BaseException.__getattribute__" ⟨[.ref x, nameV], []⟩) Q E s := by
  obtain ⟨h, g, d, t, os⟩ := s
  have hk : builtinKind "BaseException.__getattribute__" = some .slot := by decide +kernel
  have hsplit : splitId "BaseException.__getattribute__" = some ("BaseException", "__getattribute__") := by decide +kernel
  have ha := F.args_bexc_ga (.ref x) nameV
  have L0 := I.type (M := M)
  have L1 := looks_mroIn (M := M) X er.bx
  have LI : Looks M h (isInstance (.ref x) (.type "BaseException")) true := L0.andThen L1
  simp only [checkBuiltinCall, hk, hsplit]
  refine wpAny_bind (LI.at ?_)
  repeat (any_goals (first | assumption | wp_step))
theorem exc_called {tk : Tok} {Q : Value → Shared → Prop} (X : K.In s.heap) (I : InstAt s.heap x ox D od) (er : ErrA K D)
    (h : wpAny (model prog w) A.in1 (Builtin.«object.__getattribute__» ⟨[.ref x, .str name tk], []⟩) (fun fin s' => match fin with | .done (.ret v) => Q v s' | _ => False) (fun _ _ => False) s) :
    wpAny (model prog w) A (boundAndCalled (.builtin "BaseException.__getattribute__") (.ref x) (.str name tk)) Q E s := by
  have f3 := F.excAttr_ValueError.ga.bind (.ref x)
  unfold boundAndCalled
  rw [f3]
  refine wpAny_bind (wpAny_pure ?_)
  refine wpAny_call (codeAny_call_builtin F.excAttr_ValueError.ga.plain F.entry_bexc_ga (check_ga X I er (wpAny_mono h (fun fin s' z => ?_) fun _ _ z => z.elim)))
  rcases fin with (_ | _ | _ | _) | _ <;> first | exact z | exact z.elim
theorem exc_attr {tk : Tok} {fill expr : Bool} {Q : Value → Shared → Prop} (X : K.In s.heap) (I : InstAt s.heap x ox D od) (er : ErrA K D)
    (h : wpAny (model prog w) A.in1 (Builtin.«object.__getattribute__» ⟨[.ref x, .str name tk], []⟩) (fun fin s' => match fin with | .done (.ret v) => wpAny (model prog w) A (handedOut v) Q E s' | _ => False) (fun _ _ => False) s) :
    wpAny (model prog w) A (getAttrBy (.ref x) (.str name tk) fill expr) Q E s := by
  have L0 := I.type (M := model prog w)
  have L1 := looks_findIn (M := model prog w) X er.ga
  have L2 := looks_findIn (M := model prog w) X er.gn
  unfold getAttrBy
  refine wpAny_holding (wpAny_bind (L0.here (wpAny_bind (L1.here ?_))))
  have hx2 : (Value.builtin "BaseException.__getattribute__" == Value.builtin "object.__getattribute__") = false := by decide +kernel
  dsimp only
  rw [if_neg (by rw [hx2, Bool.and_false]; exact Bool.false_ne_true)]
  unfold getAttrByItsOwn hookBefore
  rw [if_pos (show onTheHeap (.ref D) = true from rfl)]
  refine wpAny_bind (L2.here ?_)
  refine wpAny_bind (wpAny_attempt (wpAny_holding ?_))
  unfold callGetattribute
  rw [if_neg (by cases expr <;> exact Bool.false_ne_true)]
  exact exc_called X I er h
theorem exc_class (hc : (clsIn K D).isSome = true) (ha : findIn K (.ref D) "__class__" = some (some (.builtin "object.__class__")))
    (hn : specialIn K (.builtin "object.__class__") "__get__" = some (some (.builtin "getset_descriptor.__get__"))) (htk : takesIn K (.builtin "object.__class__") = some true) (hm : mroIn K D (.type "object") = some true)
    {Q : Option Value → Shared → Prop} (X : K.In s.heap) (I : InstAt s.heap x ox D od) (er : ErrA K D) (h : Q (some (.ref D)) { s with toks := s.toks + 1 }) : wpAny (model prog w) A (getAttr? (.ref x) "__class__") Q E s := by
  have hf : findObj K D od "__class__" = some (.bind (.builtin "getset_descriptor.__get__") (.builtin "object.__class__")) := by
    obtain ⟨cd, hc⟩ := Option.isSome_iff_exists.mp hc
    unfold findObj
    rw [hc, Option.bind_some, ha, Option.bind_some]
    simp [hn, htk]
  have L0 := I.type (M := model prog w)
  have L1 := looks_find (M := model prog w) X I hf
  unfold getAttr? getAttrBy?
  refine wpAny_bind (wpAny_mkText (wpAny_bind (wpAny_attempt (exc_attr (s := { s with toks := s.toks + 1 }) X I er ?_))))
  refine wpAny_bind (wpAny_pure (wpAny_bind (wpAny_pure (wpAny_bind (L0.here (s := { s with toks := s.toks + 1 }) (wpAny_bind (L1.here (s := { s with toks := s.toks + 1 }) ?_)))))))
  show wpAny _ _ (holding [Value.builtin "object.__class__"] (call (.builtin "getset_descriptor.__get__") [.builtin "object.__class__", .ref x, .ref D]) >>= ret) _ _ _
  refine wpAny_bind (wpAny_holding (wpAny_call (class_get (s := { s with toks := s.toks + 1 }) (ox := ox) (od := od) X I hm ?_)))
  exact wpAny_pure (handed_on rfl (wpAny_pure h))
theorem kitx_exc (hc : (clsIn K D).isSome = true) (ha : findIn K (.ref D) "__class__" = some (some (.builtin "object.__class__")))
    (hn : specialIn K (.builtin "object.__class__") "__get__" = some (some (.builtin "getset_descriptor.__get__"))) (htk : takesIn K (.builtin "object.__class__") = some true) (hm : mroIn K D (.type "object") = some true) (er : ErrA K D) :
    KitX K (.ref x) (.ref D) (fun h => ∃ ox od, InstAt h x ox D od) where
  ty := fun _ _ _ ⟨_, _, I⟩ => I.type
  it := fun _ _ X _ => by
    obtain ⟨cd, hcD⟩ := Option.isSome_iff_exists.mp hc
    unfold clsIn at hcD
    split at hcD
    · rename_i ho
      intro A' Q' E' s' k q
      unfold isType loadHead
      exact wpAny_bind (wpAny_loadPart (k _ _ (X _ _ ho)) (wpAny_pure q))
    · cases hcD
  ne := fun h tp dd its n sl X htp => by
    obtain ⟨cd, hcD⟩ := Option.isSome_iff_exists.mp hc
    refine Bool.eq_false_iff.mpr fun q => ?_
    have e : D = tp := Value.ref.inj (beq_iff_eq.mp q)
    subst e
    unfold clsIn at hcD
    split at hcD
    · rename_i ho
      have z := (X _ _ ho).symm.trans htp
      cases z
    · cases hcD
  ca := fun X ⟨_, _, I⟩ k => exc_class hc ha hn htk hm X I er k
end
structure ErrK (K : Frag) (D : Addr) : Prop extends ErrA K D where
  cl : (clsIn K D).isSome = true
  ca : findIn K (.ref D) "__class__" = some (some (.builtin "object.__class__"))
  cg : specialIn K (.builtin "object.__class__") "__get__" = some (some (.builtin "getset_descriptor.__get__"))
  ct : takesIn K (.builtin "object.__class__") = some true
  cm : mroIn K D (.type "object") = some true
def clsV : V → Option Value
  | .ref a => some (.ref a)
  | .ty n => some (.type n)
  | _ => none
theorem clsV_rel {c : V} {v u : Value} (h : clsV c = some v) (r : RelV c u) : u = v := by
  cases c <;> simp only [clsV] at h <;> cases h <;> exact r
section
variable {X : Cx} {ea C : Addr} {dx : Option Addr} {ob : Obj}
theorem call_isinstE (mk : Mkd X ea ob) (mo : MkO C none ob) (er : ErrK X.K C) : CallR X (.builtin "isinstance") (fun xs H Q => ∃ c v b, xs = [.ref ea, c] ∧ clsV c = some v ∧ kitOne X.K (.ref C) v = some b ∧ Q (.bl b) H) := by
  intro pins s σ H xs us Q I r h
  obtain ⟨c, v, b, rfl, hv, e, q⟩ := h
  obtain ⟨u1, u2, rfl, r1, r2⟩ := vals2 r
  cases (show u1 = Value.ref ea from r1)
  cases clsV_rel hv r2
  obtain ⟨p1, _⟩ := I.pin _ (List.mem_append_left _ mk.pin)
  obtain ⟨vs, sl, rfl, _⟩ := mo.ex
  exact kia_one (kitx_exc er.cl er.ca er.cg er.ct er.cm er.toErrA) I.kIn ⟨_, none, ⟨p1, rfl, rfl, True.intro⟩⟩ e (fun z => nomatch z) fun tk => ⟨.bl b, H, I.tok _, rfl, q⟩
end
end L2
set_option Elab.async false
set_option linter.all false
set_option maxRecDepth 100000
namespace L2
open PySem PySem.Spec PyProof.Rows PySem.Builtin PySem.Builtin.Str PySem.Builtin.Int
structure FunD (K : PySem.W.Frag) (x qual : Str) (st : Stmt) (f : Addr) (fd : FuncData) (items : Array Value) : Prop where
  ex : ∃ (oc : Value) (od : Option Addr) (kV doc pm : Value) (an : Option Addr) (cdv ct : Value) (osl : Array (Option Value)) (T : Addr) (oT : Obj) (n : Nat),
    fd = PySem.W.fnOf x qual (defArgs st) (defBody st) (defScope st) (.ref T) kV doc pm an cdv ct ∧ K.lookup f = some ⟨oc, od, .func fd, osl⟩ ∧ PySem.W.codeIn K cdv qual = true ∧ K.lookup T = some oT ∧ oT.data = .seq items n
  kp : PySem.W.keepIn K (.ref f) = true
section
variable {P : Program} {w : World} {K : PySem.W.Frag} {mg : Str → Option Value} {base : Heap} {x qual : Str} {st : Stmt} {f : Addr} {fd : FuncData} {items : Array Value} {N ps : List Str} {k : Nat} {sp : Sp}
theorem FunD.okR (F : FunD K x qual st f fd items) (S : FnScope N ps (defScope st)) (len : ∀ vs H Q E, sp vs H Q E → vs.length = ps.length)
    (hbody : ∀ (cdv : Value) (A : Around) (outer : List Env) (s : Shared) (H : Hp) (vs : List V) (Q : VK) (E : XK), Room k (A.deeper (envOfC qual (defScope st) s.heap.objs.size f cdv)) → sp vs H Q E →
      ∃ t, PSs (cxOf (CXE P w) P w K mg base N qual (defScope st) f cdv A outer s H E) (defBody st) t ∧ t { nx := fun _ H' => Q .non H', rt := Q } (start N vs) H) : FnOk P w K mg base (CXE P w) (k + 1) f fd ps sp := by
  obtain ⟨oc, od, kV, doc, pm, an, cdv, ct, osl, T, oT, n, rfl, lk, hcd, _⟩ := F.ex
  exact fn_of lk hcd S len fun A outer s H vs Q E hr hsp => hbody cdv A outer s H vs Q E hr hsp
theorem FunD.ok (F : FunD K x qual st f fd items) (S : FnScope N ps (defScope st)) (len : ∀ vs H Q E, sp vs H Q E → vs.length = ps.length)
    (hbody : ∀ (cdv : Value) (A : Around) (outer : List Env) (s : Shared) (H : Hp) (vs : List V) (Q : VK) (E : XK), Room k (A.deeper (envOfC qual (defScope st) s.heap.objs.size f cdv)) → sp vs H Q E →
      ∃ t, PSs (cxOf CX0 P w K mg base N qual (defScope st) f cdv A outer s H E).nox (defBody st) t ∧ t { nx := fun _ H' => Q .non H', rt := Q } (start N vs) H) : FnOk P w K mg base CX0 (k + 1) f fd ps sp := by
  obtain ⟨oc, od, kV, doc, pm, an, cdv, ct, osl, T, oT, n, rfl, lk, hcd, _⟩ := F.ex
  refine fn_of lk hcd S len fun A outer s H vs Q E hr hsp => ?_
  obtain ⟨t, h, q⟩ := hbody cdv A outer s H vs Q E hr hsp
  exact ⟨t, h.nox, q⟩
theorem FunD.binds {ds : List Value} (F : FunD K x qual st f fd items)
    (h : ∀ (T : Addr) (kV doc pm : Value) (an : Option Addr) (cdv ct : Value) (us : List Value), (us ++ ds).length = ps.length → ∃ k : Option (Array Value) → Sem (List (Str × Value)),
      bindArgs (PySem.W.fnOf x qual (defArgs st) (defBody st) (defScope st) (.ref T) kV doc pm an cdv ct) ⟨us, []⟩ = (seqItems? (.ref T) >>= k) ∧ k (some items) = pure (ps.zip (us ++ ds))) : Binds K fd ps ds := by
  obtain ⟨oc, od, kV, doc, pm, an, cdv, ct, osl, T, oT, n, rfl, lk, hcd, hT, hd⟩ := F.ex
  intro s us KX hl
  obtain ⟨k, h1, h2⟩ := h T kV doc pm an cdv ct us hl
  exact .of_defaults (k := k) rfl (KX _ _ hT) hd h1 h2
end
structure Disp (X : Cx) (m : Str) (k : Nat) (ps : List Str) (e : Addr × Sp) : Prop where
  cl : Cls X.K e.1
  ex : ∃ f fd, Meth X.K e.1 m f ∧ FnOk X.prog X.w X.K X.mg X.base CX0 k f fd ps e.2 ∧ Binds X.K fd ps []
theorem disp_nil {X : Cx} {m : Str} {k : Nat} {ps : List Str} : ∀ e ∈ ([] : List (Addr × Sp)), Disp X m k ps e := fun e h => nomatch h
theorem disp_cons {X : Cx} {m : Str} {k j : Nat} {ps : List Str} {C f : Addr} {fd : FuncData} {sp : Sp} {tab : List (Addr × Sp)} (cl : Cls X.K C) (hm : Meth X.K C m f) (F : FnOk X.prog X.w X.K X.mg X.base CX0 j f fd ps sp) (hj : j ≤ k) (hb : Binds X.K fd ps []) (r : ∀ e ∈ tab, Disp X m k ps e) : ∀ e ∈ (C, sp) :: tab, Disp X m k ps e :=
  fun e h => (List.mem_cons.mp h).elim (fun z => by rw [z]; exact ⟨cl, f, fd, hm, F.mono hj, hb⟩) (r e)
def tMethV (tab : List (Addr × Sp)) (m : Str) (ta : TE) (t : TA) : TE := fun σ H Q => ta σ H fun x H1 => ∃ a dx fs e, e ∈ tab ∧ x = .ref a ∧ H1 a = some (.ins e.1 dx fs) ∧ fs.lookup m = none ∧ t σ H1 fun vs H2 => e.2 (x :: vs) H2 Q E0
section
variable {X : Cx} {k : Nat} {ps : List Str} {tab : List (Addr × Sp)} {m : Str} {pos apos : Pos} {e o : Expr} {es : List Expr} {ta : TE} {t : TA}
theorem pe_methV {pl : Sem Bool} (he : PE X o ta) (D : ∀ e ∈ tab, Disp X m k ps e) (hr : Room k X.A) (ha : PA X (e :: es) t)
    (hst : starEach (e :: es) X.env = (false, eval e X.env) :: starEach es X.env := by rfl) (hpl : (backTo pos (starEach es X.env)).any (·.1) = false := by rfl)
    (ht : eval (.Call (.Attribute o m apos) (e :: es) [] pos) X.env = (eval o X.env >>= fun ov => standAt apos.atName >>= fun _ => holding [ov] (getMethod ov m pl) >>= fun r => callWith pos r.1 r.2 (backTo pos (starEach (e :: es) X.env)) (backToKw pos (keywordEach [] X.env))) := by rfl) :
    PE X (.Call (.Attribute o m apos) (e :: es) [] pos) (tMethV tab m ta t) := by
  intro pins s σ H Q I h
  refine PySem.W.methodCall_KW (pl := pl) (thn (he pins s σ H _ I h) fun u s1 ⟨x, H1, I1, rx, a, dx, fs, C, hC, ex, ea, l, q⟩ => ?_) ht
  subst ex
  cases (show u = Value.ref a from rx)
  obtain ⟨c, f, fd, hm, F, hb⟩ := D C hC
  refine getmeth_ok I1 ea c hm l ?_
  exact PySem.W.callWith_K (first := [.ref a]) (h₀ := X.base) I.ok.mod.kin hm.kp (thn (ha pos pins s1 σ H1 _ I1 q) fun us s2 ⟨vs, H2, I2, r, q2⟩ => ⟨I2.kIn, run_fn (us := .ref a :: us) (vs := .ref a :: vs) (dvs := []) (ds := []) F hr hb .nil pass0 I2 (.cons rfl r) (by simpa only [List.append_nil] using q2)⟩) hst hpl
end
theorem hu1 {n : Nat} (h : n + 64 < cLine) : n + 1 < cLine := by omega
end L2
set_option Elab.async false
set_option linter.all false
set_option maxRecDepth 100000
namespace L2
open PySem PySem.Spec PyProof.Rows
section
variable {prog : Program} {w : World} {K : Type} [DecidableEq K] {knd : HeapKind prog w K} {A : Around} {E : Value → Shared → Prop} {s : Shared}
end
section
variable {prog : Program} {w : World} {K : Type} [DecidableEq K] {knd : HeapKind prog w K} {A : Around} {E : Value → Shared → Prop} {s : Shared}
end
section
variable {prog : Program} {w : World} {A : Around} {E : Value → Shared → Prop} {s : Shared}
end
section
variable {X : Cx} {pins : List (Addr × Obj)} {σ : St} {H : Hp} {s : Shared} {a : Addr}
end
section
variable {prog : Program} {w : World} {d : Addr}
end
end L2
set_option Elab.async false
set_option linter.all false
set_option maxRecDepth 100000
namespace L2
open PySem PySem.Spec PyProof.Rows
theorem ints_of : ∀ {ns : List Int} {us : List Value}, Vals (ns.map V.int) us → ∃ xs : List (Int × Tok), us = xs.map (fun p => Value.int p.1 p.2) ∧ xs.map (·.1) = ns
  | [], _, r => by rw [List.map_nil] at r; cases r; exact ⟨[], rfl, rfl⟩
  | n :: ns, _, r => by
    rw [List.map_cons] at r
    cases r with
    | cons h t =>
      obtain ⟨u, rfl⟩ := h
      obtain ⟨xs, rfl, e⟩ := ints_of t
      exact ⟨(n, u) :: xs, rfl, by rw [List.map_cons, e]⟩
theorem numAt_getD (xs : List (Int × Tok)) (i : Nat) : numAt xs.toArray i = (xs.map (·.1)).getD i 0 := by
  unfold numAt
  rw [List.getD_eq_getElem?_getD, List.getElem?_map]
  simp
section
variable {X : Cx}
theorem call_minL (hc : X.calm = true) : CallR X (.builtin "min") (fun xs H Q => ∃ p ns, xs = [.ref p] ∧ SqL X.K H p (ns.map V.int) ∧ ns ≠ [] ∧ ∀ m : Int, m ∈ ns → (∀ a ∈ ns, m ≤ a) → Q (.int m) H) := by
  intro pins s σ H xs us Q I r h
  obtain ⟨p, ns, rfl, hq, hne, q⟩ := h
  obtain ⟨u, rfl, rx⟩ := vals1 r
  cases rx
  obtain ⟨its, r', pl, hz⟩ := I.list hq
  obtain ⟨ps, rfl, rfl⟩ := ints_of r'
  have hl : s.heap.IsList p (intItems ps.toArray) := by
    have := pl.isList
    simpa [intItems] using this
  have hsz : 0 < ps.toArray.size := by
    cases ps with
    | nil => exact absurd rfl hne
    | cons a b => simp
  refine min_intList (I.ok.hd hc) hl hsz fun v h' tk hv hk => ?_
  obtain ⟨t, rfl⟩ := intItems_at hv
  obtain ⟨h1, h2⟩ := argBest_lt (numAt ps.toArray) (ps.toArray.size - 1)
  have lt : ∀ {i : Nat}, i ≤ ps.toArray.size - 1 → i < (ps.map (·.1)).length := fun {i} h => by rw [List.length_map]; simp only [List.size_toArray] at h hsz; omega
  refine ⟨.int _, H, I.kept (t' := tk) hk, ⟨t, rfl⟩, q _ ?_ fun a ha => ?_⟩
  · rw [numAt_getD]
    exact getD_mem (lt h1)
  · obtain ⟨j, hj, rfl⟩ := mem_getD ha
    rw [← numAt_getD]
    exact h2 j (by rw [List.length_map] at hj; simp only [List.size_toArray]; omega)
end
end L2
set_option Elab.async false
set_option linter.all false
set_option maxRecDepth 100000
namespace L2
open PySem PySem.Spec PyProof.Rows
theorem getAttrQ_miss_list {prog : Program} {w : World} {A : Around} {E : Value → Shared → Prop} {s : Shared} {a : Addr} {o : Obj} {xs : Array Value} {k : Nat} {name : Str} {Q : Option Value → Shared → Prop}
    (hx : s.heap.get? a = some o) (hc : o.cls = .type "list") (hdat : o.data = .seq xs k) (hd : o.dict = none) (hmiss : typeLookup (.type "list") name = pure none) (hname : (["__module__", "__name__", "__qualname__", "__doc__", "__annotations__"] : List Str).contains name = false) (hA : A.handled = none)
    (h : ∀ h' tk e, Heap.NewExcOf s.heap h' e "AttributeError" → Q none { s with heap := h', toks := tk }) (hsz : name.length + 100 ≤ sizeLine := by size_fits) :
    wpAny (model prog w) A (getAttr? (.ref a) name) Q E s := by
  obtain ⟨c, dct, dat, sl⟩ := o
  simp only at hc hdat hd
  subst hc hdat hd
  obtain ⟨hp, g, d, tk, os⟩ := s
  have hT : ∀ tk', (⟨hp, g, d, tk', os⟩ : Shared).TypeIs (.ref a) "list" := fun _ => ⟨_, hx, rfl⟩
  have f1 := sub_AttributeError
  have f3 := F.slot_list_getattribute.lookup
  have f4 := F.slot_list_getattribute.bind (.ref a)
  have f5 := am_list_getattr_none
  unfold getAttr? getAttrBy? getAttrBy
  repeat (any_goals (first | assumption | exact hT _ | ((with_reducible show wpAny _ _ (call (Value.builtin "list.__getattribute__") _ _) _ _ _); refine call_meets F.slot_list_getattribute (hT _) am_entry_list_getattribute (F.args_list_getattribute_2 _ _) (meets_getattribute_miss_list a xs k sl name _ hmiss hname hsz) ⟨hx, hA, fun h' tk' e hx' => ?_⟩) | wp_step))
  obtain ⟨t', u', he⟩ := hx'.there
  show wpAny _ _ (getattributeRaised _ _ _ _ _ _ _) _ _ _
  unfold getattributeRaised
  repeat (any_goals (first | assumption | wp_step))
  exact h _ _ _ hx'.of
theorem plain_upd_loop : plainId "dict.update.loop" = true := by decide +kernel
theorem entry_upd_loop : entryFor table "dict.update.loop" = some Builtin.«dict.update.loop» := entryFor_of_tree (by kernel_rfl)
section
variable {prog : Program} {w : World} {K : Type} [DecidableEq K] {knd : KeyKind prog w K} {A : Around} {R : Result → Shared → Prop}
def PairH (knd : KeyKind prog w K) (h : Heap) (t : Addr) (p : K × Value) : Prop := ∃ u, h.IsTuple t #[u, p.2] ∧ knd.is p.1 u = true
theorem upd_loop {l it d : Addr} {ts : List Addr} {ps : List (K × Value)} (hlen : ts.length = ps.length) (nli : l ≠ it) (nld : l ≠ d) (nid : it ≠ d) (res : Value) (hA : A.handled = none) :
    ∀ (k i : Nat) (s : Shared) (vs : List (K × Value)) (n : Int) (tk : Tok), ts.length - i = k → i ≤ ts.length → s.heap.IsListIter it l i → s.heap.IsList l (ts.map Value.ref).toArray →
      (∀ (j : Nat) (t : Addr) (p : K × Value), ts[j]? = some t → ps[j]? = some p → PairH knd s.heap t p ∧ t ≠ it ∧ t ≠ d) → s.heap.DictOf knd d vs → vs.length + (ts.length - i) ≤ sizeLine →
      (∀ h' tk', h'.DictOf knd d (merged vs (ps.drop i)) → (∀ b o, b ≠ it → b ≠ d → s.heap.get? b = some o → h'.get? b = some o) → R (.ok (.ret res)) { s with heap := h', toks := tk' }) →
      codeAny (model prog w) A (.builtin "dict.update.loop" ⟨[.ref d, .ref it, .int n tk, res], []⟩) R s := by
  intro k
  induction k with
  | zero =>
    intro i s vs n tk hk hi hit hl hp hd hsz hR
    have hin : i = ts.length := by omega
    refine codeAny_builtin entry_upd_loop ?_
    rw [Around.under_plainId plain_upd_loop _]
    show wpAny _ A.in1 (pyNext (.ref it) >>= _) _ _ s
    refine wpAny_bind (wpAny_pyNext_list_end (A := A.in1) hA hit hl (by simp [hin]) fun h' e => ?_)
    show wpAny _ A.in1 (Builtin.Dict.addKeywords d [] >>= _) _ _ _
    refine wpAny_bind (wpAny_pure (wpAny_pure ?_))
    refine hR h' s.toks ?_ fun b o hb _ e' => e b o hb e'
    rw [List.drop_eq_nil_of_le (by omega)]
    obtain ⟨o, es, ep, ho, r⟩ := hd
    exact ⟨o, es, ep, e d o nid.symm ho, by simpa [merged] using r⟩
  | succ k ih =>
    intro i s vs n tk hk hi hit hl hp hd hsz hR
    have hlt : i < ts.length := by omega
    obtain ⟨t, ht⟩ : ∃ t, ts[i]? = some t := ⟨_, List.getElem?_eq_getElem hlt⟩
    obtain ⟨p, hpp⟩ : ∃ p, ps[i]? = some p := ⟨_, List.getElem?_eq_getElem (by omega)⟩
    obtain ⟨⟨u, hT, hu⟩, n1, n2⟩ := hp i t p ht hpp
    refine codeAny_builtin entry_upd_loop ?_
    rw [Around.under_plainId plain_upd_loop _]
    show wpAny _ A.in1 (pyNext (.ref it) >>= _) _ _ s
    refine wpAny_bind (wpAny_pyNext_list_item hit hl (x := .ref t) (by simp [ht]) fun h1 hit1 sb1 => ?_)
    have hT1 : h1.IsTuple t #[u, p.2] := by
      obtain ⟨o, ho, r⟩ := hT
      exact ⟨o, (sb1.2 t n1).trans ho, r⟩
    have hd1 : h1.DictOf knd d vs := by
      obtain ⟨o, es, ep, ho, r⟩ := hd
      exact ⟨o, es, ep, (sb1.2 d nid.symm).trans ho, r⟩
    obtain ⟨o, ho, hc, n', hdat⟩ := id hT1
    show wpAny _ A.in1 (holding [Value.ref t] _ >>= _) _ _ _
    refine wpAny_bind (wpAny_holding (wpAny_bind (wpAny_tryCatch ?_)))
    unfold Builtin.Dict.pairItems
    refine wpAny_bind (wpAny_typeOf ⟨o, ho, hc⟩ ?_)
    rw [if_pos (by decide)]
    refine wpAny_bind (wpAny_seqItems ho hdat (wpAny_pure ?_))
    show wpAny _ A.in1 (holding [u, p.2] (dictSet d u p.2)) _ _ _
    have hsz' : vs.length ≤ sizeLine := by omega
    refine wpAny_holding (wpAny_dictSet_pairs (hsz := hsz') hu hd1 fun h2 hd2 sb2 => ?_)
    refine wpAny_pure ⟨plainId_quiet plain_upd_loop _, ih (i + 1) _ (stored vs p.1 p.2) (n + 1) _ (by omega) (by omega) ?_ ?_ (fun j t' p' h1' h2' => ?_) hd2 ?_ fun h3 tk3 hd3 k3 => ?_⟩
    · obtain ⟨o, ho, r⟩ := hit1
      exact ⟨o, (sb2.2 it nid).trans ho, r⟩
    · obtain ⟨o, ho, r⟩ := hl
      exact ⟨o, (sb2.2 l nld).trans ((sb1.2 l nli).trans ho), r⟩
    · obtain ⟨⟨u', ⟨o, ho, r⟩, hu'⟩, m1, m2⟩ := hp j t' p' h1' h2'
      exact ⟨⟨u', ⟨o, (sb2.2 t' m2).trans ((sb1.2 t' m1).trans ho), r⟩, hu'⟩, m1, m2⟩
    · have := stored_length_le vs p.1 p.2
      omega
    · refine hR h3 tk3 ?_ fun b o hb1 hb2 e => k3 b o hb1 hb2 ((sb2.2 b hb2).trans ((sb1.2 b hb1).trans e))
      rw [List.drop_eq_getElem_cons (show i < ps.length by omega)]
      have ep : ps[i]'(by omega) = p := (List.getElem?_eq_some_iff.mp hpp).2
      rw [ep]
      simpa [merged] using hd3
end
theorem no_keys : typeLookup (.type "list") (Str.ofString "keys") = pure none := by rw [typeLookup_type, builtinLookup_eq_fast]; kernel_rfl
section
variable {prog : Program} {w : World} {K : Type} [DecidableEq K] {knd : KeyKind prog w K} {A : Around} {E : Value → Shared → Prop} {s : Shared}
theorem dict_of_pairs {l : Addr} {ts : List Addr} {ps : List (K × Value)} {Q : Value → Shared → Prop} (hA : A.handled = none) (hlen : ts.length = ps.length) (hl : s.heap.IsList l (ts.map Value.ref).toArray)
    (hlo : ∀ o, s.heap.get? l = some o → o.dict = none) (hp : ∀ (j : Nat) (t : Addr) (p : K × Value), ts[j]? = some t → ps[j]? = some p → PairH knd s.heap t p) (hsz : ps.length ≤ sizeLine)
    (h : ∀ h' tk, h'.DictOf knd s.heap.objs.size (merged [] ps) → (∀ b o, s.heap.get? b = some o → h'.get? b = some o) → Q (.ref s.heap.objs.size) { s with heap := h', toks := tk }) :
    wpAny (model prog w) A (call (.type "dict") [.ref l]) Q E s := by
  refine callType_codes (Q₁ := fun obj s₁ => obj = .ref s.heap.objs.size ∧ s₁ = { s with heap := s.heap.push { cls := .type "dict", data := .dict #[] } }) F.kt_called_dict (F.kt_typeCall_dict_1 _) F.entry_dict_init (kt_code_dict_new _ ⟨rfl, rfl⟩) ?_
  rintro obj s₁ ⟨rfl, rfl⟩
  have hnew : (s.heap.push { cls := .type "dict", data := .dict #[] }).DictOf knd s.heap.objs.size [] := Heap.DictOf.new s.heap
  obtain ⟨o, ho, hc, n, hdat⟩ := id hl
  have ho' := Heap.get?_push_of_some { cls := .type "dict", data := .dict #[] } ho
  refine ⟨hnew.typeIs, F.args_dict_init_2 _ _, ?_⟩
  unfold Builtin.«dict.__init__»
  refine wpAny_bind ?_
  unfold Builtin.Dict.selfAndRest
  refine wpAny_bind (wpAny_notOrdered_dict hnew.typeIs ?_)
  show wpAny _ _ (pure (s.heap.objs.size, [Value.ref l])) _ _ _
  refine wpAny_pure ?_
  show wpAny _ _ (Builtin.Dict.updateFrom "dict.__init__" s.heap.objs.size (.ref l) [] .none) _ _ _
  unfold Builtin.Dict.updateFrom
  refine wpAny_bind (wpAny_typeOf ⟨o, ho', hc⟩ ?_)
  rw [if_pos (by decide)]
  refine wpAny_bind (getAttrQ_miss_list ho' hc hdat (hlo o ho) no_keys (by decide +kernel) hA (fun h1 tk e hx => ?_) (by rw [sizeLine_eq]; decide +kernel))
  have k1 : ∀ b o, s.heap.get? b = some o → h1.get? b = some o := fun b o e' => hx.keeps b o (Heap.get?_push_of_some _ e')
  have hd1 : h1.DictOf knd s.heap.objs.size [] := by
    obtain ⟨o, es, ep, ho, r⟩ := hnew
    exact ⟨o, es, ep, hx.keeps _ _ ho, r⟩
  have hl1 : h1.IsList l (ts.map Value.ref).toArray := ⟨o, k1 _ _ ho, hc, n, hdat⟩
  have dlt : s.heap.objs.size < h1.objs.size := by
    obtain ⟨o, es, ep, ho, r⟩ := hd1
    exact Heap.lt_size ho
  rw [if_pos (show (none : Option Value).isNone = true from rfl)]
  refine wpAny_bind (wpAny_rule (wpAny_bind (wpAny_pyIter_list hl1 ?_)))
  have pk : ∀ b o', h1.get? b = some o' → (h1.push { cls := .type "list_iterator", data := .fields #[.ref l, .int 0 0] }).get? b = some o' := fun b o' e' => Heap.get?_push_of_some _ e'
  refine wpAny_pure ⟨plainId_quiet plain_upd_loop _, upd_loop (knd := knd) (A := A.in1) (ts := ts) (ps := ps) (l := l) (it := h1.objs.size) (d := s.heap.objs.size) hlen (Nat.ne_of_lt (Heap.lt_size (k1 _ _ ho))) (Nat.ne_of_lt (Heap.lt_size ho)) (Nat.ne_of_gt dlt) .none hA ts.length 0 _ [] 0 0 (by omega) (Nat.zero_le _) ⟨_, Heap.get?_push_size _ rfl, rfl, rfl⟩ ⟨o, pk _ _ (k1 _ _ ho), hc, n, hdat⟩ (fun j t p a b => ?_) ?_ (by simp; omega) fun h3 tk3 hd3 k3 => ?_⟩
  · obtain ⟨u, ⟨o', e1, r⟩, hu⟩ := hp j t p a b
    exact ⟨⟨u, ⟨o', pk _ _ (k1 _ _ e1), r⟩, hu⟩, Nat.ne_of_lt (Heap.lt_size (k1 _ _ e1)), Nat.ne_of_lt (Heap.lt_size e1)⟩
  · obtain ⟨o', es, ep, e1, r⟩ := hd1
    exact ⟨o', es, ep, pk _ _ e1, r⟩
  · exact ⟨rfl, h h3 tk3 (by simpa using hd3) fun b o' e' => k3 b o' (Nat.ne_of_lt (Heap.lt_size (k1 _ _ e'))) (Nat.ne_of_lt (Heap.lt_size e')) (pk _ _ (k1 _ _ e'))⟩
end
section
variable {X : Cx}
theorem call_dictP (hc : X.calm = true) : CallR X (.type "dict") (fun xs H Q => ∃ p ts kvs, xs = [.ref p] ∧ H p = some (.lst (ts.map V.ref)) ∧ Paired (fun t (kv : Key × V) => H t = some (.tup [kV kv.1, kv.2])) ts kvs ∧ ∀ d, H d = none → Q (.ref d) (upd H d (.dK (mergeK [] kvs)))) := by
  intro pins s σ H xs us Q I r h
  obtain ⟨p, ts, kvs, rfl, e, pr, q⟩ := h
  obtain ⟨u, rfl, rx⟩ := vals1 r
  cases rx
  obtain ⟨z, its, n, rv, ho⟩ := (show ObjOk X.prog X.w H s.heap p (.lst (ts.map V.ref)) from I.hok p _ e)
  have ei : its = ts.map Value.ref := by
    clear pr ho z e
    induction ts generalizing its with
    | nil => cases rv; rfl
    | cons t ts ih =>
      rw [List.map_cons] at rv
      cases rv with
      | cons a b =>
        cases (show _ = Value.ref t from a)
        rw [ih _ b, List.map_cons]
  subst ei
  have key : ∃ ps : List (Key × Value), KV kvs ps ∧ ∀ (j : Nat) (t : Addr) (p : Key × Value), ts[j]? = some t → ps[j]? = some p → PairH (mixKind X.prog X.w) s.heap t p := by
    clear rv ho z e q
    induction pr with
    | nil => exact ⟨[], .nil, fun j t p a => by simp at a⟩
    | @cons t kv ts kvs hh rr ih =>
      obtain ⟨ps, kp, hp⟩ := ih
      obtain ⟨zz, its, rv, pl⟩ := (show ObjOk X.prog X.w H s.heap t (.tup [kV kv.1, kv.2]) from I.hok t _ hh)
      cases rv with
      | cons a1 r1 =>
        cases r1 with
        | cons a2 r2 =>
          cases r2
          rename_i u1 u2
          refine ⟨(kv.1, u2) :: ps, .cons ⟨rfl, a2⟩ kp, fun j t' p' h1 h2 => ?_⟩
          cases j with
          | zero =>
            cases h1
            cases h2
            exact ⟨u1, pl, kV_is a1⟩
          | succ j => exact hp j t' p' h1 h2
  obtain ⟨ps, kp, hp⟩ := key
  have hl1 := Paired.length pr
  have hl2 := kp.length
  rw [List.length_map] at z
  refine dict_of_pairs (knd := mixKind X.prog X.w) (I.ok.hd hc) (by omega) ⟨_, ho, rfl, n, rfl⟩ (fun o ho2 => by rw [ho] at ho2; cases ho2; rfl) hp (by omega) fun h' tk dd k => ⟨.ref s.heap.objs.size, _, ?_, rfl, q _ (I.hok.fresh (Nat.le_refl _))⟩
  have hz : (mergeK [] kvs).length ≤ sizeLine := by
    have h1 := length_mergeK kvs []
    rw [List.length_nil] at h1
    omega
  exact I.laid (t' := tk) k (Nat.le_refl _) (dk_new hz (beq_eq_false_iff_ne.mpr (Ne.symm (Nat.ne_of_lt I.big))) (kp.merge .nil) dd)
end
end L2
set_option Elab.async false
set_option linter.all false
set_option maxRecDepth 100000
namespace L2
open PySem PySem.Spec PyProof.Rows
end L2
set_option Elab.async false
set_option linter.all false
set_option maxRecDepth 100000
namespace Fl
open PySem L2
def sgOk (c : Nat) : Prop := c = 46 ∨ c = 35 ∨ c = 43 ∨ c = 126 ∨ c = 124
structure Good (w h : Nat) (sg : List Nat) : Prop where
  w0 : 1 ≤ w
  w1 : w ≤ 10
  h0 : 1 ≤ h
  h1 : h ≤ 10
  len : sg.length = w * h
  ok : ∀ c ∈ sg, sgOk c
  cell : ∃ c ∈ sg, c ≠ 35
def txt (cs : List Nat) : Str := ⟨cs.toArray⟩
def lineOf (w : Nat) (sg : List Nat) (j : Nat) : Str := txt ((sg.drop (w * j)).take w)
def linesOf (w h : Nat) (sg : List Nat) : List Str := (List.range h).map (lineOf w sg)
theorem len100 {w h : Nat} {sg : List Nat} (g : Good w h sg) : 1 ≤ sg.length ∧ sg.length ≤ 100 := by
  rw [g.len]
  exact ⟨Nat.mul_le_mul g.w0 g.h0, Nat.mul_le_mul g.w1 g.h1⟩
theorem txt_len (cs : List Nat) : (txt cs).length = cs.length := by simp [txt, Str.length]
theorem txt_list (cs : List Nat) : (txt cs).cps.toList = cs := by simp [txt]
theorem line_in {w h : Nat} {j : Nat} (hj : j < h) : w * j + w ≤ w * h := by
  have := Nat.mul_le_mul_left w (show j + 1 ≤ h from hj)
  rw [Nat.mul_add, Nat.mul_one] at this
  exact this
theorem line_len {w h : Nat} {sg : List Nat} (g : Good w h sg) {j : Nat} (hj : j < h) : (lineOf w sg j).length = w := by
  have := line_in (w := w) hj
  have := g.len
  unfold lineOf
  rw [txt_len, List.length_take, List.length_drop]
  omega
theorem lines_len (w h : Nat) (sg : List Nat) : (linesOf w h sg).length = h := by simp [linesOf]
theorem lines_get {w h : Nat} {sg : List Nat} {j : Nat} (hj : j < h) : (linesOf w h sg)[j]? = some (lineOf w sg j) := by
  simp [linesOf, hj]
theorem flat_lines (w : Nat) (sg : List Nat) : ∀ h : Nat, ((List.range h).map fun j => (sg.drop (w * j)).take w).flatten = sg.take (w * h)
  | 0 => by simp
  | h + 1 => by
    rw [List.range_succ, List.map_append, List.flatten_append, flat_lines w sg h, Nat.mul_add, Nat.mul_one]
    simp [List.take_add]
theorem join_flat : ∀ ys : List Str, (Txt.join (Str.ofString "") ys).cps.toList = (ys.map (·.cps.toList)).flatten := by
  have e : ∀ ys : List Str, (Str.join (Str.ofString "") ys).cps.toList = (ys.map (·.cps.toList)).flatten := by
    intro ys
    have e0 : (Str.ofString "").cps.toList = [] := by decide +kernel
    induction ys with
    | nil => rfl
    | cons x r ih =>
      cases r with
      | nil => simp [Str.join]
      | cons y r =>
        show (x ++ Str.ofString "" ++ Str.join (Str.ofString "") (y :: r)).cps.toList = _
        rw [str_app_list, str_app_list, e0, ih]
        simp
  intro ys
  show (Builtin.Str.glued (Str.ofString "") ys).cps.toList = _
  rw [StrLaws.glued_eq_join, e]
theorem join_lines {w h : Nat} {sg : List Nat} (g : Good w h sg) : Txt.join (Str.ofString "") (linesOf w h sg) = txt sg := by
  refine str_ext ?_
  rw [join_flat, txt_list]
  unfold linesOf
  rw [List.map_map]
  have : ((fun x : Str => x.cps.toList) ∘ lineOf w sg) = fun j => (sg.drop (w * j)).take w := by
    funext j
    exact txt_list _
  rw [this, flat_lines, ← g.len, List.take_length]
theorem sum_lines {w h : Nat} {sg : List Nat} (g : Good w h sg) : ((linesOf w h sg).map (·.length)).sum + (linesOf w h sg).length * (Str.ofString "").length ≤ 16777216 := by
  have e0 : (Str.ofString "").length = 0 := by decide +kernel
  have : ∀ n, n ≤ h → (((List.range n).map (lineOf w sg)).map (·.length)).sum = n * w := by
    intro n
    induction n with
    | zero => intro _; simp
    | succ n ih =>
      intro hn
      rw [List.range_succ, List.map_append, List.map_append, List.sum_append, ih (by omega)]
      simp [line_len g (show n < h by omega), Nat.add_mul]
  unfold linesOf
  rw [e0, this h (Nat.le_refl _)]
  have := Nat.mul_le_mul g.h1 g.w1
  omega
theorem line_ok {w h : Nat} {sg : List Nat} (g : Good w h sg) {j : Nat} : ∀ c ∈ (lineOf w sg j).cps.toList, sgOk c := by
  intro c hc
  unfold lineOf at hc
  rw [txt_list] at hc
  exact g.ok c (List.mem_of_mem_drop (List.mem_of_mem_take hc))
def at_ (sg : List Nat) (i : Int) : Nat := sg.getD i.toNat 0
def hasI (sg : List Nat) (i : Int) : Bool := decide (0 ≤ i) && decide (i < sg.length) && !decide (at_ sg i = 35)
def hasV (sg : List Nat) : V → Bool
  | .int i => hasI sg i
  | _ => false
def nearOf (w : Nat) (c : Int) : List Int := [c - w] ++ (if c % w > 0 then [c - 1] else []) ++ (if c % w < (w : Int) - 1 then [c + 1] else []) ++ [c + w]
def besideOf (w : Nat) (sg : List Nat) (c : Int) : List Int := (nearOf w c).filter (hasI sg)
theorem sign_eq {w h : Nat} {sg : List Nat} (g : Good w h sg) {c : Int} (c0 : 0 ≤ c) (c1 : c < sg.length) : (c / w).toNat < h ∧ 0 ≤ c / w ∧ 0 ≤ c % w ∧ c % w < w ∧ (lineOf w sg (c / w).toNat).cps.toList[(c % w).toNat]? = some (at_ sg c) := by
  have w0 : (0 : Int) < w := by have := g.w0; omega
  have q0 := Int.emod_nonneg c (show (w : Int) ≠ 0 by omega)
  have q1 := Int.emod_lt_of_pos c w0
  have qd := Int.mul_ediv_add_emod c w
  have d0 := Int.ediv_nonneg c0 (show (0 : Int) ≤ w by omega)
  obtain ⟨j, hj⟩ := Int.eq_ofNat_of_zero_le d0
  obtain ⟨r, hr⟩ := Int.eq_ofNat_of_zero_le q0
  rw [hj, hr] at qd ⊢
  rw [hr] at q1
  have len := g.len
  have hc : c = ((w * j + r : Nat) : Int) := by rw [← qd]; simp
  have hjh : j < h := by
    have : w * j < w * h := by omega
    exact Nat.lt_of_mul_lt_mul_left this
  refine ⟨by simpa using hjh, by omega, by omega, q1, ?_⟩
  unfold lineOf at_
  rw [txt_list, hc]
  simp only [Int.toNat_natCast]
  rw [List.getElem?_take_of_lt (by omega), List.getElem?_drop]
  have : w * j + r < sg.length := by omega
  simp [this]
theorem slice_from1 {cs : List Nat} : (Txt.slice (txt cs) (some (1 : Int)) none).cps.toList = cs.drop 1 := by
  cases cs with
  | nil => rfl
  | cons c r =>
    have hi : Builtin.Str.strSliceIndices (some (1 : Int)) none 1 (txt (c :: r)).length = (List.range r.length).map fun k => 1 + k := by
      rw [txt_len]
      unfold Builtin.Str.strSliceIndices sliceRange
      simp only [show ¬ ((1 : Int) < 0) by decide, if_false, show (1 : Int) > 0 by decide, if_true, Int.ediv_one, List.length_cons]
      have e3 : max 0 (min (1 : Int) ((r.length + 1 : Nat) : Int)) = 1 := by omega
      rw [e3]
      have e5 : (if (1 : Int) < ((r.length + 1 : Nat) : Int) then ((r.length + 1 : Nat) : Int) - 1 + 1 - 1 else 0).toNat = r.length := by split <;> omega
      rw [e5]
      refine List.map_congr_left fun k _ => ?_
      omega
    unfold Txt.slice
    rw [hi, if_neg (by simp [txt_len])]
    show (List.filterMap _ _).toArray.toList = _
    rw [List.toList_toArray, HT.filterMap_all (g := fun m => (c :: r).getD m 0) (fun m hm => ?_)]
    · refine List.ext_getElem? fun j => ?_
      rw [List.getElem?_map, List.getElem?_map]
      by_cases hj : j < r.length
      · rw [List.getElem?_range hj]
        simp [hj, Nat.add_comm 1 j]
      · rw [List.getElem?_eq_none (by simpa using hj), List.getElem?_eq_none (by simpa using hj)]
        rfl
    · obtain ⟨k, hk, rfl⟩ := List.mem_map.mp hm
      have := List.mem_range.mp hk
      simp [txt, Nat.add_comm 1 k, this]
end Fl
set_option Elab.async false
set_option linter.all false
set_option maxRecDepth 100000
namespace Pf
open PySem L2
def top (i : Nat) : Stmt := PySem.Challenge.pw_floorways_k12_ways_walked.main.body.getD i (.Pass ⟨0, 0, 0, 0⟩)
abbrev s_is_whole : Stmt := top 19
abbrev s_is_among : Stmt := top 20
abbrev s_check_row : Stmt := top 29
abbrev s_check_floor : Stmt := top 30
abbrev s_Floor_init : Stmt := inClass (top 31) 0
abbrev s_Floor_has : Stmt := inClass (top 31) 1
abbrev s_Floor_sign : Stmt := inClass (top 31) 2
abbrev s_Floor_column : Stmt := inClass (top 31) 3
abbrev s_Floor_row : Stmt := inClass (top 31) 4
abbrev s_Floor_beside : Stmt := inClass (top 31) 7
abbrev s_Carrier_init : Stmt := inClass (top 34) 0
abbrev s_Carrier_may_stand : Stmt := inClass (top 34) 2
abbrev s_Carrier_gain : Stmt := inClass (top 34) 3
abbrev s_Carrier_fare : Stmt := inClass (top 34) 4
abbrev s_Carrier_cost : Stmt := inClass (top 34) 5
abbrev s_Carrier_steps : Stmt := inClass (top 34) 6
abbrev s_Carrier_stayed : Stmt := inClass (top 34) 7
abbrev s_Carrier_fare_if_standing : Stmt := inClass (top 34) 8
abbrev s_Crawler_may_stand : Stmt := inClass (top 36) 1
abbrev s_Crawler_gain : Stmt := inClass (top 36) 2
abbrev s_Crawler_fare : Stmt := inClass (top 36) 3
abbrev s_Runner_gain : Stmt := inClass (top 37) 1
abbrev s_Runner_fare : Stmt := inClass (top 37) 2
abbrev s_stands_at : Stmt := top 38
abbrev s_walked : Stmt := top 40
abbrev s_next_charge : Stmt := top 41
abbrev s_Lcell_at : Stmt := top 43
abbrev s_Lmixed : Stmt := top 44
abbrev s_Lwhole : Stmt := top 45
abbrev s_Llines : Stmt := top 46
abbrev s_Lsign : Stmt := top 47
abbrev s_Laround : Stmt := top 48
abbrev s_Lstands : Stmt := top 49
abbrev s_Lcost : Stmt := top 50
abbrev s_Ldue : Stmt := top 51
abbrev s_Lcells : Stmt := top 52
abbrev s_Lis_bad_way : Stmt := top 53
abbrev s_Ltold : Stmt := top 54
abbrev s_Lcarrier : Stmt := top 55
abbrev s_law : Stmt := top 56
structure Ad where
  is_whole : Addr
  is_among : Addr
  check_row : Addr
  check_floor : Addr
  Floor_init : Addr
  Floor_has : Addr
  Floor_sign : Addr
  Floor_column : Addr
  Floor_row : Addr
  Floor_beside : Addr
  Carrier_init : Addr
  Carrier_may_stand : Addr
  Carrier_gain : Addr
  Carrier_fare : Addr
  Carrier_cost : Addr
  Carrier_steps : Addr
  Carrier_stayed : Addr
  Carrier_fare_if_standing : Addr
  Crawler_may_stand : Addr
  Crawler_gain : Addr
  Crawler_fare : Addr
  Runner_gain : Addr
  Runner_fare : Addr
  stands_at : Addr
  walked : Addr
  next_charge : Addr
  Lcell_at : Addr
  Lmixed : Addr
  Lwhole : Addr
  Llines : Addr
  Lsign : Addr
  Laround : Addr
  Lstands : Addr
  Lcost : Addr
  Ldue : Addr
  Lcells : Addr
  Lis_bad_way : Addr
  Ltold : Addr
  Lcarrier : Addr
  law : Addr
  C_Floor : Addr
  C_Cart : Addr
  C_Crawler : Addr
  C_Runner : Addr
  C_Carrier : Addr
  C_BadWay : Addr
  C_FloorError : Addr
  C_BadFloor : Addr
  C_BadKind : Addr
  C_BadCell : Addr
  C_BadCharge : Addr
  C_BadStops : Addr
  C_Empty : Addr
  C_NoCarrier : Addr
  C_NoTask : Addr
  C_Meets : Addr
  C_Taken : Addr
  C_Busy : Addr
  C_NoReserve : Addr
  C_Closed : Addr
  C_Jammed : Addr
  K_COMMON_SIGNS : Addr
structure Txt (K : PySem.W.Frag) (mg : Str → Option Value) (ad : Ad) : Prop where
  b_len : mg "len" = none
  b_range : mg "range" = none
  b_isinstance : mg "isinstance" = none
  b_all : mg "all" = none
  b_int : mg "int" = none
  b_bool : mg "bool" = none
  b_str : mg "str" = none
  b_list : mg "list" = none
  b_tuple : mg "tuple" = none
  b_dict : mg "dict" = none
  b_min : mg "min" = none
  b_max : mg "max" = none
  b_ValueError : mg "ValueError" = none
  c_WALL : ∃ u, mg "WALL" = some u ∧ RelV (V.str (Str.ofString "#")) u
  c_CHARGER : ∃ u, mg "CHARGER" = some u ∧ RelV (V.str (Str.ofString "+")) u
  c_ROUGH : ∃ u, mg "ROUGH" = some u ∧ RelV (V.str (Str.ofString "~")) u
  c_LANE : ∃ u, mg "LANE" = some u ∧ RelV (V.str (Str.ofString "|")) u
  c_SIGNS : ∃ u, mg "SIGNS" = some u ∧ RelV (V.str (Str.ofString ".#+~|")) u
  c_MOST_ROWS : ∃ u, mg "MOST_ROWS" = some u ∧ RelV (V.int 10) u
  c_MOST_SIGNS : ∃ u, mg "MOST_SIGNS" = some u ∧ RelV (V.int 10) u
  c_COMMON_SIGNS : ∃ u, mg "COMMON_SIGNS" = some u ∧ RelV (.ref ad.K_COMMON_SIGNS) u
  mg_is_whole : mg "is_whole" = some (.ref ad.is_whole)
  k_is_whole : PySem.W.keepIn K (.ref ad.is_whole) = true
  mg_is_among : mg "is_among" = some (.ref ad.is_among)
  k_is_among : PySem.W.keepIn K (.ref ad.is_among) = true
  mg_check_row : mg "check_row" = some (.ref ad.check_row)
  k_check_row : PySem.W.keepIn K (.ref ad.check_row) = true
  mg_check_floor : mg "check_floor" = some (.ref ad.check_floor)
  k_check_floor : PySem.W.keepIn K (.ref ad.check_floor) = true
  m_Floor_has : Meth K ad.C_Floor "has" ad.Floor_has
  m_Floor_sign : Meth K ad.C_Floor "sign" ad.Floor_sign
  m_Floor_column : Meth K ad.C_Floor "column" ad.Floor_column
  m_Floor_row : Meth K ad.C_Floor "row" ad.Floor_row
  m_Floor_beside : Meth K ad.C_Floor "beside" ad.Floor_beside
  m_Carrier_may_stand : Meth K ad.C_Carrier "may_stand" ad.Carrier_may_stand
  m_Carrier_gain : Meth K ad.C_Carrier "gain" ad.Carrier_gain
  m_Carrier_fare : Meth K ad.C_Carrier "fare" ad.Carrier_fare
  m_Carrier_cost : Meth K ad.C_Carrier "cost" ad.Carrier_cost
  m_Carrier_steps : Meth K ad.C_Carrier "steps" ad.Carrier_steps
  m_Carrier_stayed : Meth K ad.C_Carrier "stayed" ad.Carrier_stayed
  m_Carrier_fare_if_standing : Meth K ad.C_Carrier "fare_if_standing" ad.Carrier_fare_if_standing
  m_Crawler_may_stand : Meth K ad.C_Crawler "may_stand" ad.Crawler_may_stand
  m_Crawler_gain : Meth K ad.C_Crawler "gain" ad.Crawler_gain
  m_Crawler_fare : Meth K ad.C_Crawler "fare" ad.Crawler_fare
  m_Runner_gain : Meth K ad.C_Runner "gain" ad.Runner_gain
  m_Runner_fare : Meth K ad.C_Runner "fare" ad.Runner_fare
  mg_stands_at : mg "stands_at" = some (.ref ad.stands_at)
  k_stands_at : PySem.W.keepIn K (.ref ad.stands_at) = true
  mg_walked : mg "walked" = some (.ref ad.walked)
  k_walked : PySem.W.keepIn K (.ref ad.walked) = true
  mg_next_charge : mg "next_charge" = some (.ref ad.next_charge)
  k_next_charge : PySem.W.keepIn K (.ref ad.next_charge) = true
  mg_Lcell_at : mg "_law_cell_at" = some (.ref ad.Lcell_at)
  k_Lcell_at : PySem.W.keepIn K (.ref ad.Lcell_at) = true
  mg_Lmixed : mg "_law_mixed" = some (.ref ad.Lmixed)
  k_Lmixed : PySem.W.keepIn K (.ref ad.Lmixed) = true
  mg_Lwhole : mg "_law_whole" = some (.ref ad.Lwhole)
  k_Lwhole : PySem.W.keepIn K (.ref ad.Lwhole) = true
  mg_Llines : mg "_law_lines" = some (.ref ad.Llines)
  k_Llines : PySem.W.keepIn K (.ref ad.Llines) = true
  mg_Lsign : mg "_law_sign" = some (.ref ad.Lsign)
  k_Lsign : PySem.W.keepIn K (.ref ad.Lsign) = true
  mg_Laround : mg "_law_around" = some (.ref ad.Laround)
  k_Laround : PySem.W.keepIn K (.ref ad.Laround) = true
  mg_Lstands : mg "_law_stands" = some (.ref ad.Lstands)
  k_Lstands : PySem.W.keepIn K (.ref ad.Lstands) = true
  mg_Lcost : mg "_law_cost" = some (.ref ad.Lcost)
  k_Lcost : PySem.W.keepIn K (.ref ad.Lcost) = true
  mg_Ldue : mg "_law_due" = some (.ref ad.Ldue)
  k_Ldue : PySem.W.keepIn K (.ref ad.Ldue) = true
  mg_Lcells : mg "_law_cells" = some (.ref ad.Lcells)
  k_Lcells : PySem.W.keepIn K (.ref ad.Lcells) = true
  mg_Lis_bad_way : mg "_law_is_bad_way" = some (.ref ad.Lis_bad_way)
  k_Lis_bad_way : PySem.W.keepIn K (.ref ad.Lis_bad_way) = true
  mg_Ltold : mg "_law_told" = some (.ref ad.Ltold)
  k_Ltold : PySem.W.keepIn K (.ref ad.Ltold) = true
  mg_Lcarrier : mg "_law_carrier" = some (.ref ad.Lcarrier)
  k_Lcarrier : PySem.W.keepIn K (.ref ad.Lcarrier) = true
  mg_law : mg "law" = some (.ref ad.law)
  k_law : PySem.W.keepIn K (.ref ad.law) = true
  mg_Floor : mg "Floor" = some (.ref ad.C_Floor)
  cl_Floor : Cls K ad.C_Floor
  n_Floor_wide : NoAttr K ad.C_Floor "wide"
  n_Floor_high : NoAttr K ad.C_Floor "high"
  n_Floor_lines : NoAttr K ad.C_Floor "lines"
  n_Floor_signs : NoAttr K ad.C_Floor "signs"
  mk_Floor : Mk K ad.C_Floor ad.Floor_init
  mg_Cart : mg "Cart" = some (.ref ad.C_Cart)
  cl_Cart : Cls K ad.C_Cart
  n_Cart_full : NoAttr K ad.C_Cart "full"
  mk_Cart : Mk K ad.C_Cart ad.Carrier_init
  mg_Crawler : mg "Crawler" = some (.ref ad.C_Crawler)
  cl_Crawler : Cls K ad.C_Crawler
  n_Crawler_full : NoAttr K ad.C_Crawler "full"
  mk_Crawler : Mk K ad.C_Crawler ad.Carrier_init
  mg_Runner : mg "Runner" = some (.ref ad.C_Runner)
  cl_Runner : Cls K ad.C_Runner
  n_Runner_full : NoAttr K ad.C_Runner "full"
  mk_Runner : Mk K ad.C_Runner ad.Carrier_init
  mg_Carrier : mg "Carrier" = some (.ref ad.C_Carrier)
  cl_Carrier : Cls K ad.C_Carrier
  n_Carrier_full : NoAttr K ad.C_Carrier "full"
  mk_Carrier : Mk K ad.C_Carrier ad.Carrier_init
  m_Cart_may_stand : Meth K ad.C_Cart "may_stand" ad.Carrier_may_stand
  m_Cart_gain : Meth K ad.C_Cart "gain" ad.Carrier_gain
  m_Cart_fare : Meth K ad.C_Cart "fare" ad.Carrier_fare
  m_Cart_cost : Meth K ad.C_Cart "cost" ad.Carrier_cost
  m_Cart_steps : Meth K ad.C_Cart "steps" ad.Carrier_steps
  m_Cart_stayed : Meth K ad.C_Cart "stayed" ad.Carrier_stayed
  m_Cart_fare_if_standing : Meth K ad.C_Cart "fare_if_standing" ad.Carrier_fare_if_standing
  m_Crawler_cost : Meth K ad.C_Crawler "cost" ad.Carrier_cost
  m_Crawler_steps : Meth K ad.C_Crawler "steps" ad.Carrier_steps
  m_Crawler_stayed : Meth K ad.C_Crawler "stayed" ad.Carrier_stayed
  m_Crawler_fare_if_standing : Meth K ad.C_Crawler "fare_if_standing" ad.Carrier_fare_if_standing
  m_Runner_may_stand : Meth K ad.C_Runner "may_stand" ad.Carrier_may_stand
  m_Runner_cost : Meth K ad.C_Runner "cost" ad.Carrier_cost
  m_Runner_steps : Meth K ad.C_Runner "steps" ad.Carrier_steps
  m_Runner_stayed : Meth K ad.C_Runner "stayed" ad.Carrier_stayed
  m_Runner_fare_if_standing : Meth K ad.C_Runner "fare_if_standing" ad.Carrier_fare_if_standing
  mg_BadWay : mg "BadWay" = some (.ref ad.C_BadWay)
  er_BadWay : ErrC K ad.C_BadWay
  mg_FloorError : mg "FloorError" = some (.ref ad.C_FloorError)
  mg_BadFloor : mg "BadFloor" = some (.ref ad.C_BadFloor)
  mg_BadKind : mg "BadKind" = some (.ref ad.C_BadKind)
  mg_BadCell : mg "BadCell" = some (.ref ad.C_BadCell)
  mg_BadCharge : mg "BadCharge" = some (.ref ad.C_BadCharge)
  mg_BadStops : mg "BadStops" = some (.ref ad.C_BadStops)
  mg_Empty : mg "Empty" = some (.ref ad.C_Empty)
  mg_NoCarrier : mg "NoCarrier" = some (.ref ad.C_NoCarrier)
  mg_NoTask : mg "NoTask" = some (.ref ad.C_NoTask)
  mg_Meets : mg "Meets" = some (.ref ad.C_Meets)
  mg_Taken : mg "Taken" = some (.ref ad.C_Taken)
  mg_Busy : mg "Busy" = some (.ref ad.C_Busy)
  mg_NoReserve : mg "NoReserve" = some (.ref ad.C_NoReserve)
  mg_Closed : mg "Closed" = some (.ref ad.C_Closed)
  mg_Jammed : mg "Jammed" = some (.ref ad.C_Jammed)
  xm_BadWay_FloorError : PySem.W.exmOne K (.ref ad.C_BadWay) (.ref ad.C_FloorError) = some true
  cgx : PySem.W.specialIn K (.builtin "object.__class__") "__get__" = some (some (.builtin "getset_descriptor.__get__"))
  ctx : PySem.W.takesIn K (.builtin "object.__class__") = some true
  ca_Cart : PySem.W.findIn K (.ref ad.C_Cart) "__class__" = some (some (.builtin "object.__class__"))
  cm_Cart : PySem.W.mroIn K ad.C_Cart (.type "object") = some true
  is_Cart_Carrier : PySem.W.kitOne K (.ref ad.C_Cart) (.ref ad.C_Carrier) = some true
  is_Cart_Cart : PySem.W.kitOne K (.ref ad.C_Cart) (.ref ad.C_Cart) = some true
  is_Cart_Crawler : PySem.W.kitOne K (.ref ad.C_Cart) (.ref ad.C_Crawler) = some false
  is_Cart_Runner : PySem.W.kitOne K (.ref ad.C_Cart) (.ref ad.C_Runner) = some false
  ca_Crawler : PySem.W.findIn K (.ref ad.C_Crawler) "__class__" = some (some (.builtin "object.__class__"))
  cm_Crawler : PySem.W.mroIn K ad.C_Crawler (.type "object") = some true
  is_Crawler_Carrier : PySem.W.kitOne K (.ref ad.C_Crawler) (.ref ad.C_Carrier) = some true
  is_Crawler_Cart : PySem.W.kitOne K (.ref ad.C_Crawler) (.ref ad.C_Cart) = some false
  is_Crawler_Crawler : PySem.W.kitOne K (.ref ad.C_Crawler) (.ref ad.C_Crawler) = some true
  is_Crawler_Runner : PySem.W.kitOne K (.ref ad.C_Crawler) (.ref ad.C_Runner) = some false
  ca_Runner : PySem.W.findIn K (.ref ad.C_Runner) "__class__" = some (some (.builtin "object.__class__"))
  cm_Runner : PySem.W.mroIn K ad.C_Runner (.type "object") = some true
  is_Runner_Carrier : PySem.W.kitOne K (.ref ad.C_Runner) (.ref ad.C_Carrier) = some true
  is_Runner_Cart : PySem.W.kitOne K (.ref ad.C_Runner) (.ref ad.C_Cart) = some false
  is_Runner_Crawler : PySem.W.kitOne K (.ref ad.C_Runner) (.ref ad.C_Crawler) = some false
  is_Runner_Runner : PySem.W.kitOne K (.ref ad.C_Runner) (.ref ad.C_Runner) = some true
  ca_Carrier : PySem.W.findIn K (.ref ad.C_Carrier) "__class__" = some (some (.builtin "object.__class__"))
  cm_Carrier : PySem.W.mroIn K ad.C_Carrier (.type "object") = some true
  is_Carrier_Carrier : PySem.W.kitOne K (.ref ad.C_Carrier) (.ref ad.C_Carrier) = some true
  is_Carrier_Cart : PySem.W.kitOne K (.ref ad.C_Carrier) (.ref ad.C_Cart) = some false
  is_Carrier_Crawler : PySem.W.kitOne K (.ref ad.C_Carrier) (.ref ad.C_Crawler) = some false
  is_Carrier_Runner : PySem.W.kitOne K (.ref ad.C_Carrier) (.ref ad.C_Runner) = some false
  is_BadWay_BadFloor : PySem.W.kitOne K (.ref ad.C_BadWay) (.ref ad.C_BadFloor) = some false
  is_BadWay_BadKind : PySem.W.kitOne K (.ref ad.C_BadWay) (.ref ad.C_BadKind) = some false
  is_BadWay_BadCell : PySem.W.kitOne K (.ref ad.C_BadWay) (.ref ad.C_BadCell) = some false
  is_BadWay_BadCharge : PySem.W.kitOne K (.ref ad.C_BadWay) (.ref ad.C_BadCharge) = some false
  is_BadWay_BadStops : PySem.W.kitOne K (.ref ad.C_BadWay) (.ref ad.C_BadStops) = some false
  is_BadWay_BadWay : PySem.W.kitOne K (.ref ad.C_BadWay) (.ref ad.C_BadWay) = some true
  is_BadWay_Empty : PySem.W.kitOne K (.ref ad.C_BadWay) (.ref ad.C_Empty) = some false
  is_BadWay_NoCarrier : PySem.W.kitOne K (.ref ad.C_BadWay) (.ref ad.C_NoCarrier) = some false
  is_BadWay_NoTask : PySem.W.kitOne K (.ref ad.C_BadWay) (.ref ad.C_NoTask) = some false
  is_BadWay_Meets : PySem.W.kitOne K (.ref ad.C_BadWay) (.ref ad.C_Meets) = some false
  is_BadWay_Taken : PySem.W.kitOne K (.ref ad.C_BadWay) (.ref ad.C_Taken) = some false
  is_BadWay_Busy : PySem.W.kitOne K (.ref ad.C_BadWay) (.ref ad.C_Busy) = some false
  is_BadWay_NoReserve : PySem.W.kitOne K (.ref ad.C_BadWay) (.ref ad.C_NoReserve) = some false
  is_BadWay_Closed : PySem.W.kitOne K (.ref ad.C_BadWay) (.ref ad.C_Closed) = some false
  is_BadWay_Jammed : PySem.W.kitOne K (.ref ad.C_BadWay) (.ref ad.C_Jammed) = some false
  is_BadWay_FloorError : PySem.W.kitOne K (.ref ad.C_BadWay) (.ref ad.C_FloorError) = some true
  is_BadWay_ValueError : PySem.W.kitOne K (.ref ad.C_BadWay) (.type "ValueError") = some true
  ga_BadWay : PySem.W.findIn K (.ref ad.C_BadWay) "__getattribute__" = some (some (.builtin "BaseException.__getattribute__"))
  gn_BadWay : PySem.W.findIn K (.ref ad.C_BadWay) "__getattr__" = some none
  bx_BadWay : PySem.W.mroIn K ad.C_BadWay (.type "BaseException") = some true
  cl_BadWay : (PySem.W.clsIn K ad.C_BadWay).isSome = true
  ca_BadWay : PySem.W.findIn K (.ref ad.C_BadWay) "__class__" = some (some (.builtin "object.__class__"))
  cm_BadWay : PySem.W.mroIn K ad.C_BadWay (.type "object") = some true
  kt_COMMON_SIGNS : ∀ H, SqT K H ad.K_COMMON_SIGNS [V.str (Str.ofString "."), V.str (Str.ofString "+"), V.str (Str.ofString "|")]
def isI : V → Bool
  | .int _ => true
  | _ => false
def isIB : V → Bool
  | .int _ => true
  | .bl _ => true
  | _ => false
def isB : V → Bool
  | .bl _ => true
  | _ => false
def TyB (K : PySem.W.Frag) (H : Hp) (x : V) : Prop := ∃ n, TyOf K H x (.type n)
theorem kit_int {K : PySem.W.Frag} {H : Hp} {x : V} {n : String} (h : TyOf K H x (.type n)) : PySem.W.kitOne K (.type n) (.type "int") = some (isIB x) := by
  cases h <;> rfl
theorem kit_bool {K : PySem.W.Frag} {H : Hp} {x : V} {n : String} (h : TyOf K H x (.type n)) : PySem.W.kitOne K (.type n) (.type "bool") = some (isB x) := by
  cases h <;> rfl
def spWhole (K : PySem.W.Frag) : Sp := fun vs H Q _ => ∃ x, vs = [x] ∧ TyB K H x ∧ Q (.bl (isI x)) H
theorem tSeq_cut {t u : TS} {D : Ends} {σ : St} {H : Hp} (M : St → Hp → Prop) (h1 : ∀ nx : St → Hp → Prop, (∀ σ' H', M σ' H' → nx σ' H') → t { D with nx := nx } σ H) (h2 : ∀ σ' H', M σ' H' → u D σ' H') : tSeq t u D σ H := h1 (u D) h2
def amg : V → Int → Int → Bool
  | .int i, lo, hi => decide (lo ≤ i) && decide (i ≤ hi)
  | _, _, _ => false
def spAmong (K : PySem.W.Frag) : Sp := fun vs H Q _ => ∃ x lo hi, vs = [x, .int lo, .int hi] ∧ TyB K H x ∧ Q (.bl (amg x lo hi)) H
open Fl
def flds (w h : Nat) (l : Addr) (sg : List Nat) : List (Str × V) := putF "signs" (.str (txt sg)) (putF "lines" (.ref l) (putF "high" (.int (h : Int)) (putF "wide" (.int (w : Int)) [])))
theorem f_wide (w h : Nat) (l : Addr) (sg : List Nat) : (flds w h l sg).lookup ("wide" : Str) = some (.int (w : Int)) := by
  unfold flds
  rw [lookup_putF, if_neg (by decide +kernel), lookup_putF, if_neg (by decide +kernel), lookup_putF, if_neg (by decide +kernel), lookup_putF, if_pos rfl]
theorem f_lines (w h : Nat) (l : Addr) (sg : List Nat) : (flds w h l sg).lookup ("lines" : Str) = some (.ref l) := by
  unfold flds
  rw [lookup_putF, if_neg (by decide +kernel), lookup_putF, if_pos rfl]
theorem f_signs (w h : Nat) (l : Addr) (sg : List Nat) : (flds w h l sg).lookup ("signs" : Str) = some (.str (txt sg)) := by
  unfold flds
  rw [lookup_putF, if_pos rfl]
theorem f_no (w h : Nat) (l : Addr) (sg : List Nat) {m : Str} (h1 : ¬ m = "signs") (h2 : ¬ m = "lines") (h3 : ¬ m = "high") (h4 : ¬ m = "wide") : (flds w h l sg).lookup m = none := by
  unfold flds
  rw [lookup_putF, if_neg h1, lookup_putF, if_neg h2, lookup_putF, if_neg h3, lookup_putF, if_neg h4]
  rfl
def LinesAt (H : Hp) (l : Addr) (w h : Nat) (sg : List Nat) : Prop := H l = some (.lst ((linesOf w h sg).map V.str))
structure FloorAt (C : Addr) (H : Hp) (p : Addr) (w h : Nat) (sg : List Nat) : Prop where
  ob : ∃ dx l, H p = some (.ins C dx (flds w h l sg)) ∧ LinesAt H l w h sg
theorem FloorAt.same {C : Addr} {H H' : Hp} {p : Addr} {w h : Nat} {sg : List Nat} (F : FloorAt C H p w h sg) (s : Same H H') : FloorAt C H' p w h sg := by
  obtain ⟨dx, l, h1, h2⟩ := F.ob
  exact ⟨⟨dx, l, s _ _ h1, s _ _ h2⟩⟩
theorem mem_sgn {c : Nat} (h : sgOk c) : c ∈ (Str.ofString ".#+~|").cps.toList := by
  have e : (Str.ofString ".#+~|").cps.toList = [46, 35, 43, 126, 124] := by decide +kernel
  rw [e]
  rcases h with z | z | z | z | z <;> simp [z]
def inSg : V → V
  | .str z => .bl (decide (z.cps.getD 0 0 ∈ (Str.ofString ".#+~|").cps.toList))
  | _ => .bl false
def isWall : V → V
  | .str z => .bl (decide (z = Str.ofString "#"))
  | _ => .bl false
theorem wall_eq (c : Nat) : ((⟨#[c]⟩ : Str) = Str.ofString "#") ↔ c = 35 := by
  have e : (Str.ofString "#").cps = #[35] := by decide +kernel
  constructor
  · intro h
    have := congrArg Str.cps h
    rw [e] at this
    simpa using this
  · intro h
    subst h
    exact str_ext (by rw [e])
theorem at_txt {sg : List Nat} {c : Int} (c0 : 0 ≤ c) (c1 : c < sg.length) : atI (txt sg).cps.toList c = some (at_ sg c) := by
  obtain ⟨j, rfl⟩ := Int.eq_ofNat_of_zero_le c0
  have hj : j < sg.length := by omega
  refine atI_nat ?_
  rw [txt_list]
  unfold at_
  simp [hj]
def spRow : Sp := fun vs H Q _ => ∃ (x : Str) (n : Nat), vs = [.str x, .int (n : Int)] ∧ x.length = n ∧ n ≤ 10 ∧ (∀ c ∈ x.cps.toList, sgOk c) ∧ ∀ H', Same H H' → Q .non H'
def spCheck : Sp := fun vs H Q _ => ∃ (l : Addr) (w h : Nat) (sg : List Nat), vs = [.ref l] ∧ LinesAt H l w h sg ∧ Good w h sg ∧ ∀ H', Same H H' → Q .non H'
def spInit (C : Addr) : Sp := fun vs H Q _ => ∃ (p dx l : Addr) (w h : Nat) (sg : List Nat), vs = [.ref p, .ref l] ∧ H p = some (.ins C dx []) ∧ LinesAt H l w h sg ∧ Good w h sg ∧ ∀ H' dx' l2, H l2 = none → H' p = some (.ins C dx' (flds w h l2 sg)) → LinesAt H' l2 w h sg → (∀ b o, H b = some o → b ≠ p → H' b = some o) → Q .non H'
def spHas (K : PySem.W.Frag) (C : Addr) : Sp := fun vs H Q _ => ∃ (p : Addr) (w h : Nat) (sg : List Nat) (x : V), vs = [.ref p, x] ∧ FloorAt C H p w h sg ∧ Good w h sg ∧ TyB K H x ∧ Q (.bl (hasV sg x)) H
def spSign (C : Addr) : Sp := fun vs H Q _ => ∃ (p : Addr) (w h : Nat) (sg : List Nat) (c : Int), vs = [.ref p, .int c] ∧ FloorAt C H p w h sg ∧ Good w h sg ∧ 0 ≤ c ∧ c < sg.length ∧ Q (chr1 (at_ sg c)) H
def spCol (C : Addr) : Sp := fun vs H Q _ => ∃ (p : Addr) (w h : Nat) (sg : List Nat) (c : Int), vs = [.ref p, .int c] ∧ FloorAt C H p w h sg ∧ Good w h sg ∧ Q (.int (c % w)) H
def spRowOf (C : Addr) : Sp := fun vs H Q _ => ∃ (p : Addr) (w h : Nat) (sg : List Nat) (c : Int), vs = [.ref p, .int c] ∧ FloorAt C H p w h sg ∧ Good w h sg ∧ Q (.int (c / w)) H
def Gives (H : Hp) (Q : VK) (xs : List Int) : Prop := ∀ r H', H r = none → Same H H' → H' r = some (.lst (xs.map V.int)) → Q (.ref r) H'
def spBeside (C : Addr) : Sp := fun vs H Q _ => ∃ (p : Addr) (w h : Nat) (sg : List Nat) (c : Int), vs = [.ref p, .int c] ∧ FloorAt C H p w h sg ∧ Good w h sg ∧ Gives H Q (besideOf w sg c)
def SameB (k : Addr) (H H' : Hp) : Prop := ∀ b o, H b = some o → b ≠ k → H' b = some o
theorem _root_.L2.Same.b {H H' : Hp} (s : Same H H') (k : Addr) : SameB k H H' := fun b o h _ => s b o h
theorem SameB.trans {k : Addr} {H H1 H2 : Hp} (a : SameB k H H1) (b : SameB k H1 H2) : SameB k H H2 := fun c o h n => b c o (a c o h n) n
def KeptOk (H : Hp) (k : Addr) (n : Nat) : Prop := ∃ ts : List Addr, ts.length ≤ n ∧ H k = some (.lst (ts.map V.ref)) ∧ ∀ t ∈ ts, ∃ (a b : Addr) (xs : List Int), H t = some (.tup [.ref a, .ref b]) ∧ H a = some (.lst (xs.map V.int)) ∧ H b = some (.lst (xs.map V.int)) ∧ a ≠ k ∧ b ≠ k ∧ xs.length ≤ 1000
theorem KeptOk.same {H H' : Hp} {k : Addr} {n : Nat} (h : KeptOk H k n) (s : Same H H') : KeptOk H' k n := by
  obtain ⟨ts, h1, h2, h3⟩ := h
  refine ⟨ts, h1, s _ _ h2, fun t ht => ?_⟩
  obtain ⟨a, b, xs, e1, e2, e3, r⟩ := h3 t ht
  exact ⟨a, b, xs, s _ _ e1, s _ _ e2, s _ _ e3, r⟩
theorem KeptOk.mono {H : Hp} {k : Addr} {n m : Nat} (h : KeptOk H k n) (hm : n ≤ m) : KeptOk H k m := by
  obtain ⟨ts, h1, h2, h3⟩ := h
  exact ⟨ts, Nat.le_trans h1 hm, h2, h3⟩
def KeptNo (H : Hp) (k x : Addr) : Prop := ∀ ts : List Addr, H k = some (.lst (ts.map V.ref)) → ∀ t ∈ ts, ∀ a b, H t = some (.tup [.ref a, .ref b]) → a ≠ x ∧ b ≠ x
theorem map_ref_inj {ts us : List Addr} (h : ts.map V.ref = us.map V.ref) : ts = us := by
  induction ts generalizing us with
  | nil => cases us with
    | nil => rfl
    | cons u us => cases h
  | cons t ts ih => cases us with
    | nil => cases h
    | cons u us =>
      rw [List.map_cons, List.map_cons] at h
      obtain ⟨e1, e2⟩ := List.cons.inj h
      rw [V.ref.inj e1, ih e2]
theorem KeptNo.same {H H' : Hp} {k y : Addr} {n : Nat} (h : KeptNo H k y) (hK : KeptOk H k n) (s : Same H H') : KeptNo H' k y := by
  obtain ⟨ts, _, h2, h3⟩ := hK
  intro us hu t ht a b e
  rw [s _ _ h2] at hu
  have := map_ref_inj (HO.lst.inj (Option.some.inj hu))
  subst this
  obtain ⟨a', b', xs, e1, _⟩ := h3 t ht
  rw [s _ _ e1] at e
  have e4 := HO.tup.inj (Option.some.inj e)
  cases e4
  exact h ts h2 t ht a b e1
theorem strOk_of {x : Str} (h : ∀ c ∈ x.cps.toList, c < 1114112) : PyData.strOk x = true := by
  unfold PyData.strOk
  rw [Array.all_eq_true]
  intro i hi
  have := h x.cps[i] (by simp)
  simpa using this
def kindsL : List Str := ["cart", "crawler", "runner", "carrier"]
def clsOf (ad : Ad) : Nat → Addr
  | 0 => ad.C_Cart
  | 1 => ad.C_Crawler
  | 2 => ad.C_Runner
  | _ => ad.C_Carrier
def CarAt (ad : Ad) (H : Hp) (p : Addr) (i : Nat) (n : Int) : Prop := ∃ dx, H p = some (.ins (clsOf ad i) dx (putF "full" (.int n) []))
theorem CarAt.same {ad : Ad} {H H' : Hp} {p : Addr} {i : Nat} {n : Int} (s : Same H H') (h : CarAt ad H p i n) : CarAt ad H' p i n := let ⟨dx, e⟩ := h; ⟨dx, s _ _ e⟩
def common (c : Nat) : Bool := decide (c = 46 ∨ c = 43 ∨ c = 124)
def stands (i c : Nat) : Bool := common c || (decide (i = 1) && decide (c = 126))
def gainOf (i c : Nat) : Int := if c = 43 then (match i with | 1 => 1 | 2 => 3 | _ => 2) else 0
def fareOf (i w : Nat) (sg : List Nat) (cell other : Int) : Option Int := match i with
  | 1 => some (if at_ sg other = 126 then 3 else 1)
  | 2 => if cell / w = other / w then some 1 else if at_ sg cell = 124 ∨ at_ sg other = 124 then some 2 else none
  | _ => some 1
def optV : Option Int → V
  | some i => .int i
  | none => .non
def costOf (i w : Nat) (sg : List Nat) (cell other : Int) : Option Int := if stands i (at_ sg cell) && stands i (at_ sg other) then fareOf i w sg cell other else none
def pairsOf (f : Int → Option Int) (os : List Int) : List (Int × Int) := os.filterMap fun o => (f o).map fun k => (o, k)
def stepsOf (i w : Nat) (sg : List Nat) (cell : Int) : List (Int × Int) := pairsOf (costOf i w sg cell) (besideOf w sg cell)
def PairAt (H : Hp) (t : Addr) (p : Int × Int) : Prop := H t = some (.tup [.int p.1, .int p.2])
def PairsL (H : Hp) (r : Addr) (ps : List (Int × Int)) : Prop := ∃ ts : List Addr, H r = some (.lst (ts.map V.ref)) ∧ Paired (PairAt H) ts ps
def InF (sg : List Nat) (c : Int) : Prop := 0 ≤ c ∧ c < sg.length
def spCInit (ad : Ad) : Sp := fun vs H Q _ => ∃ (p dx : Addr) (n : Int) (i : Nat), vs = [.ref p, .int n] ∧ H p = some (.ins (clsOf ad i) dx []) ∧ Q .non (upd H p (.ins (clsOf ad i) dx (putF "full" (.int n) [])))
def spMay (i : Nat) : Sp := fun vs H Q _ => ∃ x c, vs = [x, chr1 c] ∧ Q (.bl (stands i c)) H
def spGain (i : Nat) : Sp := fun vs H Q _ => ∃ x c, vs = [x, chr1 c] ∧ Q (.int (gainOf i c)) H
def spFare (C : Addr) (i : Nat) : Sp := fun vs H Q _ => ∃ (x : V) (fl : Addr) (w h : Nat) (sg : List Nat) (cell other : Int), vs = [x, .ref fl, .int cell, .int other] ∧ FloorAt C H fl w h sg ∧ Good w h sg ∧ InF sg cell ∧ InF sg other ∧ ∀ H', Same H H' → Q (optV (fareOf i w sg cell other)) H'
def spFareIf (ad : Ad) : Sp := fun vs H Q _ => ∃ (p fl : Addr) (i : Nat) (n : Int) (w h : Nat) (sg : List Nat) (cell other : Int), vs = [.ref p, .ref fl, .int cell, .int other] ∧ CarAt ad H p i n ∧ i ≤ 3 ∧ FloorAt ad.C_Floor H fl w h sg ∧ Good w h sg ∧ InF sg cell ∧ InF sg other ∧ ∀ H', Same H H' → Q (optV (costOf i w sg cell other)) H'
def spCost (ad : Ad) : Sp := fun vs H Q _ => ∃ (p fl : Addr) (i : Nat) (n : Int) (w h : Nat) (sg : List Nat) (cell other : Int), vs = [.ref p, .ref fl, .int cell, .int other] ∧ CarAt ad H p i n ∧ i ≤ 3 ∧ FloorAt ad.C_Floor H fl w h sg ∧ Good w h sg ∧ InF sg cell ∧ other ∈ besideOf w sg cell ∧ ∀ H', Same H H' → Q (optV (costOf i w sg cell other)) H'
def spSteps (ad : Ad) : Sp := fun vs H Q _ => ∃ (p fl : Addr) (i : Nat) (n : Int) (w h : Nat) (sg : List Nat) (cell : Int), vs = [.ref p, .ref fl, .int cell] ∧ CarAt ad H p i n ∧ i ≤ 3 ∧ FloorAt ad.C_Floor H fl w h sg ∧ Good w h sg ∧ InF sg cell ∧ ∀ r H', H r = none → Same H H' → PairsL H' r (stepsOf i w sg cell) → Q (.ref r) H'
def spStayed (ad : Ad) : Sp := fun vs H Q _ => ∃ (p : Addr) (i : Nat) (n : Int) (c : Nat) (k : Int), vs = [.ref p, chr1 c, .int k] ∧ CarAt ad H p i n ∧ i ≤ 3 ∧ Q (.int (min (k + gainOf i c) n)) H
def spStands : Sp := fun vs H Q _ => ∃ (i c : Nat) (x : Str), vs = [.str x, chr1 c] ∧ kindsL[i]? = some x ∧ Q (.bl (stands i c)) H
def Kept2 (H : Hp) (k : Addr) (n : Nat) : Prop := ∃ ts : List Addr, ts.length ≤ n ∧ H k = some (.lst (ts.map V.ref)) ∧ ∀ t ∈ ts, ∃ (a b : Addr) (us : List Addr) (ps : List (Int × Int)), H t = some (.tup [.ref a, .ref b]) ∧ H a = some (.lst (us.map V.ref)) ∧ H b = some (.lst (us.map V.ref)) ∧ a ≠ k ∧ b ≠ k ∧ us.length ≤ 10 ∧ Paired (PairAt H) us ps
theorem cls_of {K : PySem.W.Frag} {mg : Str → Option Value} {ad : Ad} (T : Txt K mg ad) : ∀ i, Cls K (clsOf ad i)
  | 0 => T.cl_Cart
  | 1 => T.cl_Crawler
  | 2 => T.cl_Runner
  | (_ + 3) => T.cl_Carrier
theorem nof_of {K : PySem.W.Frag} {mg : Str → Option Value} {ad : Ad} (T : Txt K mg ad) : ∀ i, NoAttr K (clsOf ad i) "full"
  | 0 => T.n_Cart_full
  | 1 => T.n_Crawler_full
  | 2 => T.n_Runner_full
  | (_ + 3) => T.n_Carrier_full
theorem l_full (n : Int) : (putF "full" (V.int n) []).lookup ("full" : Str) = some (.int n) := by rw [lookup_putF, if_pos rfl]
theorem l_no (n : Int) {m : Str} (h : ¬ m = "full") : (putF "full" (V.int n) []).lookup m = none := by rw [lookup_putF, if_neg h]; rfl
theorem chr_eq {c k : Nat} {s : Str} (hs : s.cps = #[k]) : (chr1 c = V.str s) ↔ c = k := by
  constructor
  · intro h
    have h1 : (⟨#[c]⟩ : Str) = s := V.str.inj h
    have h2 := congrArg Str.cps h1
    rw [hs] at h2
    simpa using h2
  · intro h
    subst h
    exact congrArg V.str (str_ext (by rw [hs]))
theorem q126 {c : Nat} : (chr1 c = V.str (Str.ofString "~")) ↔ c = 126 := chr_eq (by decide +kernel)
theorem q43 {c : Nat} : (chr1 c = V.str (Str.ofString "+")) ↔ c = 43 := chr_eq (by decide +kernel)
theorem q124 {c : Nat} : (chr1 c = V.str (Str.ofString "|")) ↔ c = 124 := chr_eq (by decide +kernel)
theorem eqV_chr {c k : Nat} {s : Str} (hs : s.cps = #[k]) : eqV (V.str s) (chr1 c) = decide (c = k) := by
  have e : eqV (V.str s) (chr1 c) = (s == (⟨#[c]⟩ : Str)) := rfl
  rw [e, Bool.eq_iff_iff, beq_iff_eq, decide_eq_true_iff]
  constructor
  · intro h
    exact (chr_eq hs).mp (congrArg V.str h.symm)
  · intro h
    exact (V.str.inj ((chr_eq hs).mpr h)).symm
theorem in_common {c : Nat} : inV (chr1 c) [V.str (Str.ofString "."), V.str (Str.ofString "+"), V.str (Str.ofString "|")] = common c := by
  simp only [inV, List.any_cons, List.any_nil, Bool.or_false, common]
  rw [eqV_chr (k := 46) (by decide +kernel), eqV_chr (k := 43) (by decide +kernel), eqV_chr (k := 124) (by decide +kernel), Bool.decide_or, Bool.decide_or]
theorem beside_in {w h : Nat} {sg : List Nat} (g : Good w h sg) {c o : Int} (ho : o ∈ besideOf w sg c) : InF sg o := by
  unfold besideOf at ho
  have h := (List.mem_filter.mp ho).2
  unfold hasI at h
  simp only [Bool.and_eq_true, decide_eq_true_eq] at h
  exact ⟨h.1.1, h.1.2⟩
theorem beside_len {w : Nat} {sg : List Nat} {c : Int} : (besideOf w sg c).length ≤ 4 := by
  unfold besideOf
  refine Nat.le_trans (List.length_filter_le _ _) ?_
  unfold nearOf
  split <;> split <;> simp
def PO (f : Int → Option Int) (H : Hp) (t : Addr) (o : Int) : Prop := H t = some (.tup [.int o, optV (f o)])
def pvv (H : Hp) : V → Bool
  | .ref t => (match H t with
    | some (.tup [_, y]) => !decide (y = .non)
    | _ => false)
  | _ => false
theorem filt_pairs {f : Int → Option Int} {H : Hp} : ∀ {ts : List Addr} {os : List Int}, Paired (PO f H) ts os → ∃ us : List Addr, (ts.map V.ref).filter (pvv H) = us.map V.ref ∧ Paired (PairAt H) us (pairsOf f os)
  | _, _, .nil => ⟨[], rfl, .nil⟩
  | _, _, .cons (a := t) (b := o) (l₁ := ts) (l₂ := os) h r => by
    obtain ⟨us, e, q⟩ := filt_pairs r
    have h : H t = some (.tup [.int o, optV (f o)]) := h
    rw [List.map_cons, List.filter_cons]
    cases z : f o with
    | none =>
      rw [if_neg (by simp [pvv, h, z, optV]), e]
      refine ⟨us, rfl, ?_⟩
      unfold pairsOf at q ⊢
      rw [List.filterMap_cons, z]
      exact q
    | some k =>
      rw [if_pos (by simp [pvv, h, z, optV]), e]
      refine ⟨t :: us, rfl, ?_⟩
      unfold pairsOf at q ⊢
      rw [List.filterMap_cons, z]
      exact .cons (by rw [z] at h; exact h) q
theorem nofl {w h : Nat} {l : Addr} {sg : List Nat} {m : Str} (a : ¬ m = "signs") (b : ¬ m = "lines") (c : ¬ m = "high") (d : ¬ m = "wide") : (flds w h l sg).lookup m = none := f_no _ _ _ _ a b c d
theorem e_al4 {ad : Ad} {sp : Sp} : ∀ i, i ≤ 3 → (clsOf ad i, sp) ∈ [(ad.C_Cart, sp), (ad.C_Crawler, sp), (ad.C_Runner, sp), (ad.C_Carrier, sp)]
  | 0, _ => by simp [clsOf]
  | 1, _ => by simp [clsOf]
  | 2, _ => by simp [clsOf]
  | 3, _ => by simp [clsOf]
  | (_ + 4), h => by omega
theorem e_may {ad : Ad} : ∀ i, i ≤ 3 → ∃ j, (clsOf ad i, spMay j) ∈ [(ad.C_Cart, spMay 0), (ad.C_Crawler, spMay 1), (ad.C_Runner, spMay 0), (ad.C_Carrier, spMay 0)] ∧ ∀ c, stands j c = stands i c
  | 0, _ => ⟨0, by simp [clsOf], fun _ => rfl⟩
  | 1, _ => ⟨1, by simp [clsOf], fun _ => rfl⟩
  | 2, _ => ⟨0, by simp [clsOf], fun _ => rfl⟩
  | 3, _ => ⟨0, by simp [clsOf], fun _ => rfl⟩
  | (_ + 4), h => by omega
theorem e_gain {ad : Ad} : ∀ i, i ≤ 3 → ∃ j, (clsOf ad i, spGain j) ∈ [(ad.C_Cart, spGain 0), (ad.C_Crawler, spGain 1), (ad.C_Runner, spGain 2), (ad.C_Carrier, spGain 0)] ∧ ∀ c, gainOf j c = gainOf i c
  | 0, _ => ⟨0, by simp [clsOf], fun _ => rfl⟩
  | 1, _ => ⟨1, by simp [clsOf], fun _ => rfl⟩
  | 2, _ => ⟨2, by simp [clsOf], fun _ => rfl⟩
  | 3, _ => ⟨0, by simp [clsOf], fun _ => rfl⟩
  | (_ + 4), h => by omega
theorem e_fare {ad : Ad} {C : Addr} : ∀ i, i ≤ 3 → ∃ j, (clsOf ad i, spFare C j) ∈ [(ad.C_Cart, spFare C 0), (ad.C_Crawler, spFare C 1), (ad.C_Runner, spFare C 2), (ad.C_Carrier, spFare C 0)] ∧ ∀ w sg a b, fareOf j w sg a b = fareOf i w sg a b
  | 0, _ => ⟨0, by simp [clsOf], fun _ _ _ _ => rfl⟩
  | 1, _ => ⟨1, by simp [clsOf], fun _ _ _ _ => rfl⟩
  | 2, _ => ⟨2, by simp [clsOf], fun _ _ _ _ => rfl⟩
  | 3, _ => ⟨0, by simp [clsOf], fun _ _ _ _ => rfl⟩
  | (_ + 4), h => by omega
theorem paired_mem {α β : Type} {R : α → β → Prop} {ts : List α} {os : List β} (p : Paired R ts os) {t : α} (ht : t ∈ ts) : ∃ o, R t o := by
  induction p with
  | nil => cases ht
  | cons h r ih => rcases List.mem_cons.mp ht with rfl | z; exact ⟨_, h⟩; exact ih z
theorem mem_common {c : Nat} : c ∈ (Str.ofString ".+|").cps.toList ↔ common c = true := by
  have e : (Str.ofString ".+|").cps.toList = [46, 43, 124] := by decide +kernel
  rw [e]
  simp [common]
theorem kx : ∀ (i : Nat) (x : Str), kindsL[i]? = some x → (x = Str.ofString "crawler" ↔ i = 1) ∧ (x = Str.ofString "runner" ↔ i = 2) ∧ i ≤ 3
  | 0, _, h => by cases h; decide +kernel
  | 1, _, h => by cases h; decide +kernel
  | 2, _, h => by cases h; decide +kernel
  | 3, _, h => by cases h; decide +kernel
  | (i + 4), _, h => by simp [kindsL] at h
theorem Kept2.same {H H' : Hp} {k : Addr} {n : Nat} (h : Kept2 H k n) (s : Same H H') : Kept2 H' k n := by
  obtain ⟨ts, h1, h2, h3⟩ := h
  refine ⟨ts, h1, s _ _ h2, fun t ht => ?_⟩
  obtain ⟨a, b, us, ps, e1, e2, e3, n1, n2, l, q⟩ := h3 t ht
  exact ⟨a, b, us, ps, s _ _ e1, s _ _ e2, s _ _ e3, n1, n2, l, Paired.mapP q fun _ _ z => s _ _ z⟩
theorem Kept2.mono {H : Hp} {k : Addr} {n m : Nat} (h : Kept2 H k n) (hm : n ≤ m) : Kept2 H k m := by
  obtain ⟨ts, h1, h2⟩ := h
  exact ⟨ts, Nat.le_trans h1 hm, h2⟩
def Cars (ad : Ad) (H : Hp) (ps : List Addr) (fs : List Int) : Prop := ∀ j p f, ps[j]? = some p → fs[j]? = some f → CarAt ad H p j f
theorem Cars.same {ad : Ad} {H H' : Hp} {ps : List Addr} {fs : List Int} (s : Same H H') (h : Cars ad H ps fs) : Cars ad H' ps fs := fun j p f a b => (h j p f a b).same s
theorem Cars.snoc {ad : Ad} {H : Hp} {ps : List Addr} {fs : List Int} {p : Addr} (h : Cars ad H ps fs) (hp : ∀ f, fs[ps.length]? = some f → CarAt ad H p ps.length f) : Cars ad H (ps ++ [p]) fs := fun j q f a b => by
  rcases Nat.lt_or_ge j ps.length with z | z
  · rw [List.getElem?_append_left z] at a
    exact h j q f a b
  · rw [List.getElem?_append_right z] at a
    have e : j = ps.length := by
      have := (List.getElem?_eq_some_iff.mp a).1
      simp at this
      omega
    subst e
    rw [Nat.sub_self] at a
    cases a
    exact hp f b
theorem Cars.upd {ad : Ad} {H : Hp} {ps : List Addr} {fs : List Int} {so : Addr} {ys : List V} {o : HO} (h : Cars ad H ps fs) (hso : H so = some (.lst ys)) : Cars ad (upd H so o) ps fs := fun j p f a b =>
  let ⟨dx, e⟩ := h j p f a b
  ⟨dx, by rw [upd_ne (ne_of e hso (by intro z; cases z))]; exact e⟩
theorem cinit {ad : Ad} {H : Hp} {p dx : Addr} {n : Int} {i : Nat} {C : Addr} (hC : C = clsOf ad i) {Q : VK} {E : XK} (np : H p = none) (nd : H dx = none) (nn : dx ≠ p) (h : ∀ H', Same H H' → CarAt ad H' p i n → Q .non H') :
    spCInit ad [.ref p, .int n] (upd (upd H dx (.own p)) p (.ins C dx [])) Q E := by
  subst hC
  refine ⟨p, dx, n, i, rfl, upd_same, h _ (fun b o e => ?_) ⟨dx, upd_same⟩⟩
  rw [upd_ne (ne_of_none e np), upd_ne (ne_of_none e np), upd_ne (ne_of_none e nd)]
  exact e
theorem pairs_kv {H : Hp} : ∀ {ts : List Addr} {ps : List (Int × Int)}, Paired (PairAt H) ts ps → Paired (fun t (kv : Key × V) => H t = some (.tup [kV kv.1, kv.2])) ts (ps.map fun q => (.inl q.1, .int q.2))
  | _, _, .nil => .nil
  | _, _, .cons h r => .cons h (pairs_kv r)
theorem val_pairs {f : Int → Option Int} {o : Int} : ∀ (os : List Int) (acc : List (Key × V)), valV (mergeK acc ((pairsOf f os).map fun q => (.inl q.1, .int q.2))) (.inl o) = if o ∈ os ∧ (f o).isSome = true then (f o).map V.int else valV acc (.inl o)
  | [], acc => by rw [if_neg (by simp)]; rfl
  | x :: os, acc => by
    unfold pairsOf
    rw [List.filterMap_cons]
    cases z : f x with
    | none =>
      have ih := val_pairs (f := f) (o := o) os acc
      unfold pairsOf at ih
      show valV (mergeK acc (((os.filterMap _)).map _)) _ = _
      rw [ih]
      by_cases e : o = x
      · subst e
        rw [z, if_neg (by simp), if_neg (by simp)]
      · have e2 : (o ∈ x :: os ∧ (f o).isSome = true) ↔ (o ∈ os ∧ (f o).isSome = true) := by simp [e]
        by_cases h : o ∈ os ∧ (f o).isSome = true
        · rw [if_pos h, if_pos (e2.mpr h)]
        · rw [if_neg h, if_neg (fun y => h (e2.mp y))]
    | some y =>
      have ih := val_pairs (f := f) (o := o) os (putK acc (.inl x) (.int y))
      unfold pairsOf at ih
      show valV (mergeK (putK acc (.inl x) (.int y)) (((os.filterMap _)).map _)) _ = _
      rw [ih, valV_put]
      by_cases e : o = x
      · subst e
        rw [z, if_pos rfl, if_pos (show o ∈ o :: os ∧ (some y).isSome = true by simp)]
        split <;> rfl
      · have e2 : (o ∈ x :: os ∧ (f o).isSome = true) ↔ (o ∈ os ∧ (f o).isSome = true) := by simp [e]
        rw [if_neg (fun h => e (Sum.inl.inj h))]
        by_cases h : o ∈ os ∧ (f o).isSome = true
        · rw [if_pos h, if_pos (e2.mpr h)]
        · rw [if_neg h, if_neg (fun y => h (e2.mp y))]
def nextC (i w : Nat) (sg : List Nat) (full : Int) (c o k : Int) : Option Int := if o = c then some (min (k + gainOf i (at_ sg c)) full) else if o ∈ besideOf w sg c then (costOf i w sg c o).map fun x => k - x else none
def spNext (ad : Ad) : Sp := fun vs H Q E => ∃ (p fl : Addr) (i : Nat) (n : Int) (w h : Nat) (sg : List Nat) (c o k : Int), vs = [.ref fl, .ref p, .int c, .int o, .int k] ∧ CarAt ad H p i n ∧ i ≤ 3 ∧ FloorAt ad.C_Floor H fl w h sg ∧ Good w h sg ∧ InF sg c ∧
  ∀ H', Same H H' → (match nextC i w sg n c o k with | some x => Q (.int x) H' | none => E (.ref ad.C_BadWay) none H')
def spStAt (ad : Ad) : Sp := fun vs H Q _ => ∃ (p fl : Addr) (i : Nat) (n : Int) (w h : Nat) (sg : List Nat) (c : Int), vs = [.ref fl, .ref p, .int c] ∧ CarAt ad H p i n ∧ i ≤ 3 ∧ FloorAt ad.C_Floor H fl w h sg ∧ Good w h sg ∧ Q (.bl (hasI sg c && stands i (at_ sg c))) H
def walkC (i w : Nat) (sg : List Nat) (full : Int) : Int → Int → List Int → Option (List Int)
  | _, _, [] => some []
  | c, k, o :: r => (nextC i w sg full c o k).bind fun k' => (walkC i w sg full o k' r).map fun ks => k' :: ks
def walkedOf (i w : Nat) (sg : List Nat) (full k : Int) : List Int → Option (List Int)
  | [] => none
  | c :: r => if hasI sg c && stands i (at_ sg c) then (walkC i w sg full c k r).bind fun ks => if (k :: ks).all fun x => decide (0 ≤ x) then some (k :: ks) else none else none
def spWalked (ad : Ad) : Sp := fun vs H Q E => ∃ (p fl wy q : Addr) (i : Nat) (n : Int) (w h : Nat) (sg : List Nat) (b k : Int) (cs : List Int), vs = [.ref fl, .ref p, .ref wy, .int k] ∧ CarAt ad H p i n ∧ i ≤ 3 ∧ FloorAt ad.C_Floor H fl w h sg ∧ Good w h sg ∧
  H wy = some (.tup [.int b, .ref q]) ∧ H q = some (.tup (cs.map V.int)) ∧ cs ≠ [] ∧ cs.length ≤ 100 ∧
  ∀ H', Same H H' → (match walkedOf i w sg n k cs with | some ks => ∀ r, H r = none → H' r = some (.lst (ks.map V.int)) → Q (.ref r) H' | none => E (.ref ad.C_BadWay) none H')
def spCell (K : PySem.W.Frag) : Sp := fun vs H Q _ => ∃ (a : Addr) (ns : List Int) (k : Int), vs = [.ref a, .int k] ∧ SqL K H a (ns.map V.int) ∧ (∀ i ∈ ns, Bits i) ∧ 0 ≤ k ∧ ∀ r : Int, Bits r → Q (.int r) H
def spMixedW : Sp := fun vs H Q _ => ∃ (c k : Int), vs = [.int c, .int k] ∧ Bits c ∧ 0 ≤ k ∧ k ≤ 100 ∧ ∀ r : Int, 0 ≤ r → r < 2147483647 → Q (.int r) H
def kindNo : Nat → Nat
  | 0 => 3
  | n + 1 => n
def spCarrier (ad : Ad) : Sp := fun vs H Q _ => ∃ (j : Nat) (n : Int), vs = [.int (j : Int), .int n] ∧ j ≤ 3 ∧ ∀ p H', Same H H' → H p = none → CarAt ad H' p (kindNo j) n → Q (.ref p) H'
theorem mem_com {c : Nat} : c ∈ (Str.ofString ".+|").cps.toList ↔ common c = true := mem_common
structure G0 (w h : Nat) (sg : List Nat) : Prop where
  w0 : 1 ≤ w
  w1 : w ≤ 10
  h0 : 1 ≤ h
  h1 : h ≤ 10
  len : sg.length = w * h
  ok : ∀ c ∈ sg, sgOk c
theorem lines_snoc {w j : Nat} {sg cs : List Nat} (h1 : sg.length = w * j) (h2 : cs.length = w) : Fl.linesOf w (j + 1) (sg ++ cs) = Fl.linesOf w j sg ++ [txt cs] := by
  unfold Fl.linesOf
  rw [List.range_succ, List.map_append]
  congr 1
  · refine List.map_congr_left fun i hi => ?_
    have hi := List.mem_range.mp hi
    have := line_in (w := w) hi
    unfold lineOf
    rw [List.drop_append_of_le_length (by omega), List.take_append_of_le_length (by rw [List.length_drop]; omega)]
  · simp only [List.map_cons, List.map_nil]
    unfold lineOf
    rw [List.drop_append, List.drop_eq_nil_of_le (by omega), h1, Nat.sub_self, List.drop_zero, List.nil_append, List.take_of_length_le (by omega)]
def spLinesW (K : PySem.W.Frag) : Sp := fun vs H Q _ => ∃ (a : Addr) (ns : List Int), vs = [.ref a] ∧ SqL K H a (ns.map V.int) ∧ (∀ i ∈ ns, Bits i) ∧ ∀ l H' w h sg, H l = none → Same H H' → LinesAt H' l w h sg → G0 w h sg → Q (.ref l) H'
def sgI (sg : List Nat) (c : Int) : Nat := if 0 ≤ c ∧ c < sg.length then at_ sg c else 35
theorem hash35 : V.str (Str.ofString "#") = chr1 35 := congrArg V.str (str_ext (by decide +kernel))
def spSgI : Sp := fun vs H Q _ => ∃ (l : Addr) (w h : Nat) (sg : List Nat) (c : Int), vs = [.ref l, .int c] ∧ LinesAt H l w h sg ∧ Good w h sg ∧ Q (chr1 (sgI sg c)) H
def aroundOf (w n : Nat) (c : Int) : List Int := (if c % w > 0 then [c - 1] else []) ++ (if c % w < (w : Int) - 1 then [c + 1] else []) ++ ([c - w, c + w].filter fun o : Int => decide (0 ≤ o) && decide (o < (n : Int)))
def inRg (n : Nat) : V → Bool
  | .int o => decide (0 ≤ o) && decide (o < (n : Int))
  | _ => false
def spAround : Sp := fun vs H Q _ => ∃ (l : Addr) (w h : Nat) (sg : List Nat) (c : Int), vs = [.ref l, .int c] ∧ LinesAt H l w h sg ∧ Good w h sg ∧ Gives H Q (aroundOf w sg.length c)
def lawC (i w : Nat) (sg : List Nat) (c o : Int) : Option Int := if o ∈ aroundOf w sg.length c ∧ stands i (sgI sg o) = true then (match i with
  | 1 => some (if sgI sg o = 126 then 3 else 1)
  | 2 => if c / w = o / w then some 1 else if sgI sg c = 124 ∨ sgI sg o = 124 then some 2 else none
  | _ => some 1) else none
def spCostW : Sp := fun vs H Q _ => ∃ (l : Addr) (x : Str) (i w h : Nat) (sg : List Nat) (c o : Int), vs = [.ref l, .str x, .int c, .int o] ∧ kindsL[i]? = some x ∧ LinesAt H l w h sg ∧ Good w h sg ∧ ∀ H', Same H H' → Q (optV (lawC i w sg c o)) H'
def dueN (i w : Nat) (sg : List Nat) (full c k o : Int) : Option Int := if o = c then some (min full (k + gainOf i (sgI sg o))) else (lawC i w sg c o).bind fun x => if x > k then none else some (k - x)
def dueC (i w : Nat) (sg : List Nat) (full : Int) : Int → Int → List Int → Option (List Int)
  | _, _, [] => some []
  | c, k, o :: r => (dueN i w sg full c k o).bind fun k' => (dueC i w sg full o k' r).map fun ks => k' :: ks
def dueOf (i w : Nat) (sg : List Nat) (full k : Int) : List Int → Option (List Int)
  | [] => none
  | c :: r => if (c :: r).all (fun o => stands i (sgI sg o)) then (dueC i w sg full c k r).map fun ks => k :: ks else none
def spDue : Sp := fun vs H Q _ => ∃ (l q : Addr) (x : Str) (i w h : Nat) (sg : List Nat) (full k : Int) (cs : List Int), vs = [.ref l, .str x, .int full, .ref q, .int k] ∧ kindsL[i]? = some x ∧ LinesAt H l w h sg ∧ Good w h sg ∧ H q = some (.tup (cs.map V.int)) ∧ cs ≠ [] ∧ cs.length ≤ 100 ∧
  ∀ H', Same H H' → (match dueOf i w sg full k cs with | some ks => ∀ r, H r = none → H' r = some (.lst (ks.map V.int)) → Q (.ref r) H' | none => Q .non H')
def spCellsW (K : PySem.W.Frag) : Sp := fun vs H Q _ => ∃ (a l : Addr) (ns : List Int) (x : Str) (i w h : Nat) (sg : List Nat), vs = [.ref a, .ref l, .str x] ∧ SqL K H a (ns.map V.int) ∧ (∀ i ∈ ns, Bits i) ∧ kindsL[i]? = some x ∧ LinesAt H l w h sg ∧ Good w h sg ∧
  ∀ r H' cs, H r = none → Same H H' → H' r = some (.lst (cs.map V.int)) → cs ≠ [] → cs.length ≤ 25 → Q (.ref r) H'
def spTold (ad : Ad) : Sp := fun vs H Q _ => ∃ (p fl wy q : Addr) (i : Nat) (n : Int) (w h : Nat) (sg : List Nat) (b k : Int) (cs : List Int), vs = [.ref fl, .ref p, .ref wy, .int k] ∧ CarAt ad H p i n ∧ i ≤ 3 ∧ FloorAt ad.C_Floor H fl w h sg ∧ Good w h sg ∧
  H wy = some (.tup [.int b, .ref q]) ∧ H q = some (.tup (cs.map V.int)) ∧ cs ≠ [] ∧ cs.length ≤ 100 ∧
  ∀ H', Same H H' → (match walkedOf i w sg n k cs with | some ks => ∀ r, H r = none → H' r = some (.lst (ks.map V.int)) → Q (.ref r) H' | none => Q (.str "bad") H')
def spLaw (K : PySem.W.Frag) : Sp := fun vs H Q _ => ∃ (a : Addr) (ns : List Int), vs = [.ref a] ∧ SqL K H a (ns.map V.int) ∧ ns.length ≤ 63 ∧ (∀ i ∈ ns, Bits i) ∧ ∀ H', Q (.bl true) H'
theorem pickI (xs : List Int) {q : Int} (h0 : 0 ≤ q) (h1 : q < xs.length) : ∃ y, atI (xs.map V.int) q = some (V.int y) := by
  obtain ⟨j, rfl⟩ := Int.eq_ofNat_of_zero_le h0
  have hj : j < xs.length := by omega
  exact ⟨xs[j], atI_nat (by rw [List.getElem?_map, List.getElem?_eq_getElem hj]; rfl)⟩
def stV (i : Nat) (sg : List Nat) : V → Bool
  | .int o => stands i (sgI sg o)
  | _ => false
theorem around_len {w n : Nat} {c : Int} : (aroundOf w n c).length ≤ 4 := by
  have fl := List.length_filter_le (fun o : Int => decide (0 ≤ o) && decide (o < (n : Int))) [c - (w : Int), c + (w : Int)]
  simp only [List.length_cons, List.length_nil] at fl
  unfold aroundOf
  rw [List.length_append]
  have : ((if c % (w : Int) > 0 then [c - 1] else []) ++ (if c % (w : Int) < (w : Int) - 1 then [c + 1] else [])).length ≤ 2 := by split <;> split <;> simp
  omega
def errs (ad : Ad) : List Addr := [ad.C_BadFloor, ad.C_BadKind, ad.C_BadCell, ad.C_BadCharge, ad.C_BadStops, ad.C_BadWay, ad.C_Empty, ad.C_NoCarrier, ad.C_NoTask, ad.C_Meets, ad.C_Taken, ad.C_Busy, ad.C_NoReserve, ad.C_Closed, ad.C_Jammed]
structure Says (ad : Ad) (K : PySem.W.Frag) (C : Addr) (n : Nat) : Prop where
  k : ErrK K C
  is : ∀ i D, (errs ad)[i]? = some D → PySem.W.kitOne K (.ref C) (.ref D) = some (decide (i = n))
  fe : PySem.W.kitOne K (.ref C) (.ref ad.C_FloorError) = some true
  ve : PySem.W.kitOne K (.ref C) (.type "ValueError") = some true
theorem says_BadWay {K : PySem.W.Frag} {mg : Str → Option Value} {ad : Ad} (T : Txt K mg ad) : Says ad K ad.C_BadWay 5 where
  k := ⟨⟨T.ga_BadWay, T.gn_BadWay, T.bx_BadWay⟩, T.cl_BadWay, T.ca_BadWay, T.cgx, T.ctx, T.cm_BadWay⟩
  is := fun i D h => by
    match i, h with
    | 0, h => cases h; exact T.is_BadWay_BadFloor
    | 1, h => cases h; exact T.is_BadWay_BadKind
    | 2, h => cases h; exact T.is_BadWay_BadCell
    | 3, h => cases h; exact T.is_BadWay_BadCharge
    | 4, h => cases h; exact T.is_BadWay_BadStops
    | 5, h => cases h; exact T.is_BadWay_BadWay
    | 6, h => cases h; exact T.is_BadWay_Empty
    | 7, h => cases h; exact T.is_BadWay_NoCarrier
    | 8, h => cases h; exact T.is_BadWay_NoTask
    | 9, h => cases h; exact T.is_BadWay_Meets
    | 10, h => cases h; exact T.is_BadWay_Taken
    | 11, h => cases h; exact T.is_BadWay_Busy
    | 12, h => cases h; exact T.is_BadWay_NoReserve
    | 13, h => cases h; exact T.is_BadWay_Closed
    | 14, h => cases h; exact T.is_BadWay_Jammed
    | (i + 15), h => simp [errs] at h
  fe := T.is_BadWay_FloorError
  ve := T.is_BadWay_ValueError
def spBadWay (ad : Ad) (K : PySem.W.Frag) (ea C : Addr) (dx : Option Addr) : Sp := fun vs H Q _ => vs = [.ref ea] ∧ dx = none ∧ Says ad K C 5 ∧ ∀ H', Same H H' → Q (.bl true) H'
theorem walkC_len {i w : Nat} {sg : List Nat} {full : Int} : ∀ {r : List Int} {c k : Int} {ks : List Int}, walkC i w sg full c k r = some ks → ks.length = r.length
  | [], _, _, ks, h => by cases h; rfl
  | o :: r, c, k, ks, h => by
    simp only [walkC] at h
    cases h1 : nextC i w sg full c o k with
    | none => rw [h1] at h; cases h
    | some k' =>
      rw [h1, Option.bind_some] at h
      obtain ⟨ys, h2, rfl⟩ := Option.map_eq_some_iff.mp h
      simp [walkC_len h2]
theorem walked_len {i w : Nat} {sg : List Nat} {full k : Int} {cs ks : List Int} (h : walkedOf i w sg full k cs = some ks) : ks.length = cs.length := by
  cases cs with
  | nil => cases h
  | cons c r =>
    simp only [walkedOf] at h
    split at h
    · cases h2 : walkC i w sg full c k r with
      | none => rw [h2] at h; cases h
      | some ys =>
        rw [h2, Option.bind_some] at h
        split at h
        · cases h
          simp [walkC_len h2]
        · cases h
    · cases h
theorem st_in {sg : List Nat} {i : Nat} {o : Int} (h : stands i (sgI sg o) = true) : InF sg o ∧ at_ sg o = sgI sg o ∧ hasI sg o = true := by
  by_cases a : 0 ≤ o ∧ o < sg.length
  · have e : sgI sg o = at_ sg o := by unfold sgI; rw [if_pos a]
    rw [e] at h ⊢
    refine ⟨a, rfl, ?_⟩
    have n : at_ sg o ≠ 35 := fun e => by rw [e] at h; simp [stands, common] at h
    simp [hasI, a.1, a.2, n]
  · have e : sgI sg o = 35 := by unfold sgI; rw [if_neg a]
    rw [e] at h
    simp [stands, common] at h
theorem has_st {sg : List Nat} {i : Nat} {c : Int} : (hasI sg c && stands i (at_ sg c)) = stands i (sgI sg c) := by
  by_cases a : stands i (sgI sg c) = true
  · obtain ⟨_, e, hh⟩ := st_in a
    rw [hh, e, a]
    rfl
  · rw [Bool.not_eq_true] at a
    rw [a]
    by_cases b : 0 ≤ c ∧ c < sg.length
    · unfold sgI at a
      rw [if_pos b] at a
      rw [a, Bool.and_false]
    · have n : hasI sg c = false := by
        unfold hasI
        by_cases b0 : 0 ≤ c
        · rw [decide_eq_false (fun z => b ⟨b0, z⟩)]
          simp
        · rw [decide_eq_false b0]
          simp
      rw [n, Bool.false_and]
theorem costs_eq {i w : Nat} {sg : List Nat} {c o : Int} (hc : stands i (sgI sg c) = true) : (if o ∈ besideOf w sg c then costOf i w sg c o else none) = lawC i w sg c o := by
  obtain ⟨c1, c2, c3⟩ := st_in hc
  have mb : o ∈ besideOf w sg c ↔ (o = c - w ∨ (c % w > 0 ∧ o = c - 1) ∨ (c % w < (w : Int) - 1 ∧ o = c + 1) ∨ o = c + w) ∧ hasI sg o = true := by
    unfold besideOf nearOf
    rw [List.mem_filter]
    by_cases a1 : c % w > 0 <;> by_cases a2 : c % w < (w : Int) - 1 <;> simp [a1, a2]
  have ma : o ∈ aroundOf w sg.length c ↔ (c % w > 0 ∧ o = c - 1) ∨ (c % w < (w : Int) - 1 ∧ o = c + 1) ∨ ((o = c - w ∨ o = c + w) ∧ 0 ≤ o ∧ o < sg.length) := by
    unfold aroundOf
    rw [List.mem_append, List.mem_append, List.mem_filter]
    by_cases a1 : c % w > 0 <;> by_cases a2 : c % w < (w : Int) - 1 <;> simp [a1, a2, or_assoc]
  unfold lawC
  by_cases a : stands i (sgI sg o) = true
  · obtain ⟨o1, o2, o3⟩ := st_in a
    have iff : o ∈ besideOf w sg c ↔ o ∈ aroundOf w sg.length c := by
      rw [mb, ma]
      constructor
      · rintro ⟨h, _⟩
        rcases h with h | h | h | h
        · exact .inr (.inr ⟨.inl h, o1⟩)
        · exact .inl h
        · exact .inr (.inl h)
        · exact .inr (.inr ⟨.inr h, o1⟩)
      · rintro (h | h | ⟨h | h, _⟩)
        · exact ⟨.inr (.inl h), o3⟩
        · exact ⟨.inr (.inr (.inl h)), o3⟩
        · exact ⟨.inl h, o3⟩
        · exact ⟨.inr (.inr (.inr h)), o3⟩
    by_cases m : o ∈ aroundOf w sg.length c
    · rw [if_pos (iff.mpr m), if_pos ⟨m, a⟩]
      unfold costOf
      rw [o2, c2, hc, a, Bool.and_self, if_pos rfl]
      unfold fareOf
      rw [o2, c2]
    · rw [if_neg (fun z => m (iff.mp z)), if_neg (show ¬ (o ∈ aroundOf w sg.length c ∧ stands i (sgI sg o) = true) from fun z => m z.1)]
  · rw [if_neg (show ¬ (o ∈ aroundOf w sg.length c ∧ stands i (sgI sg o) = true) from fun z => a z.2)]
    by_cases m : o ∈ besideOf w sg c
    · rw [if_pos m]
      have o3 := (mb.mp m).2
      have e := has_st (sg := sg) (i := i) (c := o)
      rw [o3, Bool.true_and] at e
      rw [Bool.not_eq_true] at a
      unfold costOf
      rw [e, a, Bool.and_false, if_neg (by decide)]
    · rw [if_neg m]
theorem gain_nn (i c : Nat) : 0 ≤ gainOf i c := by
  unfold gainOf
  split
  · split <;> decide
  · decide
theorem next_law {i w : Nat} {sg : List Nat} {full c o k : Int} (hc : stands i (sgI sg c) = true) : nextC i w sg full c o k = if o = c then some (min full (k + gainOf i (sgI sg o))) else (lawC i w sg c o).map fun x => k - x := by
  unfold nextC
  by_cases e : o = c
  · rw [if_pos e, if_pos e, e, (st_in hc).2.1]
    congr 1
    omega
  · rw [if_neg e, if_neg e, ← costs_eq hc]
    split <;> rfl
def nn (ks : List Int) : Option (List Int) := if ks.all fun x => decide (0 ≤ x) then some ks else none
theorem nn_cons (k : Int) (ks : List Int) : nn (k :: ks) = if 0 ≤ k then (nn ks).map fun ys => k :: ys else none := by
  unfold nn
  rw [List.all_cons]
  by_cases a : 0 ≤ k
  · rw [if_pos a, decide_eq_true a, Bool.true_and]
    split <;> rfl
  · rw [if_neg a, decide_eq_false a, Bool.false_and, if_neg (by decide)]
theorem map_bind_nn (k : Int) (o : Option (List Int)) : (o.map fun ks => k :: ks).bind nn = if 0 ≤ k then (o.bind nn).map fun ys => k :: ys else none := by
  cases o with
  | none => simp
  | some ks =>
    simp only [Option.map_some, Option.bind_some]
    exact nn_cons k ks
theorem walkC_due {i w : Nat} {sg : List Nat} {full : Int} (f0 : 0 ≤ full) : ∀ (r : List Int) (c k : Int), stands i (sgI sg c) = true → 0 ≤ k →
    (walkC i w sg full c k r).bind nn = if r.all (fun o => stands i (sgI sg o)) then dueC i w sg full c k r else none
  | [], c, k, hc, k0 => rfl
  | o :: r, c, k, hc, k0 => by
    have g0 := gain_nn i (sgI sg o)
    have ea : ((o :: r).all fun o => stands i (sgI sg o)) = (stands i (sgI sg o) && r.all fun o => stands i (sgI sg o)) := rfl
    rw [ea]
    simp only [walkC, dueC]
    rw [next_law hc]
    unfold dueN
    by_cases e : o = c
    · rw [if_pos e, if_pos e, Option.bind_some, Option.bind_some, map_bind_nn, if_pos (by omega)]
      have ho : stands i (sgI sg o) = true := by rw [e]; exact hc
      rw [walkC_due f0 r o _ ho (by omega), ho, Bool.true_and]
      split <;> rfl
    · rw [if_neg e, if_neg e]
      cases hl : lawC i w sg c o with
      | none => simp
      | some x =>
        have ho : stands i (sgI sg o) = true := by
          unfold lawC at hl
          by_cases m : o ∈ aroundOf w sg.length c ∧ stands i (sgI sg o) = true
          · exact m.2
          · rw [if_neg m] at hl
            cases hl
        rw [Option.map_some, Option.bind_some, Option.bind_some, map_bind_nn, ho, Bool.true_and]
        by_cases lt : x > k
        · rw [if_neg (by omega), if_pos lt]
          split <;> rfl
        · rw [if_pos (by omega), if_neg lt, Option.bind_some, walkC_due f0 r o _ ho (by omega)]
          split <;> rfl
theorem walked_due {i w : Nat} {sg : List Nat} {full k : Int} {cs : List Int} (f0 : 0 ≤ full) (k0 : 0 ≤ k) : walkedOf i w sg full k cs = dueOf i w sg full k cs := by
  cases cs with
  | nil => rfl
  | cons c r =>
    simp only [walkedOf, dueOf]
    rw [has_st, List.all_cons]
    by_cases hc : stands i (sgI sg c) = true
    · rw [hc, Bool.true_and, if_pos rfl]
      have e := walkC_due (w := w) f0 r c k hc k0
      have e2 : ((walkC i w sg full c k r).bind fun ks => if (k :: ks).all fun x => decide (0 ≤ x) then some (k :: ks) else none) = ((walkC i w sg full c k r).bind nn).map fun ks => k :: ks := by
        cases walkC i w sg full c k r with
        | none => rfl
        | some ks =>
          have := nn_cons k ks
          rw [if_pos k0] at this
          exact this
      rw [e2, e]
      split <;> rfl
    · rw [Bool.not_eq_true] at hc
      rw [hc, Bool.false_and, if_neg (by decide), if_neg (by decide)]
def ToldV (H : Hp) (v : V) : Option (List Int) → Prop
  | some ks => ∃ d, v = .ref d ∧ H d = some (.lst (ks.map V.int))
  | none => v = .str (Str.ofString "bad")
def DueV (H : Hp) (v : V) : Option (List Int) → Prop
  | some ks => ∃ d, v = .ref d ∧ H d = some (.lst (ks.map V.int))
  | none => v = .non
theorem told_due {K : PySem.W.Frag} {H : Hp} {v t : V} {A B : Prop} : ∀ {o : Option (List Int)}, ToldV H t o → DueV H v o → B →
    if v = V.non then ∃ d, Den K H t d ∧ ∃ x, Den K H (V.str (Str.ofString "bad")) x ∧ SeqAt.shaped d = true ∧ SeqAt.shaped x = true ∧ (if d.eqv x = false then A else B)
    else ∃ d, Den K H t d ∧ ∃ x, Den K H v x ∧ SeqAt.shaped d = true ∧ SeqAt.shaped x = true ∧ (if d.eqv x = false then A else B)
  | some ks, ⟨a, ea, ha⟩, ⟨b, eb, hb⟩, h => by
    subst ea
    subst eb
    have hs := shaped_ints ks
    rw [if_neg (fun z => by cases z)]
    refine ⟨_, den_ints (SqL.of ha), _, den_ints (SqL.of hb), hs, hs, ?_⟩
    rw [eqv_self _ (SeqAt.canLay_of_shaped hs), if_neg (by decide)]
    exact h
  | none, ht, hv, h => by
    have ht : t = _ := ht
    have hv : v = _ := hv
    subst ht
    subst hv
    have hs : SeqAt.shaped (.str (Str.ofString "bad")) = true := by decide +kernel
    rw [if_pos rfl]
    refine ⟨_, .str _, _, .str _, hs, hs, ?_⟩
    rw [eqv_self _ (SeqAt.canLay_of_shaped hs), if_neg (by decide)]
    exact h
theorem line_len0 {w h : Nat} {sg : List Nat} (len : sg.length = w * h) {j : Nat} (hj : j < h) : (lineOf w sg j).length = w := by
  have := line_in (w := w) hj
  unfold lineOf
  rw [txt_len, List.length_take, List.length_drop]
  omega
theorem lines_fix {w h : Nat} {sg : List Nat} (w0 : 1 ≤ w) (len : sg.length = w * h) (h0 : 1 ≤ h) : Fl.linesOf w h (46 :: sg.drop 1) = (Fl.linesOf w h sg).set 0 (txt (46 :: ((sg.take w).drop 1))) := by
  have wh : w ≤ w * h := by
    have := Nat.mul_le_mul_left w h0
    rwa [Nat.mul_one] at this
  refine List.ext_getElem? fun j => ?_
  by_cases hj : j < h
  · rw [lines_get hj]
    by_cases j0 : j = 0
    · subst j0
      rw [List.getElem?_set_self (by rw [lines_len]; exact hj)]
      unfold lineOf
      rw [Nat.mul_zero, List.drop_zero]
      congr 2
      obtain ⟨v, rfl⟩ : ∃ v, w = v + 1 := ⟨w - 1, by omega⟩
      rw [List.take_succ_cons, List.drop_take]
      rfl
    · rw [List.getElem?_set_ne (by omega), lines_get hj]
      unfold lineOf
      obtain ⟨v, hv⟩ : ∃ v, w * j = v + 1 := ⟨w * j - 1, by
        have := Nat.mul_le_mul w0 (show 1 ≤ j by omega)
        omega⟩
      rw [hv, List.drop_succ_cons, List.drop_drop, Nat.add_comm 1 v]
  · rw [List.getElem?_eq_none (by rw [lines_len]; omega), List.getElem?_eq_none (by rw [List.length_set, lines_len]; omega)]
def noHash (z : Str) : Bool := !decide (z = Txt.mul (Str.ofString "#") (z.length : Int))
def noHashV : V → Bool
  | .str z => noHash z
  | _ => false
theorem hash_line {cs : List Nat} (h : ∀ c ∈ cs, c = 35) : noHash (txt cs) = false := by
  have e : txt cs = Txt.mul (Str.ofString "#") ((txt cs).length : Int) := by
    refine str_ext ?_
    rw [mul_list, txt_list, txt_len]
    have e : (Str.ofString "#").cps.toList = [35] := by decide +kernel
    rw [e]
    have : ∀ n : Nat, (List.replicate n [35]).flatten = List.replicate n 35 := by
      intro n
      induction n with
      | zero => rfl
      | succ n ih => rw [List.replicate_succ, List.flatten_cons, ih, List.replicate_succ]; rfl
    first
      | rw [this]; exact List.eq_replicate_iff.mpr ⟨rfl, h⟩
      | (rw [Int.toNat_natCast, this]; exact List.eq_replicate_iff.mpr ⟨rfl, h⟩)
  unfold noHash
  rw [decide_eq_true e]
  rfl
theorem DueV.same {H H' : Hp} {v : V} (s : Same H H') : ∀ {o : Option (List Int)}, DueV H v o → DueV H' v o
  | some ks, ⟨d, e, h⟩ => ⟨d, e, s _ _ h⟩
  | none, h => h
seal PA PE PS PSs PI PG
section
variable {P : Program} {w : World} {K : PySem.W.Frag} {mg : Str → Option Value} {base : Heap} {ad : Ad}
theorem d_BadCell : (("BadCell" : Str) == ("__debug__" : Str)) = false := by decide +kernel
theorem d_BadCharge : (("BadCharge" : Str) == ("__debug__" : Str)) = false := by decide +kernel
theorem d_BadFloor : (("BadFloor" : Str) == ("__debug__" : Str)) = false := by decide +kernel
theorem d_BadKind : (("BadKind" : Str) == ("__debug__" : Str)) = false := by decide +kernel
theorem d_BadStops : (("BadStops" : Str) == ("__debug__" : Str)) = false := by decide +kernel
theorem d_BadWay : (("BadWay" : Str) == ("__debug__" : Str)) = false := by decide +kernel
theorem d_Busy : (("Busy" : Str) == ("__debug__" : Str)) = false := by decide +kernel
theorem d_CHARGER : (("CHARGER" : Str) == ("__debug__" : Str)) = false := by decide +kernel
theorem d_COMMON_SIGNS : (("COMMON_SIGNS" : Str) == ("__debug__" : Str)) = false := by decide +kernel
theorem d_Carrier : (("Carrier" : Str) == ("__debug__" : Str)) = false := by decide +kernel
theorem d_Cart : (("Cart" : Str) == ("__debug__" : Str)) = false := by decide +kernel
theorem d_Closed : (("Closed" : Str) == ("__debug__" : Str)) = false := by decide +kernel
theorem d_Crawler : (("Crawler" : Str) == ("__debug__" : Str)) = false := by decide +kernel
theorem d_Empty : (("Empty" : Str) == ("__debug__" : Str)) = false := by decide +kernel
theorem d_Floor : (("Floor" : Str) == ("__debug__" : Str)) = false := by decide +kernel
theorem d_FloorError : (("FloorError" : Str) == ("__debug__" : Str)) = false := by decide +kernel
theorem d_Jammed : (("Jammed" : Str) == ("__debug__" : Str)) = false := by decide +kernel
theorem d_LANE : (("LANE" : Str) == ("__debug__" : Str)) = false := by decide +kernel
theorem d_MOST_ROWS : (("MOST_ROWS" : Str) == ("__debug__" : Str)) = false := by decide +kernel
theorem d_MOST_SIGNS : (("MOST_SIGNS" : Str) == ("__debug__" : Str)) = false := by decide +kernel
theorem d_Meets : (("Meets" : Str) == ("__debug__" : Str)) = false := by decide +kernel
theorem d_NoCarrier : (("NoCarrier" : Str) == ("__debug__" : Str)) = false := by decide +kernel
theorem d_NoReserve : (("NoReserve" : Str) == ("__debug__" : Str)) = false := by decide +kernel
theorem d_NoTask : (("NoTask" : Str) == ("__debug__" : Str)) = false := by decide +kernel
theorem d_ROUGH : (("ROUGH" : Str) == ("__debug__" : Str)) = false := by decide +kernel
theorem d_Runner : (("Runner" : Str) == ("__debug__" : Str)) = false := by decide +kernel
theorem d_SIGNS : (("SIGNS" : Str) == ("__debug__" : Str)) = false := by decide +kernel
theorem d_Taken : (("Taken" : Str) == ("__debug__" : Str)) = false := by decide +kernel
theorem d_ValueError : (("ValueError" : Str) == ("__debug__" : Str)) = false := by decide +kernel
theorem n_ValueError : ("ValueError" : Str) ≠ "__name__" := by decide +kernel
theorem d_WALL : (("WALL" : Str) == ("__debug__" : Str)) = false := by decide +kernel
theorem d__law_around : (("_law_around" : Str) == ("__debug__" : Str)) = false := by decide +kernel
theorem d__law_begin : (("_law_begin" : Str) == ("__debug__" : Str)) = false := by decide +kernel
theorem e__law_begin : (("_law_begin" : Str) == ("__classdict__" : Str)) = false := by decide +kernel
theorem d__law_carrier : (("_law_carrier" : Str) == ("__debug__" : Str)) = false := by decide +kernel
theorem d__law_carrier_here : (("_law_carrier_here" : Str) == ("__debug__" : Str)) = false := by decide +kernel
theorem e__law_carrier_here : (("_law_carrier_here" : Str) == ("__classdict__" : Str)) = false := by decide +kernel
theorem d__law_cell : (("_law_cell" : Str) == ("__debug__" : Str)) = false := by decide +kernel
theorem e__law_cell : (("_law_cell" : Str) == ("__classdict__" : Str)) = false := by decide +kernel
theorem d__law_cell_at : (("_law_cell_at" : Str) == ("__debug__" : Str)) = false := by decide +kernel
theorem d__law_cells : (("_law_cells" : Str) == ("__debug__" : Str)) = false := by decide +kernel
theorem d__law_cells_here : (("_law_cells_here" : Str) == ("__debug__" : Str)) = false := by decide +kernel
theorem e__law_cells_here : (("_law_cells_here" : Str) == ("__classdict__" : Str)) = false := by decide +kernel
theorem d__law_charge : (("_law_charge" : Str) == ("__debug__" : Str)) = false := by decide +kernel
theorem e__law_charge : (("_law_charge" : Str) == ("__classdict__" : Str)) = false := by decide +kernel
theorem d__law_column : (("_law_column" : Str) == ("__debug__" : Str)) = false := by decide +kernel
theorem e__law_column : (("_law_column" : Str) == ("__classdict__" : Str)) = false := by decide +kernel
theorem d__law_copy : (("_law_copy" : Str) == ("__debug__" : Str)) = false := by decide +kernel
theorem e__law_copy : (("_law_copy" : Str) == ("__classdict__" : Str)) = false := by decide +kernel
theorem d__law_cost : (("_law_cost" : Str) == ("__debug__" : Str)) = false := by decide +kernel
theorem d__law_cost_here : (("_law_cost_here" : Str) == ("__debug__" : Str)) = false := by decide +kernel
theorem e__law_cost_here : (("_law_cost_here" : Str) == ("__classdict__" : Str)) = false := by decide +kernel
theorem d__law_due : (("_law_due" : Str) == ("__debug__" : Str)) = false := by decide +kernel
theorem d__law_due_here : (("_law_due_here" : Str) == ("__debug__" : Str)) = false := by decide +kernel
theorem e__law_due_here : (("_law_due_here" : Str) == ("__classdict__" : Str)) = false := by decide +kernel
theorem d__law_due_other : (("_law_due_other" : Str) == ("__debug__" : Str)) = false := by decide +kernel
theorem e__law_due_other : (("_law_due_other" : Str) == ("__classdict__" : Str)) = false := by decide +kernel
theorem d__law_error : (("_law_error" : Str) == ("__debug__" : Str)) = false := by decide +kernel
theorem e__law_error : (("_law_error" : Str) == ("__classdict__" : Str)) = false := by decide +kernel
theorem d__law_floor : (("_law_floor" : Str) == ("__debug__" : Str)) = false := by decide +kernel
theorem e__law_floor : (("_law_floor" : Str) == ("__classdict__" : Str)) = false := by decide +kernel
theorem d__law_found : (("_law_found" : Str) == ("__debug__" : Str)) = false := by decide +kernel
theorem e__law_found : (("_law_found" : Str) == ("__classdict__" : Str)) = false := by decide +kernel
theorem d__law_full : (("_law_full" : Str) == ("__debug__" : Str)) = false := by decide +kernel
theorem e__law_full : (("_law_full" : Str) == ("__classdict__" : Str)) = false := by decide +kernel
theorem d__law_gain : (("_law_gain" : Str) == ("__debug__" : Str)) = false := by decide +kernel
theorem e__law_gain : (("_law_gain" : Str) == ("__classdict__" : Str)) = false := by decide +kernel
theorem d__law_good : (("_law_good" : Str) == ("__debug__" : Str)) = false := by decide +kernel
theorem e__law_good : (("_law_good" : Str) == ("__classdict__" : Str)) = false := by decide +kernel
theorem d__law_high : (("_law_high" : Str) == ("__debug__" : Str)) = false := by decide +kernel
theorem e__law_high : (("_law_high" : Str) == ("__classdict__" : Str)) = false := by decide +kernel
theorem d__law_is_bad_way : (("_law_is_bad_way" : Str) == ("__debug__" : Str)) = false := by decide +kernel
theorem d__law_k : (("_law_k" : Str) == ("__debug__" : Str)) = false := by decide +kernel
theorem e__law_k : (("_law_k" : Str) == ("__classdict__" : Str)) = false := by decide +kernel
theorem d__law_kind : (("_law_kind" : Str) == ("__debug__" : Str)) = false := by decide +kernel
theorem e__law_kind : (("_law_kind" : Str) == ("__classdict__" : Str)) = false := by decide +kernel
theorem d__law_line : (("_law_line" : Str) == ("__debug__" : Str)) = false := by decide +kernel
theorem e__law_line : (("_law_line" : Str) == ("__classdict__" : Str)) = false := by decide +kernel
theorem d__law_lines : (("_law_lines" : Str) == ("__debug__" : Str)) = false := by decide +kernel
theorem d__law_mixed : (("_law_mixed" : Str) == ("__debug__" : Str)) = false := by decide +kernel
theorem d__law_near : (("_law_near" : Str) == ("__debug__" : Str)) = false := by decide +kernel
theorem e__law_near : (("_law_near" : Str) == ("__classdict__" : Str)) = false := by decide +kernel
theorem d__law_number : (("_law_number" : Str) == ("__debug__" : Str)) = false := by decide +kernel
theorem e__law_number : (("_law_number" : Str) == ("__classdict__" : Str)) = false := by decide +kernel
theorem d__law_other : (("_law_other" : Str) == ("__debug__" : Str)) = false := by decide +kernel
theorem e__law_other : (("_law_other" : Str) == ("__classdict__" : Str)) = false := by decide +kernel
theorem d__law_other_kind : (("_law_other_kind" : Str) == ("__debug__" : Str)) = false := by decide +kernel
theorem e__law_other_kind : (("_law_other_kind" : Str) == ("__classdict__" : Str)) = false := by decide +kernel
theorem d__law_place : (("_law_place" : Str) == ("__debug__" : Str)) = false := by decide +kernel
theorem e__law_place : (("_law_place" : Str) == ("__classdict__" : Str)) = false := by decide +kernel
theorem d__law_row : (("_law_row" : Str) == ("__debug__" : Str)) = false := by decide +kernel
theorem e__law_row : (("_law_row" : Str) == ("__classdict__" : Str)) = false := by decide +kernel
theorem d__law_rows : (("_law_rows" : Str) == ("__debug__" : Str)) = false := by decide +kernel
theorem e__law_rows : (("_law_rows" : Str) == ("__classdict__" : Str)) = false := by decide +kernel
theorem d__law_script : (("_law_script" : Str) == ("__debug__" : Str)) = false := by decide +kernel
theorem e__law_script : (("_law_script" : Str) == ("__classdict__" : Str)) = false := by decide +kernel
theorem d__law_sign : (("_law_sign" : Str) == ("__debug__" : Str)) = false := by decide +kernel
theorem d__law_sign_here : (("_law_sign_here" : Str) == ("__debug__" : Str)) = false := by decide +kernel
theorem e__law_sign_here : (("_law_sign_here" : Str) == ("__classdict__" : Str)) = false := by decide +kernel
theorem d__law_signs : (("_law_signs" : Str) == ("__debug__" : Str)) = false := by decide +kernel
theorem e__law_signs : (("_law_signs" : Str) == ("__classdict__" : Str)) = false := by decide +kernel
theorem d__law_size : (("_law_size" : Str) == ("__debug__" : Str)) = false := by decide +kernel
theorem e__law_size : (("_law_size" : Str) == ("__classdict__" : Str)) = false := by decide +kernel
theorem d__law_some : (("_law_some" : Str) == ("__debug__" : Str)) = false := by decide +kernel
theorem e__law_some : (("_law_some" : Str) == ("__classdict__" : Str)) = false := by decide +kernel
theorem d__law_stands : (("_law_stands" : Str) == ("__debug__" : Str)) = false := by decide +kernel
theorem d__law_told : (("_law_told" : Str) == ("__debug__" : Str)) = false := by decide +kernel
theorem d__law_told_here : (("_law_told_here" : Str) == ("__debug__" : Str)) = false := by decide +kernel
theorem e__law_told_here : (("_law_told_here" : Str) == ("__classdict__" : Str)) = false := by decide +kernel
theorem d__law_way : (("_law_way" : Str) == ("__debug__" : Str)) = false := by decide +kernel
theorem e__law_way : (("_law_way" : Str) == ("__classdict__" : Str)) = false := by decide +kernel
theorem d__law_which : (("_law_which" : Str) == ("__debug__" : Str)) = false := by decide +kernel
theorem e__law_which : (("_law_which" : Str) == ("__classdict__" : Str)) = false := by decide +kernel
theorem d__law_whole : (("_law_whole" : Str) == ("__debug__" : Str)) = false := by decide +kernel
theorem d__law_wide : (("_law_wide" : Str) == ("__debug__" : Str)) = false := by decide +kernel
theorem e__law_wide : (("_law_wide" : Str) == ("__classdict__" : Str)) = false := by decide +kernel
theorem d_all : (("all" : Str) == ("__debug__" : Str)) = false := by decide +kernel
theorem n_all : ("all" : Str) ≠ "__name__" := by decide +kernel
theorem d_bool : (("bool" : Str) == ("__debug__" : Str)) = false := by decide +kernel
theorem n_bool : ("bool" : Str) ≠ "__name__" := by decide +kernel
theorem d_carrier : (("carrier" : Str) == ("__debug__" : Str)) = false := by decide +kernel
theorem e_carrier : (("carrier" : Str) == ("__classdict__" : Str)) = false := by decide +kernel
theorem d_cell : (("cell" : Str) == ("__debug__" : Str)) = false := by decide +kernel
theorem e_cell : (("cell" : Str) == ("__classdict__" : Str)) = false := by decide +kernel
theorem d_cells : (("cells" : Str) == ("__debug__" : Str)) = false := by decide +kernel
theorem e_cells : (("cells" : Str) == ("__classdict__" : Str)) = false := by decide +kernel
theorem d_charge : (("charge" : Str) == ("__debug__" : Str)) = false := by decide +kernel
theorem e_charge : (("charge" : Str) == ("__classdict__" : Str)) = false := by decide +kernel
theorem d_charges : (("charges" : Str) == ("__debug__" : Str)) = false := by decide +kernel
theorem e_charges : (("charges" : Str) == ("__classdict__" : Str)) = false := by decide +kernel
theorem d_check_floor : (("check_floor" : Str) == ("__debug__" : Str)) = false := by decide +kernel
theorem d_check_row : (("check_row" : Str) == ("__debug__" : Str)) = false := by decide +kernel
theorem d_cost : (("cost" : Str) == ("__debug__" : Str)) = false := by decide +kernel
theorem e_cost : (("cost" : Str) == ("__classdict__" : Str)) = false := by decide +kernel
theorem d_dict : (("dict" : Str) == ("__debug__" : Str)) = false := by decide +kernel
theorem n_dict : ("dict" : Str) ≠ "__name__" := by decide +kernel
theorem d_floor : (("floor" : Str) == ("__debug__" : Str)) = false := by decide +kernel
theorem e_floor : (("floor" : Str) == ("__classdict__" : Str)) = false := by decide +kernel
theorem d_full : (("full" : Str) == ("__debug__" : Str)) = false := by decide +kernel
theorem e_full : (("full" : Str) == ("__classdict__" : Str)) = false := by decide +kernel
theorem d_index : (("index" : Str) == ("__debug__" : Str)) = false := by decide +kernel
theorem e_index : (("index" : Str) == ("__classdict__" : Str)) = false := by decide +kernel
theorem d_int : (("int" : Str) == ("__debug__" : Str)) = false := by decide +kernel
theorem n_int : ("int" : Str) ≠ "__name__" := by decide +kernel
theorem d_is_among : (("is_among" : Str) == ("__debug__" : Str)) = false := by decide +kernel
theorem d_is_whole : (("is_whole" : Str) == ("__debug__" : Str)) = false := by decide +kernel
theorem d_isinstance : (("isinstance" : Str) == ("__debug__" : Str)) = false := by decide +kernel
theorem n_isinstance : ("isinstance" : Str) ≠ "__name__" := by decide +kernel
theorem d_least : (("least" : Str) == ("__debug__" : Str)) = false := by decide +kernel
theorem e_least : (("least" : Str) == ("__classdict__" : Str)) = false := by decide +kernel
theorem d_len : (("len" : Str) == ("__debug__" : Str)) = false := by decide +kernel
theorem n_len : ("len" : Str) ≠ "__name__" := by decide +kernel
theorem d_line : (("line" : Str) == ("__debug__" : Str)) = false := by decide +kernel
theorem e_line : (("line" : Str) == ("__classdict__" : Str)) = false := by decide +kernel
theorem d_lines : (("lines" : Str) == ("__debug__" : Str)) = false := by decide +kernel
theorem e_lines : (("lines" : Str) == ("__classdict__" : Str)) = false := by decide +kernel
theorem d_list : (("list" : Str) == ("__debug__" : Str)) = false := by decide +kernel
theorem n_list : ("list" : Str) ≠ "__name__" := by decide +kernel
theorem d_max : (("max" : Str) == ("__debug__" : Str)) = false := by decide +kernel
theorem n_max : ("max" : Str) ≠ "__name__" := by decide +kernel
theorem d_min : (("min" : Str) == ("__debug__" : Str)) = false := by decide +kernel
theorem n_min : ("min" : Str) ≠ "__name__" := by decide +kernel
theorem d_most : (("most" : Str) == ("__debug__" : Str)) = false := by decide +kernel
theorem e_most : (("most" : Str) == ("__classdict__" : Str)) = false := by decide +kernel
theorem d_near : (("near" : Str) == ("__debug__" : Str)) = false := by decide +kernel
theorem e_near : (("near" : Str) == ("__classdict__" : Str)) = false := by decide +kernel
theorem d_next_charge : (("next_charge" : Str) == ("__debug__" : Str)) = false := by decide +kernel
theorem d_other : (("other" : Str) == ("__debug__" : Str)) = false := by decide +kernel
theorem e_other : (("other" : Str) == ("__classdict__" : Str)) = false := by decide +kernel
theorem d_pairs : (("pairs" : Str) == ("__debug__" : Str)) = false := by decide +kernel
theorem e_pairs : (("pairs" : Str) == ("__classdict__" : Str)) = false := by decide +kernel
theorem d_self : (("self" : Str) == ("__debug__" : Str)) = false := by decide +kernel
theorem e_self : (("self" : Str) == ("__classdict__" : Str)) = false := by decide +kernel
theorem d_sign : (("sign" : Str) == ("__debug__" : Str)) = false := by decide +kernel
theorem e_sign : (("sign" : Str) == ("__classdict__" : Str)) = false := by decide +kernel
theorem d_stands_at : (("stands_at" : Str) == ("__debug__" : Str)) = false := by decide +kernel
theorem d_str : (("str" : Str) == ("__debug__" : Str)) = false := by decide +kernel
theorem n_str : ("str" : Str) ≠ "__name__" := by decide +kernel
theorem d_thing : (("thing" : Str) == ("__debug__" : Str)) = false := by decide +kernel
theorem e_thing : (("thing" : Str) == ("__classdict__" : Str)) = false := by decide +kernel
theorem d_tuple : (("tuple" : Str) == ("__debug__" : Str)) = false := by decide +kernel
theorem n_tuple : ("tuple" : Str) ≠ "__name__" := by decide +kernel
theorem d_walked : (("walked" : Str) == ("__debug__" : Str)) = false := by decide +kernel
theorem d_way : (("way" : Str) == ("__debug__" : Str)) = false := by decide +kernel
theorem e_way : (("way" : Str) == ("__classdict__" : Str)) = false := by decide +kernel
theorem d_wide : (("wide" : Str) == ("__debug__" : Str)) = false := by decide +kernel
theorem e_wide : (("wide" : Str) == ("__classdict__" : Str)) = false := by decide +kernel
theorem l_is_whole_thing : (defScope s_is_whole).names.lookup ("thing" : Str) = some .local := by decide +kernel
theorem v_is_whole_thing : Vis (defScope s_is_whole) "thing" := Or.inl l_is_whole_thing
theorem l_is_among_thing : (defScope s_is_among).names.lookup ("thing" : Str) = some .local := by decide +kernel
theorem v_is_among_thing : Vis (defScope s_is_among) "thing" := Or.inl l_is_among_thing
theorem l_is_among_least : (defScope s_is_among).names.lookup ("least" : Str) = some .local := by decide +kernel
theorem v_is_among_least : Vis (defScope s_is_among) "least" := Or.inl l_is_among_least
theorem l_is_among_most : (defScope s_is_among).names.lookup ("most" : Str) = some .local := by decide +kernel
theorem v_is_among_most : Vis (defScope s_is_among) "most" := Or.inl l_is_among_most
theorem l_check_row_line : (defScope s_check_row).names.lookup ("line" : Str) = some .local := by decide +kernel
theorem v_check_row_line : Vis (defScope s_check_row) "line" := Or.inl l_check_row_line
theorem l_check_row_wide : (defScope s_check_row).names.lookup ("wide" : Str) = some .local := by decide +kernel
theorem v_check_row_wide : Vis (defScope s_check_row) "wide" := Or.inl l_check_row_wide
theorem l_check_floor_lines : (defScope s_check_floor).names.lookup ("lines" : Str) = some .local := by decide +kernel
theorem v_check_floor_lines : Vis (defScope s_check_floor) "lines" := Or.inl l_check_floor_lines
theorem l_check_floor_line : (defScope s_check_floor).names.lookup ("line" : Str) = some .local := by decide +kernel
theorem v_check_floor_line : Vis (defScope s_check_floor) "line" := Or.inl l_check_floor_line
theorem l_Floor_init_self : (defScope s_Floor_init).names.lookup ("self" : Str) = some .local := by decide +kernel
theorem v_Floor_init_self : Vis (defScope s_Floor_init) "self" := Or.inl l_Floor_init_self
theorem l_Floor_init_lines : (defScope s_Floor_init).names.lookup ("lines" : Str) = some .local := by decide +kernel
theorem v_Floor_init_lines : Vis (defScope s_Floor_init) "lines" := Or.inl l_Floor_init_lines
theorem l_Floor_has_self : (defScope s_Floor_has).names.lookup ("self" : Str) = some .local := by decide +kernel
theorem v_Floor_has_self : Vis (defScope s_Floor_has) "self" := Or.inl l_Floor_has_self
theorem l_Floor_has_cell : (defScope s_Floor_has).names.lookup ("cell" : Str) = some .local := by decide +kernel
theorem v_Floor_has_cell : Vis (defScope s_Floor_has) "cell" := Or.inl l_Floor_has_cell
theorem l_Floor_sign_self : (defScope s_Floor_sign).names.lookup ("self" : Str) = some .local := by decide +kernel
theorem v_Floor_sign_self : Vis (defScope s_Floor_sign) "self" := Or.inl l_Floor_sign_self
theorem l_Floor_sign_cell : (defScope s_Floor_sign).names.lookup ("cell" : Str) = some .local := by decide +kernel
theorem v_Floor_sign_cell : Vis (defScope s_Floor_sign) "cell" := Or.inl l_Floor_sign_cell
theorem l_Floor_column_self : (defScope s_Floor_column).names.lookup ("self" : Str) = some .local := by decide +kernel
theorem v_Floor_column_self : Vis (defScope s_Floor_column) "self" := Or.inl l_Floor_column_self
theorem l_Floor_column_cell : (defScope s_Floor_column).names.lookup ("cell" : Str) = some .local := by decide +kernel
theorem v_Floor_column_cell : Vis (defScope s_Floor_column) "cell" := Or.inl l_Floor_column_cell
theorem l_Floor_row_self : (defScope s_Floor_row).names.lookup ("self" : Str) = some .local := by decide +kernel
theorem v_Floor_row_self : Vis (defScope s_Floor_row) "self" := Or.inl l_Floor_row_self
theorem l_Floor_row_cell : (defScope s_Floor_row).names.lookup ("cell" : Str) = some .local := by decide +kernel
theorem v_Floor_row_cell : Vis (defScope s_Floor_row) "cell" := Or.inl l_Floor_row_cell
theorem l_Floor_beside_self : (defScope s_Floor_beside).names.lookup ("self" : Str) = some .cell := by decide +kernel
theorem v_Floor_beside_self : Vis (defScope s_Floor_beside) "self" := Or.inr (Or.inl l_Floor_beside_self)
theorem l_Floor_beside_cell : (defScope s_Floor_beside).names.lookup ("cell" : Str) = some .local := by decide +kernel
theorem v_Floor_beside_cell : Vis (defScope s_Floor_beside) "cell" := Or.inl l_Floor_beside_cell
theorem l_Floor_beside_near : (defScope s_Floor_beside).names.lookup ("near" : Str) = some .local := by decide +kernel
theorem v_Floor_beside_near : Vis (defScope s_Floor_beside) "near" := Or.inl l_Floor_beside_near
theorem l_Carrier_init_self : (defScope s_Carrier_init).names.lookup ("self" : Str) = some .local := by decide +kernel
theorem v_Carrier_init_self : Vis (defScope s_Carrier_init) "self" := Or.inl l_Carrier_init_self
theorem l_Carrier_init_full : (defScope s_Carrier_init).names.lookup ("full" : Str) = some .local := by decide +kernel
theorem v_Carrier_init_full : Vis (defScope s_Carrier_init) "full" := Or.inl l_Carrier_init_full
theorem l_Carrier_may_stand_sign : (defScope s_Carrier_may_stand).names.lookup ("sign" : Str) = some .local := by decide +kernel
theorem v_Carrier_may_stand_sign : Vis (defScope s_Carrier_may_stand) "sign" := Or.inl l_Carrier_may_stand_sign
theorem l_Crawler_may_stand_sign : (defScope s_Crawler_may_stand).names.lookup ("sign" : Str) = some .local := by decide +kernel
theorem v_Crawler_may_stand_sign : Vis (defScope s_Crawler_may_stand) "sign" := Or.inl l_Crawler_may_stand_sign
theorem l_Carrier_gain_sign : (defScope s_Carrier_gain).names.lookup ("sign" : Str) = some .local := by decide +kernel
theorem v_Carrier_gain_sign : Vis (defScope s_Carrier_gain) "sign" := Or.inl l_Carrier_gain_sign
theorem l_Crawler_gain_sign : (defScope s_Crawler_gain).names.lookup ("sign" : Str) = some .local := by decide +kernel
theorem v_Crawler_gain_sign : Vis (defScope s_Crawler_gain) "sign" := Or.inl l_Crawler_gain_sign
theorem l_Runner_gain_sign : (defScope s_Runner_gain).names.lookup ("sign" : Str) = some .local := by decide +kernel
theorem v_Runner_gain_sign : Vis (defScope s_Runner_gain) "sign" := Or.inl l_Runner_gain_sign
theorem l_Crawler_fare_floor : (defScope s_Crawler_fare).names.lookup ("floor" : Str) = some .local := by decide +kernel
theorem v_Crawler_fare_floor : Vis (defScope s_Crawler_fare) "floor" := Or.inl l_Crawler_fare_floor
theorem l_Crawler_fare_other : (defScope s_Crawler_fare).names.lookup ("other" : Str) = some .local := by decide +kernel
theorem v_Crawler_fare_other : Vis (defScope s_Crawler_fare) "other" := Or.inl l_Crawler_fare_other
theorem l_Runner_fare_floor : (defScope s_Runner_fare).names.lookup ("floor" : Str) = some .local := by decide +kernel
theorem v_Runner_fare_floor : Vis (defScope s_Runner_fare) "floor" := Or.inl l_Runner_fare_floor
theorem l_Runner_fare_cell : (defScope s_Runner_fare).names.lookup ("cell" : Str) = some .local := by decide +kernel
theorem v_Runner_fare_cell : Vis (defScope s_Runner_fare) "cell" := Or.inl l_Runner_fare_cell
theorem l_Runner_fare_other : (defScope s_Runner_fare).names.lookup ("other" : Str) = some .local := by decide +kernel
theorem v_Runner_fare_other : Vis (defScope s_Runner_fare) "other" := Or.inl l_Runner_fare_other
theorem l_Carrier_fare_if_standing_self : (defScope s_Carrier_fare_if_standing).names.lookup ("self" : Str) = some .local := by decide +kernel
theorem v_Carrier_fare_if_standing_self : Vis (defScope s_Carrier_fare_if_standing) "self" := Or.inl l_Carrier_fare_if_standing_self
theorem l_Carrier_fare_if_standing_floor : (defScope s_Carrier_fare_if_standing).names.lookup ("floor" : Str) = some .local := by decide +kernel
theorem v_Carrier_fare_if_standing_floor : Vis (defScope s_Carrier_fare_if_standing) "floor" := Or.inl l_Carrier_fare_if_standing_floor
theorem l_Carrier_fare_if_standing_cell : (defScope s_Carrier_fare_if_standing).names.lookup ("cell" : Str) = some .local := by decide +kernel
theorem v_Carrier_fare_if_standing_cell : Vis (defScope s_Carrier_fare_if_standing) "cell" := Or.inl l_Carrier_fare_if_standing_cell
theorem l_Carrier_fare_if_standing_other : (defScope s_Carrier_fare_if_standing).names.lookup ("other" : Str) = some .local := by decide +kernel
theorem v_Carrier_fare_if_standing_other : Vis (defScope s_Carrier_fare_if_standing) "other" := Or.inl l_Carrier_fare_if_standing_other
theorem l_Carrier_cost_self : (defScope s_Carrier_cost).names.lookup ("self" : Str) = some .local := by decide +kernel
theorem v_Carrier_cost_self : Vis (defScope s_Carrier_cost) "self" := Or.inl l_Carrier_cost_self
theorem l_Carrier_cost_floor : (defScope s_Carrier_cost).names.lookup ("floor" : Str) = some .local := by decide +kernel
theorem v_Carrier_cost_floor : Vis (defScope s_Carrier_cost) "floor" := Or.inl l_Carrier_cost_floor
theorem l_Carrier_cost_cell : (defScope s_Carrier_cost).names.lookup ("cell" : Str) = some .local := by decide +kernel
theorem v_Carrier_cost_cell : Vis (defScope s_Carrier_cost) "cell" := Or.inl l_Carrier_cost_cell
theorem l_Carrier_cost_other : (defScope s_Carrier_cost).names.lookup ("other" : Str) = some .local := by decide +kernel
theorem v_Carrier_cost_other : Vis (defScope s_Carrier_cost) "other" := Or.inl l_Carrier_cost_other
theorem l_Carrier_steps_floor : (defScope s_Carrier_steps).names.lookup ("floor" : Str) = some .cell := by decide +kernel
theorem v_Carrier_steps_floor : Vis (defScope s_Carrier_steps) "floor" := Or.inr (Or.inl l_Carrier_steps_floor)
theorem l_Carrier_steps_cell : (defScope s_Carrier_steps).names.lookup ("cell" : Str) = some .cell := by decide +kernel
theorem v_Carrier_steps_cell : Vis (defScope s_Carrier_steps) "cell" := Or.inr (Or.inl l_Carrier_steps_cell)
theorem l_Carrier_steps_pairs : (defScope s_Carrier_steps).names.lookup ("pairs" : Str) = some .local := by decide +kernel
theorem v_Carrier_steps_pairs : Vis (defScope s_Carrier_steps) "pairs" := Or.inl l_Carrier_steps_pairs
theorem l_Carrier_stayed_self : (defScope s_Carrier_stayed).names.lookup ("self" : Str) = some .local := by decide +kernel
theorem v_Carrier_stayed_self : Vis (defScope s_Carrier_stayed) "self" := Or.inl l_Carrier_stayed_self
theorem l_Carrier_stayed_sign : (defScope s_Carrier_stayed).names.lookup ("sign" : Str) = some .local := by decide +kernel
theorem v_Carrier_stayed_sign : Vis (defScope s_Carrier_stayed) "sign" := Or.inl l_Carrier_stayed_sign
theorem l_Carrier_stayed_charge : (defScope s_Carrier_stayed).names.lookup ("charge" : Str) = some .local := by decide +kernel
theorem v_Carrier_stayed_charge : Vis (defScope s_Carrier_stayed) "charge" := Or.inl l_Carrier_stayed_charge
theorem l_stands_at_floor : (defScope s_stands_at).names.lookup ("floor" : Str) = some .local := by decide +kernel
theorem v_stands_at_floor : Vis (defScope s_stands_at) "floor" := Or.inl l_stands_at_floor
theorem l_stands_at_carrier : (defScope s_stands_at).names.lookup ("carrier" : Str) = some .local := by decide +kernel
theorem v_stands_at_carrier : Vis (defScope s_stands_at) "carrier" := Or.inl l_stands_at_carrier
theorem l_stands_at_cell : (defScope s_stands_at).names.lookup ("cell" : Str) = some .local := by decide +kernel
theorem v_stands_at_cell : Vis (defScope s_stands_at) "cell" := Or.inl l_stands_at_cell
theorem l_next_charge_floor : (defScope s_next_charge).names.lookup ("floor" : Str) = some .local := by decide +kernel
theorem v_next_charge_floor : Vis (defScope s_next_charge) "floor" := Or.inl l_next_charge_floor
theorem l_next_charge_carrier : (defScope s_next_charge).names.lookup ("carrier" : Str) = some .local := by decide +kernel
theorem v_next_charge_carrier : Vis (defScope s_next_charge) "carrier" := Or.inl l_next_charge_carrier
theorem l_next_charge_cell : (defScope s_next_charge).names.lookup ("cell" : Str) = some .local := by decide +kernel
theorem v_next_charge_cell : Vis (defScope s_next_charge) "cell" := Or.inl l_next_charge_cell
theorem l_next_charge_other : (defScope s_next_charge).names.lookup ("other" : Str) = some .local := by decide +kernel
theorem v_next_charge_other : Vis (defScope s_next_charge) "other" := Or.inl l_next_charge_other
theorem l_next_charge_charge : (defScope s_next_charge).names.lookup ("charge" : Str) = some .local := by decide +kernel
theorem v_next_charge_charge : Vis (defScope s_next_charge) "charge" := Or.inl l_next_charge_charge
theorem l_next_charge_cost : (defScope s_next_charge).names.lookup ("cost" : Str) = some .local := by decide +kernel
theorem v_next_charge_cost : Vis (defScope s_next_charge) "cost" := Or.inl l_next_charge_cost
theorem l_walked_floor : (defScope s_walked).names.lookup ("floor" : Str) = some .local := by decide +kernel
theorem v_walked_floor : Vis (defScope s_walked) "floor" := Or.inl l_walked_floor
theorem l_walked_carrier : (defScope s_walked).names.lookup ("carrier" : Str) = some .local := by decide +kernel
theorem v_walked_carrier : Vis (defScope s_walked) "carrier" := Or.inl l_walked_carrier
theorem l_walked_way : (defScope s_walked).names.lookup ("way" : Str) = some .local := by decide +kernel
theorem v_walked_way : Vis (defScope s_walked) "way" := Or.inl l_walked_way
theorem l_walked_charge : (defScope s_walked).names.lookup ("charge" : Str) = some .local := by decide +kernel
theorem v_walked_charge : Vis (defScope s_walked) "charge" := Or.inl l_walked_charge
theorem l_walked_cells : (defScope s_walked).names.lookup ("cells" : Str) = some .local := by decide +kernel
theorem v_walked_cells : Vis (defScope s_walked) "cells" := Or.inl l_walked_cells
theorem l_walked_charges : (defScope s_walked).names.lookup ("charges" : Str) = some .local := by decide +kernel
theorem v_walked_charges : Vis (defScope s_walked) "charges" := Or.inl l_walked_charges
theorem l_walked_index : (defScope s_walked).names.lookup ("index" : Str) = some .local := by decide +kernel
theorem v_walked_index : Vis (defScope s_walked) "index" := Or.inl l_walked_index
theorem l_Lcell_at__law_script : (defScope s_Lcell_at).names.lookup ("_law_script" : Str) = some .local := by decide +kernel
theorem v_Lcell_at__law_script : Vis (defScope s_Lcell_at) "_law_script" := Or.inl l_Lcell_at__law_script
theorem l_Lcell_at__law_k : (defScope s_Lcell_at).names.lookup ("_law_k" : Str) = some .local := by decide +kernel
theorem v_Lcell_at__law_k : Vis (defScope s_Lcell_at) "_law_k" := Or.inl l_Lcell_at__law_k
theorem l_Lmixed__law_cell : (defScope s_Lmixed).names.lookup ("_law_cell" : Str) = some .local := by decide +kernel
theorem v_Lmixed__law_cell : Vis (defScope s_Lmixed) "_law_cell" := Or.inl l_Lmixed__law_cell
theorem l_Lmixed__law_k : (defScope s_Lmixed).names.lookup ("_law_k" : Str) = some .local := by decide +kernel
theorem v_Lmixed__law_k : Vis (defScope s_Lmixed) "_law_k" := Or.inl l_Lmixed__law_k
theorem l_Lmixed__law_number : (defScope s_Lmixed).names.lookup ("_law_number" : Str) = some .local := by decide +kernel
theorem v_Lmixed__law_number : Vis (defScope s_Lmixed) "_law_number" := Or.inl l_Lmixed__law_number
theorem l_Lwhole__law_found : (defScope s_Lwhole).names.lookup ("_law_found" : Str) = some .local := by decide +kernel
theorem v_Lwhole__law_found : Vis (defScope s_Lwhole) "_law_found" := Or.inl l_Lwhole__law_found
theorem l_Llines__law_script : (defScope s_Llines).names.lookup ("_law_script" : Str) = some .local := by decide +kernel
theorem v_Llines__law_script : Vis (defScope s_Llines) "_law_script" := Or.inl l_Llines__law_script
theorem l_Llines__law_wide : (defScope s_Llines).names.lookup ("_law_wide" : Str) = some .local := by decide +kernel
theorem v_Llines__law_wide : Vis (defScope s_Llines) "_law_wide" := Or.inl l_Llines__law_wide
theorem l_Llines__law_high : (defScope s_Llines).names.lookup ("_law_high" : Str) = some .local := by decide +kernel
theorem v_Llines__law_high : Vis (defScope s_Llines) "_law_high" := Or.inl l_Llines__law_high
theorem l_Llines__law_signs : (defScope s_Llines).names.lookup ("_law_signs" : Str) = some .local := by decide +kernel
theorem v_Llines__law_signs : Vis (defScope s_Llines) "_law_signs" := Or.inl l_Llines__law_signs
theorem l_Llines__law_rows : (defScope s_Llines).names.lookup ("_law_rows" : Str) = some .local := by decide +kernel
theorem v_Llines__law_rows : Vis (defScope s_Llines) "_law_rows" := Or.inl l_Llines__law_rows
theorem l_Llines__law_row : (defScope s_Llines).names.lookup ("_law_row" : Str) = some .local := by decide +kernel
theorem v_Llines__law_row : Vis (defScope s_Llines) "_law_row" := Or.inl l_Llines__law_row
theorem l_Llines__law_line : (defScope s_Llines).names.lookup ("_law_line" : Str) = some .local := by decide +kernel
theorem v_Llines__law_line : Vis (defScope s_Llines) "_law_line" := Or.inl l_Llines__law_line
theorem l_Llines__law_column : (defScope s_Llines).names.lookup ("_law_column" : Str) = some .local := by decide +kernel
theorem v_Llines__law_column : Vis (defScope s_Llines) "_law_column" := Or.inl l_Llines__law_column
theorem l_Lsign__law_rows : (defScope s_Lsign).names.lookup ("_law_rows" : Str) = some .local := by decide +kernel
theorem v_Lsign__law_rows : Vis (defScope s_Lsign) "_law_rows" := Or.inl l_Lsign__law_rows
theorem l_Lsign__law_place : (defScope s_Lsign).names.lookup ("_law_place" : Str) = some .local := by decide +kernel
theorem v_Lsign__law_place : Vis (defScope s_Lsign) "_law_place" := Or.inl l_Lsign__law_place
theorem l_Lsign__law_wide : (defScope s_Lsign).names.lookup ("_law_wide" : Str) = some .local := by decide +kernel
theorem v_Lsign__law_wide : Vis (defScope s_Lsign) "_law_wide" := Or.inl l_Lsign__law_wide
theorem l_Laround__law_rows : (defScope s_Laround).names.lookup ("_law_rows" : Str) = some .cell := by decide +kernel
theorem v_Laround__law_rows : Vis (defScope s_Laround) "_law_rows" := Or.inr (Or.inl l_Laround__law_rows)
theorem l_Laround__law_place : (defScope s_Laround).names.lookup ("_law_place" : Str) = some .local := by decide +kernel
theorem v_Laround__law_place : Vis (defScope s_Laround) "_law_place" := Or.inl l_Laround__law_place
theorem l_Laround__law_wide : (defScope s_Laround).names.lookup ("_law_wide" : Str) = some .cell := by decide +kernel
theorem v_Laround__law_wide : Vis (defScope s_Laround) "_law_wide" := Or.inr (Or.inl l_Laround__law_wide)
theorem l_Laround__law_found : (defScope s_Laround).names.lookup ("_law_found" : Str) = some .local := by decide +kernel
theorem v_Laround__law_found : Vis (defScope s_Laround) "_law_found" := Or.inl l_Laround__law_found
theorem l_Lstands__law_kind : (defScope s_Lstands).names.lookup ("_law_kind" : Str) = some .local := by decide +kernel
theorem v_Lstands__law_kind : Vis (defScope s_Lstands) "_law_kind" := Or.inl l_Lstands__law_kind
theorem l_Lstands__law_sign_here : (defScope s_Lstands).names.lookup ("_law_sign_here" : Str) = some .local := by decide +kernel
theorem v_Lstands__law_sign_here : Vis (defScope s_Lstands) "_law_sign_here" := Or.inl l_Lstands__law_sign_here
theorem l_Lcost__law_rows : (defScope s_Lcost).names.lookup ("_law_rows" : Str) = some .local := by decide +kernel
theorem v_Lcost__law_rows : Vis (defScope s_Lcost) "_law_rows" := Or.inl l_Lcost__law_rows
theorem l_Lcost__law_kind : (defScope s_Lcost).names.lookup ("_law_kind" : Str) = some .local := by decide +kernel
theorem v_Lcost__law_kind : Vis (defScope s_Lcost) "_law_kind" := Or.inl l_Lcost__law_kind
theorem l_Lcost__law_place : (defScope s_Lcost).names.lookup ("_law_place" : Str) = some .local := by decide +kernel
theorem v_Lcost__law_place : Vis (defScope s_Lcost) "_law_place" := Or.inl l_Lcost__law_place
theorem l_Lcost__law_other : (defScope s_Lcost).names.lookup ("_law_other" : Str) = some .local := by decide +kernel
theorem v_Lcost__law_other : Vis (defScope s_Lcost) "_law_other" := Or.inl l_Lcost__law_other
theorem l_Ldue__law_rows : (defScope s_Ldue).names.lookup ("_law_rows" : Str) = some .local := by decide +kernel
theorem v_Ldue__law_rows : Vis (defScope s_Ldue) "_law_rows" := Or.inl l_Ldue__law_rows
theorem l_Ldue__law_kind : (defScope s_Ldue).names.lookup ("_law_kind" : Str) = some .local := by decide +kernel
theorem v_Ldue__law_kind : Vis (defScope s_Ldue) "_law_kind" := Or.inl l_Ldue__law_kind
theorem l_Ldue__law_full : (defScope s_Ldue).names.lookup ("_law_full" : Str) = some .local := by decide +kernel
theorem v_Ldue__law_full : Vis (defScope s_Ldue) "_law_full" := Or.inl l_Ldue__law_full
theorem l_Ldue__law_cells_here : (defScope s_Ldue).names.lookup ("_law_cells_here" : Str) = some .local := by decide +kernel
theorem v_Ldue__law_cells_here : Vis (defScope s_Ldue) "_law_cells_here" := Or.inl l_Ldue__law_cells_here
theorem l_Ldue__law_charge : (defScope s_Ldue).names.lookup ("_law_charge" : Str) = some .local := by decide +kernel
theorem v_Ldue__law_charge : Vis (defScope s_Ldue) "_law_charge" := Or.inl l_Ldue__law_charge
theorem l_Ldue__law_place : (defScope s_Ldue).names.lookup ("_law_place" : Str) = some .local := by decide +kernel
theorem v_Ldue__law_place : Vis (defScope s_Ldue) "_law_place" := Or.inl l_Ldue__law_place
theorem l_Ldue__law_found : (defScope s_Ldue).names.lookup ("_law_found" : Str) = some .local := by decide +kernel
theorem v_Ldue__law_found : Vis (defScope s_Ldue) "_law_found" := Or.inl l_Ldue__law_found
theorem l_Ldue__law_k : (defScope s_Ldue).names.lookup ("_law_k" : Str) = some .local := by decide +kernel
theorem v_Ldue__law_k : Vis (defScope s_Ldue) "_law_k" := Or.inl l_Ldue__law_k
theorem l_Ldue__law_gain : (defScope s_Ldue).names.lookup ("_law_gain" : Str) = some .local := by decide +kernel
theorem v_Ldue__law_gain : Vis (defScope s_Ldue) "_law_gain" := Or.inl l_Ldue__law_gain
theorem l_Ldue__law_cost_here : (defScope s_Ldue).names.lookup ("_law_cost_here" : Str) = some .local := by decide +kernel
theorem v_Ldue__law_cost_here : Vis (defScope s_Ldue) "_law_cost_here" := Or.inl l_Ldue__law_cost_here
theorem l_Lcells__law_script : (defScope s_Lcells).names.lookup ("_law_script" : Str) = some .local := by decide +kernel
theorem v_Lcells__law_script : Vis (defScope s_Lcells) "_law_script" := Or.inl l_Lcells__law_script
theorem l_Lcells__law_rows : (defScope s_Lcells).names.lookup ("_law_rows" : Str) = some .cell := by decide +kernel
theorem v_Lcells__law_rows : Vis (defScope s_Lcells) "_law_rows" := Or.inr (Or.inl l_Lcells__law_rows)
theorem l_Lcells__law_some : (defScope s_Lcells).names.lookup ("_law_some" : Str) = some .local := by decide +kernel
theorem v_Lcells__law_some : Vis (defScope s_Lcells) "_law_some" := Or.inl l_Lcells__law_some
theorem l_Lcells__law_cells_here : (defScope s_Lcells).names.lookup ("_law_cells_here" : Str) = some .cell := by decide +kernel
theorem v_Lcells__law_cells_here : Vis (defScope s_Lcells) "_law_cells_here" := Or.inr (Or.inl l_Lcells__law_cells_here)
theorem l_Lcells__law_size : (defScope s_Lcells).names.lookup ("_law_size" : Str) = some .local := by decide +kernel
theorem v_Lcells__law_size : Vis (defScope s_Lcells) "_law_size" := Or.inl l_Lcells__law_size
theorem l_Lcells__law_k : (defScope s_Lcells).names.lookup ("_law_k" : Str) = some .local := by decide +kernel
theorem v_Lcells__law_k : Vis (defScope s_Lcells) "_law_k" := Or.inl l_Lcells__law_k
theorem l_Lcells__law_number : (defScope s_Lcells).names.lookup ("_law_number" : Str) = some .local := by decide +kernel
theorem v_Lcells__law_number : Vis (defScope s_Lcells) "_law_number" := Or.inl l_Lcells__law_number
theorem l_Lcells__law_near : (defScope s_Lcells).names.lookup ("_law_near" : Str) = some .local := by decide +kernel
theorem v_Lcells__law_near : Vis (defScope s_Lcells) "_law_near" := Or.inl l_Lcells__law_near
theorem l_Lcells__law_good : (defScope s_Lcells).names.lookup ("_law_good" : Str) = some .local := by decide +kernel
theorem v_Lcells__law_good : Vis (defScope s_Lcells) "_law_good" := Or.inl l_Lcells__law_good
theorem l_Lis_bad_way__law_error : (defScope s_Lis_bad_way).names.lookup ("_law_error" : Str) = some .local := by decide +kernel
theorem v_Lis_bad_way__law_error : Vis (defScope s_Lis_bad_way) "_law_error" := Or.inl l_Lis_bad_way__law_error
theorem l_Lis_bad_way__law_found : (defScope s_Lis_bad_way).names.lookup ("_law_found" : Str) = some .local := by decide +kernel
theorem v_Lis_bad_way__law_found : Vis (defScope s_Lis_bad_way) "_law_found" := Or.inl l_Lis_bad_way__law_found
theorem l_Ltold__law_floor : (defScope s_Ltold).names.lookup ("_law_floor" : Str) = some .local := by decide +kernel
theorem v_Ltold__law_floor : Vis (defScope s_Ltold) "_law_floor" := Or.inl l_Ltold__law_floor
theorem l_Ltold__law_carrier_here : (defScope s_Ltold).names.lookup ("_law_carrier_here" : Str) = some .local := by decide +kernel
theorem v_Ltold__law_carrier_here : Vis (defScope s_Ltold) "_law_carrier_here" := Or.inl l_Ltold__law_carrier_here
theorem l_Ltold__law_way : (defScope s_Ltold).names.lookup ("_law_way" : Str) = some .local := by decide +kernel
theorem v_Ltold__law_way : Vis (defScope s_Ltold) "_law_way" := Or.inl l_Ltold__law_way
theorem l_Ltold__law_charge : (defScope s_Ltold).names.lookup ("_law_charge" : Str) = some .local := by decide +kernel
theorem v_Ltold__law_charge : Vis (defScope s_Ltold) "_law_charge" := Or.inl l_Ltold__law_charge
theorem l_Ltold__law_found : (defScope s_Ltold).names.lookup ("_law_found" : Str) = some .local := by decide +kernel
theorem v_Ltold__law_found : Vis (defScope s_Ltold) "_law_found" := Or.inl l_Ltold__law_found
theorem l_Ltold__law_error : (defScope s_Ltold).names.lookup ("_law_error" : Str) = some .local := by decide +kernel
theorem v_Ltold__law_error : Vis (defScope s_Ltold) "_law_error" := Or.inl l_Ltold__law_error
theorem l_Ltold__law_copy : (defScope s_Ltold).names.lookup ("_law_copy" : Str) = some .local := by decide +kernel
theorem v_Ltold__law_copy : Vis (defScope s_Ltold) "_law_copy" := Or.inl l_Ltold__law_copy
theorem l_Lcarrier__law_which : (defScope s_Lcarrier).names.lookup ("_law_which" : Str) = some .local := by decide +kernel
theorem v_Lcarrier__law_which : Vis (defScope s_Lcarrier) "_law_which" := Or.inl l_Lcarrier__law_which
theorem l_Lcarrier__law_full : (defScope s_Lcarrier).names.lookup ("_law_full" : Str) = some .local := by decide +kernel
theorem v_Lcarrier__law_full : Vis (defScope s_Lcarrier) "_law_full" := Or.inl l_Lcarrier__law_full
theorem l_law__law_script : (defScope s_law).names.lookup ("_law_script" : Str) = some .local := by decide +kernel
theorem v_law__law_script : Vis (defScope s_law) "_law_script" := Or.inl l_law__law_script
theorem l_law__law_rows : (defScope s_law).names.lookup ("_law_rows" : Str) = some .local := by decide +kernel
theorem v_law__law_rows : Vis (defScope s_law) "_law_rows" := Or.inl l_law__law_rows
theorem l_law__law_which : (defScope s_law).names.lookup ("_law_which" : Str) = some .local := by decide +kernel
theorem v_law__law_which : Vis (defScope s_law) "_law_which" := Or.inl l_law__law_which
theorem l_law__law_kind : (defScope s_law).names.lookup ("_law_kind" : Str) = some .local := by decide +kernel
theorem v_law__law_kind : Vis (defScope s_law) "_law_kind" := Or.inl l_law__law_kind
theorem l_law__law_full : (defScope s_law).names.lookup ("_law_full" : Str) = some .local := by decide +kernel
theorem v_law__law_full : Vis (defScope s_law) "_law_full" := Or.inl l_law__law_full
theorem l_law__law_carrier_here : (defScope s_law).names.lookup ("_law_carrier_here" : Str) = some .local := by decide +kernel
theorem v_law__law_carrier_here : Vis (defScope s_law) "_law_carrier_here" := Or.inl l_law__law_carrier_here
theorem l_law__law_other : (defScope s_law).names.lookup ("_law_other" : Str) = some .local := by decide +kernel
theorem v_law__law_other : Vis (defScope s_law) "_law_other" := Or.inl l_law__law_other
theorem l_law__law_floor : (defScope s_law).names.lookup ("_law_floor" : Str) = some .local := by decide +kernel
theorem v_law__law_floor : Vis (defScope s_law) "_law_floor" := Or.inl l_law__law_floor
theorem l_law__law_cells_here : (defScope s_law).names.lookup ("_law_cells_here" : Str) = some .local := by decide +kernel
theorem v_law__law_cells_here : Vis (defScope s_law) "_law_cells_here" := Or.inl l_law__law_cells_here
theorem l_law__law_charge : (defScope s_law).names.lookup ("_law_charge" : Str) = some .local := by decide +kernel
theorem v_law__law_charge : Vis (defScope s_law) "_law_charge" := Or.inl l_law__law_charge
theorem l_law__law_begin : (defScope s_law).names.lookup ("_law_begin" : Str) = some .local := by decide +kernel
theorem v_law__law_begin : Vis (defScope s_law) "_law_begin" := Or.inl l_law__law_begin
theorem l_law__law_due_here : (defScope s_law).names.lookup ("_law_due_here" : Str) = some .local := by decide +kernel
theorem v_law__law_due_here : Vis (defScope s_law) "_law_due_here" := Or.inl l_law__law_due_here
theorem l_law__law_other_kind : (defScope s_law).names.lookup ("_law_other_kind" : Str) = some .local := by decide +kernel
theorem v_law__law_other_kind : Vis (defScope s_law) "_law_other_kind" := Or.inl l_law__law_other_kind
theorem l_law__law_turn : (defScope s_law).names.lookup ("_law_turn" : Str) = some .local := by decide +kernel
theorem l_law__law_told_here : (defScope s_law).names.lookup ("_law_told_here" : Str) = some .local := by decide +kernel
theorem v_law__law_told_here : Vis (defScope s_law) "_law_told_here" := Or.inl l_law__law_told_here
theorem l_law__law_due_other : (defScope s_law).names.lookup ("_law_due_other" : Str) = some .local := by decide +kernel
theorem v_law__law_due_other : Vis (defScope s_law) "_law_due_other" := Or.inl l_law__law_due_other
theorem g_Carrier_gain_CHARGER : (defScope s_Carrier_gain).names.lookup ("CHARGER" : Str) = some .globalImplicit := by decide +kernel
theorem g_Carrier_may_stand_COMMON_SIGNS : (defScope s_Carrier_may_stand).names.lookup ("COMMON_SIGNS" : Str) = some .globalImplicit := by decide +kernel
theorem g_Carrier_stayed_min : (defScope s_Carrier_stayed).names.lookup ("min" : Str) = some .globalImplicit := by decide +kernel
theorem g_Crawler_fare_ROUGH : (defScope s_Crawler_fare).names.lookup ("ROUGH" : Str) = some .globalImplicit := by decide +kernel
theorem g_Crawler_gain_CHARGER : (defScope s_Crawler_gain).names.lookup ("CHARGER" : Str) = some .globalImplicit := by decide +kernel
theorem g_Crawler_may_stand_COMMON_SIGNS : (defScope s_Crawler_may_stand).names.lookup ("COMMON_SIGNS" : Str) = some .globalImplicit := by decide +kernel
theorem g_Crawler_may_stand_ROUGH : (defScope s_Crawler_may_stand).names.lookup ("ROUGH" : Str) = some .globalImplicit := by decide +kernel
theorem g_Floor_init_check_floor : (defScope s_Floor_init).names.lookup ("check_floor" : Str) = some .globalImplicit := by decide +kernel
theorem g_Floor_init_len : (defScope s_Floor_init).names.lookup ("len" : Str) = some .globalImplicit := by decide +kernel
theorem g_Floor_init_list : (defScope s_Floor_init).names.lookup ("list" : Str) = some .globalImplicit := by decide +kernel
theorem g_Floor_has_WALL : (defScope s_Floor_has).names.lookup ("WALL" : Str) = some .globalImplicit := by decide +kernel
theorem g_Floor_has_is_among : (defScope s_Floor_has).names.lookup ("is_among" : Str) = some .globalImplicit := by decide +kernel
theorem g_Floor_has_len : (defScope s_Floor_has).names.lookup ("len" : Str) = some .globalImplicit := by decide +kernel
theorem g_Runner_fare_LANE : (defScope s_Runner_fare).names.lookup ("LANE" : Str) = some .globalImplicit := by decide +kernel
theorem g_Runner_gain_CHARGER : (defScope s_Runner_gain).names.lookup ("CHARGER" : Str) = some .globalImplicit := by decide +kernel
theorem g_Laround_len : (defScope s_Laround).names.lookup ("len" : Str) = some .globalImplicit := by decide +kernel
theorem g_Lcarrier_Carrier : (defScope s_Lcarrier).names.lookup ("Carrier" : Str) = some .globalImplicit := by decide +kernel
theorem g_Lcarrier_Cart : (defScope s_Lcarrier).names.lookup ("Cart" : Str) = some .globalImplicit := by decide +kernel
theorem g_Lcarrier_Crawler : (defScope s_Lcarrier).names.lookup ("Crawler" : Str) = some .globalImplicit := by decide +kernel
theorem g_Lcarrier_Runner : (defScope s_Lcarrier).names.lookup ("Runner" : Str) = some .globalImplicit := by decide +kernel
theorem g_Lcell_at_len : (defScope s_Lcell_at).names.lookup ("len" : Str) = some .globalImplicit := by decide +kernel
theorem g_Lcells__law_around : (defScope s_Lcells).names.lookup ("_law_around" : Str) = some .globalImplicit := by decide +kernel
theorem g_Lcells__law_cell_at : (defScope s_Lcells).names.lookup ("_law_cell_at" : Str) = some .globalImplicit := by decide +kernel
theorem g_Lcells__law_mixed : (defScope s_Lcells).names.lookup ("_law_mixed" : Str) = some .globalImplicit := by decide +kernel
theorem g_Lcells_len : (defScope s_Lcells).names.lookup ("len" : Str) = some .globalImplicit := by decide +kernel
theorem g_Lcells_max : (defScope s_Lcells).names.lookup ("max" : Str) = some .globalImplicit := by decide +kernel
theorem g_Lcells_range : (defScope s_Lcells).names.lookup ("range" : Str) = some .globalImplicit := by decide +kernel
theorem g_Lcost__law_around : (defScope s_Lcost).names.lookup ("_law_around" : Str) = some .globalImplicit := by decide +kernel
theorem g_Lcost__law_sign : (defScope s_Lcost).names.lookup ("_law_sign" : Str) = some .globalImplicit := by decide +kernel
theorem g_Lcost__law_stands : (defScope s_Lcost).names.lookup ("_law_stands" : Str) = some .globalImplicit := by decide +kernel
theorem g_Lcost_len : (defScope s_Lcost).names.lookup ("len" : Str) = some .globalImplicit := by decide +kernel
theorem g_Ldue__law_cost : (defScope s_Ldue).names.lookup ("_law_cost" : Str) = some .globalImplicit := by decide +kernel
theorem g_Ldue__law_sign : (defScope s_Ldue).names.lookup ("_law_sign" : Str) = some .globalImplicit := by decide +kernel
theorem g_Ldue__law_stands : (defScope s_Ldue).names.lookup ("_law_stands" : Str) = some .globalImplicit := by decide +kernel
theorem g_Ldue_int : (defScope s_Ldue).names.lookup ("int" : Str) = some .globalImplicit := by decide +kernel
theorem g_Ldue_len : (defScope s_Ldue).names.lookup ("len" : Str) = some .globalImplicit := by decide +kernel
theorem g_Ldue_min : (defScope s_Ldue).names.lookup ("min" : Str) = some .globalImplicit := by decide +kernel
theorem g_Ldue_range : (defScope s_Ldue).names.lookup ("range" : Str) = some .globalImplicit := by decide +kernel
theorem g_Lis_bad_way_BadCell : (defScope s_Lis_bad_way).names.lookup ("BadCell" : Str) = some .globalImplicit := by decide +kernel
theorem g_Lis_bad_way_BadCharge : (defScope s_Lis_bad_way).names.lookup ("BadCharge" : Str) = some .globalImplicit := by decide +kernel
theorem g_Lis_bad_way_BadFloor : (defScope s_Lis_bad_way).names.lookup ("BadFloor" : Str) = some .globalImplicit := by decide +kernel
theorem g_Lis_bad_way_BadKind : (defScope s_Lis_bad_way).names.lookup ("BadKind" : Str) = some .globalImplicit := by decide +kernel
theorem g_Lis_bad_way_BadStops : (defScope s_Lis_bad_way).names.lookup ("BadStops" : Str) = some .globalImplicit := by decide +kernel
theorem g_Lis_bad_way_BadWay : (defScope s_Lis_bad_way).names.lookup ("BadWay" : Str) = some .globalImplicit := by decide +kernel
theorem g_Lis_bad_way_Busy : (defScope s_Lis_bad_way).names.lookup ("Busy" : Str) = some .globalImplicit := by decide +kernel
theorem g_Lis_bad_way_Closed : (defScope s_Lis_bad_way).names.lookup ("Closed" : Str) = some .globalImplicit := by decide +kernel
theorem g_Lis_bad_way_Empty : (defScope s_Lis_bad_way).names.lookup ("Empty" : Str) = some .globalImplicit := by decide +kernel
theorem g_Lis_bad_way_Jammed : (defScope s_Lis_bad_way).names.lookup ("Jammed" : Str) = some .globalImplicit := by decide +kernel
theorem g_Lis_bad_way_Meets : (defScope s_Lis_bad_way).names.lookup ("Meets" : Str) = some .globalImplicit := by decide +kernel
theorem g_Lis_bad_way_NoCarrier : (defScope s_Lis_bad_way).names.lookup ("NoCarrier" : Str) = some .globalImplicit := by decide +kernel
theorem g_Lis_bad_way_NoReserve : (defScope s_Lis_bad_way).names.lookup ("NoReserve" : Str) = some .globalImplicit := by decide +kernel
theorem g_Lis_bad_way_NoTask : (defScope s_Lis_bad_way).names.lookup ("NoTask" : Str) = some .globalImplicit := by decide +kernel
theorem g_Lis_bad_way_Taken : (defScope s_Lis_bad_way).names.lookup ("Taken" : Str) = some .globalImplicit := by decide +kernel
theorem g_Lis_bad_way_ValueError : (defScope s_Lis_bad_way).names.lookup ("ValueError" : Str) = some .globalImplicit := by decide +kernel
theorem g_Lis_bad_way_isinstance : (defScope s_Lis_bad_way).names.lookup ("isinstance" : Str) = some .globalImplicit := by decide +kernel
theorem g_Llines__law_cell_at : (defScope s_Llines).names.lookup ("_law_cell_at" : Str) = some .globalImplicit := by decide +kernel
theorem g_Llines__law_mixed : (defScope s_Llines).names.lookup ("_law_mixed" : Str) = some .globalImplicit := by decide +kernel
theorem g_Llines_range : (defScope s_Llines).names.lookup ("range" : Str) = some .globalImplicit := by decide +kernel
theorem g_Lsign_len : (defScope s_Lsign).names.lookup ("len" : Str) = some .globalImplicit := by decide +kernel
theorem g_Ltold_FloorError : (defScope s_Ltold).names.lookup ("FloorError" : Str) = some .globalImplicit := by decide +kernel
theorem g_Ltold__law_is_bad_way : (defScope s_Ltold).names.lookup ("_law_is_bad_way" : Str) = some .globalImplicit := by decide +kernel
theorem g_Ltold_all : (defScope s_Ltold).names.lookup ("all" : Str) = some .globalImplicit := by decide +kernel
theorem g_Ltold_isinstance : (defScope s_Ltold).names.lookup ("isinstance" : Str) = some .globalImplicit := by decide +kernel
theorem g_Ltold_list : (defScope s_Ltold).names.lookup ("list" : Str) = some .globalImplicit := by decide +kernel
theorem g_Ltold_walked : (defScope s_Ltold).names.lookup ("walked" : Str) = some .globalImplicit := by decide +kernel
theorem g_Lwhole_bool : (defScope s_Lwhole).names.lookup ("bool" : Str) = some .globalImplicit := by decide +kernel
theorem g_Lwhole_int : (defScope s_Lwhole).names.lookup ("int" : Str) = some .globalImplicit := by decide +kernel
theorem g_Lwhole_isinstance : (defScope s_Lwhole).names.lookup ("isinstance" : Str) = some .globalImplicit := by decide +kernel
theorem g_check_floor_MOST_ROWS : (defScope s_check_floor).names.lookup ("MOST_ROWS" : Str) = some .globalImplicit := by decide +kernel
theorem g_check_floor_MOST_SIGNS : (defScope s_check_floor).names.lookup ("MOST_SIGNS" : Str) = some .globalImplicit := by decide +kernel
theorem g_check_floor_all : (defScope s_check_floor).names.lookup ("all" : Str) = some .globalImplicit := by decide +kernel
theorem g_check_floor_check_row : (defScope s_check_floor).names.lookup ("check_row" : Str) = some .globalImplicit := by decide +kernel
theorem g_check_floor_is_among : (defScope s_check_floor).names.lookup ("is_among" : Str) = some .globalImplicit := by decide +kernel
theorem g_check_floor_isinstance : (defScope s_check_floor).names.lookup ("isinstance" : Str) = some .globalImplicit := by decide +kernel
theorem g_check_floor_len : (defScope s_check_floor).names.lookup ("len" : Str) = some .globalImplicit := by decide +kernel
theorem g_check_floor_list : (defScope s_check_floor).names.lookup ("list" : Str) = some .globalImplicit := by decide +kernel
theorem g_check_floor_str : (defScope s_check_floor).names.lookup ("str" : Str) = some .globalImplicit := by decide +kernel
theorem g_check_row_all : (defScope s_check_row).names.lookup ("all" : Str) = some .globalImplicit := by decide +kernel
theorem g_check_row_isinstance : (defScope s_check_row).names.lookup ("isinstance" : Str) = some .globalImplicit := by decide +kernel
theorem g_check_row_len : (defScope s_check_row).names.lookup ("len" : Str) = some .globalImplicit := by decide +kernel
theorem g_check_row_str : (defScope s_check_row).names.lookup ("str" : Str) = some .globalImplicit := by decide +kernel
theorem g_is_among_is_whole : (defScope s_is_among).names.lookup ("is_whole" : Str) = some .globalImplicit := by decide +kernel
theorem g_is_whole_bool : (defScope s_is_whole).names.lookup ("bool" : Str) = some .globalImplicit := by decide +kernel
theorem g_is_whole_int : (defScope s_is_whole).names.lookup ("int" : Str) = some .globalImplicit := by decide +kernel
theorem g_is_whole_isinstance : (defScope s_is_whole).names.lookup ("isinstance" : Str) = some .globalImplicit := by decide +kernel
theorem g_law_Floor : (defScope s_law).names.lookup ("Floor" : Str) = some .globalImplicit := by decide +kernel
theorem g_law__law_carrier : (defScope s_law).names.lookup ("_law_carrier" : Str) = some .globalImplicit := by decide +kernel
theorem g_law__law_cell_at : (defScope s_law).names.lookup ("_law_cell_at" : Str) = some .globalImplicit := by decide +kernel
theorem g_law__law_cells : (defScope s_law).names.lookup ("_law_cells" : Str) = some .globalImplicit := by decide +kernel
theorem g_law__law_due : (defScope s_law).names.lookup ("_law_due" : Str) = some .globalImplicit := by decide +kernel
theorem g_law__law_lines : (defScope s_law).names.lookup ("_law_lines" : Str) = some .globalImplicit := by decide +kernel
theorem g_law__law_told : (defScope s_law).names.lookup ("_law_told" : Str) = some .globalImplicit := by decide +kernel
theorem g_law_list : (defScope s_law).names.lookup ("list" : Str) = some .globalImplicit := by decide +kernel
theorem g_law_range : (defScope s_law).names.lookup ("range" : Str) = some .globalImplicit := by decide +kernel
theorem g_law_tuple : (defScope s_law).names.lookup ("tuple" : Str) = some .globalImplicit := by decide +kernel
theorem g_next_charge_BadWay : (defScope s_next_charge).names.lookup ("BadWay" : Str) = some .globalImplicit := by decide +kernel
theorem g_next_charge_dict : (defScope s_next_charge).names.lookup ("dict" : Str) = some .globalImplicit := by decide +kernel
theorem g_walked_BadWay : (defScope s_walked).names.lookup ("BadWay" : Str) = some .globalImplicit := by decide +kernel
theorem g_walked_len : (defScope s_walked).names.lookup ("len" : Str) = some .globalImplicit := by decide +kernel
theorem g_walked_min : (defScope s_walked).names.lookup ("min" : Str) = some .globalImplicit := by decide +kernel
theorem g_walked_next_charge : (defScope s_walked).names.lookup ("next_charge" : Str) = some .globalImplicit := by decide +kernel
theorem g_walked_range : (defScope s_walked).names.lookup ("range" : Str) = some .globalImplicit := by decide +kernel
theorem g_walked_stands_at : (defScope s_walked).names.lookup ("stands_at" : Str) = some .globalImplicit := by decide +kernel
theorem sc_is_whole : FnScope ["thing"] ["thing"] (defScope s_is_whole) := ⟨rfl, rfl, rfl, by decide +kernel, rfl, by decide +kernel, by decide +kernel⟩
set_option maxHeartbeats 4000000 in
local macro_rules | `(tactic| walk_at "RD") => `(tactic| simp only [tNever, tFor_eq, iRng1, iRng2, gTup, gTupL, gCons, gNil, tRevT, rRep01, rCatT, rCat, rRep, rJoin, tLRng2, tMethV, tDisp, tPairs, tYes, tDGet, cxKm, cxKs, cxKt, tTryAs, onlyRet, tDGet1, tAug, ipI, tSeq, tCallX, tMethX, tMakeX, tRaise, noW, tAsg, tOp, tUn, tVar, tC, rI0, rI, rU, tTest, tIfS, tNext, tRet, tRetN, tDrop, gName, tCB, tCons, tNil, tAndV, tOrV, tNotV, tAnd, tOr, tNot, tB, tIf, tChain, tCall, tBM, tBM0, tLst, tTup, tNoPart, tPart, tSlS, tSl, tBreak, tCont, rSlA, rSlL, rPopAt, rIn, rIxL, rIxT, rIxS, rEq, rNe, scal, rAppend, rPop, rIndex, tFld, sFld, tMeth, tMake, tDNewK, gSub, rSetL, tJoinRev, tComp, sComp, capσ, iStr, iList, iTup, rEqD, cxK, cxA, cxKc, cxAc, L2.start, List.map_cons, List.map_nil, List.length_cons, List.length_nil, List.replicate_succ, List.replicate_zero, List.cons_append, List.nil_append, List.append_nil, Nat.reduceAdd, Nat.reduceSub, List.set_cons_zero, List.set_cons_succ, List.getElem?_cons_zero, List.getElem?_cons_succ, Option.getD_some, Option.getD_none, Option.some.injEq, V.int.injEq, V.ref.injEq, V.bl.injEq, V.str.injEq, V.ty.injEq, exists_eq_left', exists_eq_left, exists_and_left, and_assoc, List.cons.injEq, and_true, true_and, decide_eq_true_eq, Bool.not_eq_true', decide_eq_false_iff_not, Bool.false_eq_true, if_false, if_true, reduceIte, Bool.not_true, Bool.not_false, beq_self_eq_true])
theorem ok_is_whole {fd : FuncData} (F : Fun K "is_whole" "is_whole" s_is_whole ad.is_whole fd) (T : Txt K mg ad) : FnOk P w K mg base CX0 1 ad.is_whole fd ["thing"] (spWhole K) := by
  refine F.ok sc_is_whole (fun vs H Q E h => ?_) (fun cdv A outer s H vs Q E HR h => ?_)
  · obtain ⟨x, rfl, _⟩ := h
    rfl
  · obtain ⟨x, rfl, ty, hq⟩ := h
    have ND := sc_is_whole.nd
    have HU0 := HR.units0
    have HU := HR.units
    have hA := HR.hd
    have hz : (100000 : Nat) ≤ sizeLine := by rw [sizeLine_eq]; decide
    refine ⟨_, (pss_one (ps_ret (pe_and (pe_callB call_isinst (gl_of g_is_whole_isinstance) T.b_isinstance PyProof.Rows.Boot.«isinstance» (pa_cons (pe_var (i := 0) (x := "thing") rfl (vis_of v_is_whole_thing) d_thing e_thing) (pa_cons (pe_bltn (v := .ty "int") (gl_of g_is_whole_int) T.b_int PyProof.Rows.Boot.«int» rfl (hn := n_int) (hd := d_int)) pa_nil (stp rfl)) (stp rfl)) (hn := n_isinstance) (hdb := d_isinstance) (he := stp rfl) (hpl := anp rfl)) (pe_one (pe_not (pe_callB call_isinst (gl_of g_is_whole_isinstance) T.b_isinstance PyProof.Rows.Boot.«isinstance» (pa_cons (pe_var (i := 0) (x := "thing") rfl (vis_of v_is_whole_thing) d_thing e_thing) (pa_cons (pe_bltn (v := .ty "bool") (gl_of g_is_whole_bool) T.b_bool PyProof.Rows.Boot.«bool» rfl (hn := n_bool) (hd := d_bool)) pa_nil (stp rfl)) (stp rfl)) (hn := n_isinstance) (hdb := d_isinstance) (he := stp rfl) (hpl := anp rfl))))))), ?_⟩
    obtain ⟨n, ty⟩ := ty
    have e1 := kit_int ty
    have e2 := kit_bool ty
    walk_at "RD"
    refine ⟨_, ty, _, e1, ?_⟩
    cases hb : isIB x with
    | true =>
      rw [if_pos rfl]
      refine ⟨_, ty, _, e2, ?_⟩
      cases x <;> simp_all [isI, isB, isIB]
    | false =>
      rw [if_neg (by decide)]
      cases x <;> simp_all [isI, isB, isIB]
theorem sc_is_among : FnScope ["thing", "least", "most"] ["thing", "least", "most"] (defScope s_is_among) := ⟨rfl, rfl, rfl, by decide +kernel, rfl, by decide +kernel, by decide +kernel⟩
set_option maxHeartbeats 4000000 in
theorem ok_is_among {fd : FuncData} (F : Fun K "is_among" "is_among" s_is_among ad.is_among fd) (T : Txt K mg ad) {fd_is_whole : FuncData} (B_is_whole : Binds K fd_is_whole ["thing"] []) (G_is_whole : FnOk P w K mg base CX0 1 ad.is_whole fd_is_whole ["thing"] (spWhole K)) : FnOk P w K mg base CX0 2 ad.is_among fd ["thing", "least", "most"] (spAmong K) := by
  refine F.ok sc_is_among (fun vs H Q E h => ?_) (fun cdv A outer s H vs Q E HR h => ?_)
  · obtain ⟨x, lo, hi, rfl, _⟩ := h
    rfl
  · obtain ⟨x, lo, hi, rfl, ty, hq⟩ := h
    have ND := sc_is_among.nd
    have HU0 := HR.units0
    have HU := HR.units
    have hA := HR.hd
    have hz : (100000 : Nat) ≤ sizeLine := by rw [sizeLine_eq]; decide
    refine ⟨_, (pss_one (ps_ret (pe_and (pe_call G_is_whole (HR.mono (by decide)) (gl_of g_is_among_is_whole) T.mg_is_whole T.k_is_whole B_is_whole .nil pass0 (pa_cons (pe_var (i := 0) (x := "thing") rfl (vis_of v_is_among_thing) d_thing e_thing) pa_nil (stp rfl)) (hdb := d_is_whole) (he := stp rfl) (hpl := anp rfl)) (pe_one (pe_chain op_le op_le (pe_var (i := 1) (x := "least") rfl (vis_of v_is_among_least) d_least e_least) (pe_var (i := 0) (x := "thing") rfl (vis_of v_is_among_thing) d_thing e_thing) (pe_var (i := 2) (x := "most") rfl (vis_of v_is_among_most) d_most e_most)))))), ?_⟩
    walk_at "RD"
    refine ⟨x, rfl, ty, ?_⟩
    walk_at "RD"
    cases x <;> simp_all [isI, amg]
    split <;> simp_all
theorem sc_check_row : FnScope ["line", "wide"] ["line", "wide"] (defScope s_check_row) := ⟨rfl, rfl, rfl, by decide +kernel, rfl, by decide +kernel, by decide +kernel⟩
set_option maxHeartbeats 4000000 in
theorem ok_check_row {fd : FuncData} (F : Fun K "check_row" "check_row" s_check_row ad.check_row fd) (T : Txt K mg ad) : FnOk P w K mg base CX0 1 ad.check_row fd ["line", "wide"] (spRow) := by
  refine F.ok sc_check_row (fun vs H Q E h => ?_) (fun cdv A outer s H vs Q E HR h => ?_)
  · obtain ⟨x, n, rfl, _⟩ := h
    rfl
  · obtain ⟨x, n, rfl, hn, n10, ok, hq⟩ := h
    have ND := sc_check_row.nd
    have HU0 := HR.units0
    have HU := HR.units
    have hA := HR.hd
    have hz : (100000 : Nat) ≤ sizeLine := by rw [sizeLine_eq]; decide
    obtain ⟨u_SIGNS, c_SIGNS, r_SIGNS⟩ := T.c_SIGNS
    refine ⟨_, (pss_cons (ps_if (PW.pt (pw_or (pt_not (pt_val (pe_callB call_isinst (gl_of g_check_row_isinstance) T.b_isinstance PyProof.Rows.Boot.«isinstance» (pa_cons (pe_var (i := 0) (x := "line") rfl (vis_of v_check_row_line) d_line e_line) (pa_cons (pe_bltn (v := .ty "str") (gl_of g_check_row_str) T.b_str PyProof.Rows.Boot.«str» rfl (hn := n_str) (hd := d_str)) pa_nil (stp rfl)) (stp rfl)) (hn := n_isinstance) (hdb := d_isinstance) (he := stp rfl) (hpl := anp rfl)))) (pw_or1 (pt_cmpR op_ne (pe_callB call_len_str (gl_of g_check_row_len) T.b_len PyProof.Rows.Boot.«len» (pa_cons (pe_var (i := 0) (x := "line") rfl (vis_of v_check_row_line) d_line e_line) pa_nil (stp rfl)) (hn := n_len) (hdb := d_len) (he := stp rfl) (hpl := anp rfl)) (pe_var (i := 1) (x := "wide") rfl (vis_of v_check_row_wide) d_wide e_wide) (nomark _)))))
 pss_never
 pss_nil)
 (pss_one (ps_if (pt_not (pt_val (pe_callB call_all_list (gl_of g_check_row_all) T.b_all PyProof.Rows.Boot.«all» (pa_cons (pe_comp (CompScope.of (osc := defScope s_check_row) (tn := ["sign"]) (cn := []) (caps := []) rfl rfl (by decide +kernel) (by decide +kernel) (by decide +kernel) (by decide +kernel) rfl) (calm0 rfl)  (pi_str (pe_var (i := 0) (x := "line") rfl (vis_of v_check_row_line) d_line e_line))
 (fun _ _ _ _ _ => (pg_name (i := 0) (show (["sign"] : List Str).Nodup by decide +kernel) rfl (Or.inl rfl))) (fun _ _ _ _ _ => pts_nil) (fun _ _ _ _ _ => (pe_cmpR op_in_chr (pv 0) (pe_glob (v := V.str (Str.ofString ".#+~|")) (by rfl) c_SIGNS r_SIGNS (hd := d_SIGNS)) (by with_unfolding_all rfl)))) pa_nil (stp rfl)) (hn := n_all) (hdb := d_all) (he := stp rfl) (hpl := anp rfl))))
 pss_never
 pss_nil))), ?_⟩
    walk_at "RD"
    refine ⟨_, .str _, true, rfl, ?_⟩
    rw [if_neg (by decide)]
    refine ⟨by omega, ?_⟩
    rw [if_neg (by omega)]
    refine comp_pure src_str (fun _ => true) inSg (fun y hy Q h => h) (fun y hy _ Q h => ?_) (by rw [List.length_map, str_len_list]; omega) ?_
    · obtain ⟨c, hc, rfl⟩ := List.mem_map.mp hy
      walk_at "RD"
      exact ⟨c, rfl, h⟩
    · intro D hD
      have ey : ((x.cps.toList.map chr1).filter fun _ => true).map inSg = (x.cps.toList.map fun c => decide (c ∈ (Str.ofString ".#+~|").cps.toList)).map V.bl := by
        rw [List.filter_eq_self.mpr (fun _ _ => rfl), List.map_map, List.map_map]
        rfl
      rw [ey]
      refine ⟨hA, _, SqL.of upd_same, ?_⟩
      have e2 : (x.cps.toList.map fun c => decide (c ∈ (Str.ofString ".#+~|").cps.toList)).all id = true := by
        rw [List.all_map, List.all_eq_true]
        intro c hc
        exact decide_eq_true (mem_sgn (ok c hc))
      rw [e2, if_neg (by decide)]
      exact hq _ (same_new hD)
theorem sc_check_floor : FnScope ["lines", "line"] ["lines"] (defScope s_check_floor) := ⟨rfl, rfl, rfl, by decide +kernel, rfl, by decide +kernel, by decide +kernel⟩
set_option maxHeartbeats 4000000 in
theorem ok_check_floor {fd : FuncData} (F : Fun K "check_floor" "check_floor" s_check_floor ad.check_floor fd) (T : Txt K mg ad) {fd_is_among : FuncData} (B_is_among : Binds K fd_is_among ["thing", "least", "most"] []) (G_is_among : FnOk P w K mg base CX0 2 ad.is_among fd_is_among ["thing", "least", "most"] (spAmong K)) {fd_check_row : FuncData} (B_check_row : Binds K fd_check_row ["line", "wide"] []) (G_check_row : FnOk P w K mg base CX0 1 ad.check_row fd_check_row ["line", "wide"] (spRow)) : FnOk P w K mg base CX0 3 ad.check_floor fd ["lines"] (spCheck) := by
  refine F.ok sc_check_floor (fun vs H Q E h => ?_) (fun cdv A outer s H vs Q E HR h => ?_)
  · obtain ⟨l, w, h, sg, rfl, _⟩ := h
    rfl
  · obtain ⟨l, w, h, sg, rfl, hL, g, hq⟩ := h
    have ND := sc_check_floor.nd
    have HU0 := HR.units0
    have HU := HR.units
    have hA := HR.hd
    have hz : (100000 : Nat) ≤ sizeLine := by rw [sizeLine_eq]; decide
    obtain ⟨u_WALL, c_WALL, r_WALL⟩ := T.c_WALL
    obtain ⟨u_MOST_ROWS, c_MOST_ROWS, r_MOST_ROWS⟩ := T.c_MOST_ROWS
    obtain ⟨u_MOST_SIGNS, c_MOST_SIGNS, r_MOST_SIGNS⟩ := T.c_MOST_SIGNS
    refine ⟨_, (pss_cons (ps_if (PW.pt (pw_or (pt_not (pt_val (pe_callB call_isinst (gl_of g_check_floor_isinstance) T.b_isinstance PyProof.Rows.Boot.«isinstance» (pa_cons (pe_var (i := 0) (x := "lines") rfl (vis_of v_check_floor_lines) d_lines e_lines) (pa_cons (pe_bltn (v := .ty "list") (gl_of g_check_floor_list) T.b_list PyProof.Rows.Boot.«list» rfl (hn := n_list) (hd := d_list)) pa_nil (stp rfl)) (stp rfl)) (hn := n_isinstance) (hdb := d_isinstance) (he := stp rfl) (hpl := anp rfl)))) (pw_or1 (pt_not (pt_val (pe_call G_is_among (HR.mono (by decide)) (gl_of g_check_floor_is_among) T.mg_is_among T.k_is_among B_is_among .nil pass0 (pa_cons (pe_callB call_len_seq (gl_of g_check_floor_len) T.b_len PyProof.Rows.Boot.«len» (pa_cons (pe_var (i := 0) (x := "lines") rfl (vis_of v_check_floor_lines) d_lines e_lines) pa_nil (stp rfl)) (hn := n_len) (hdb := d_len) (he := stp rfl) (hpl := anp rfl)) (pa_cons pe_int (pa_cons (pe_glob (v := V.int 10) (gl_of g_check_floor_MOST_ROWS) c_MOST_ROWS r_MOST_ROWS (hd := d_MOST_ROWS)) pa_nil (stp rfl)) (stp rfl)) (stp rfl)) (hdb := d_is_among) (he := stp rfl) (hpl := anp rfl)))))))
 pss_never
 pss_nil)
 (pss_cons (ps_if (PW.pt (pw_or (pt_not (pt_val (pe_callB call_isinst (gl_of g_check_floor_isinstance) T.b_isinstance PyProof.Rows.Boot.«isinstance» (pa_cons (pe_ix ix_list (pe_var (i := 0) (x := "lines") rfl (vis_of v_check_floor_lines) d_lines e_lines) pe_int (fun _ _ => rfl)) (pa_cons (pe_bltn (v := .ty "str") (gl_of g_check_floor_str) T.b_str PyProof.Rows.Boot.«str» rfl (hn := n_str) (hd := d_str)) pa_nil (stp rfl)) (stp rfl)) (hn := n_isinstance) (hdb := d_isinstance) (he := stp rfl) (hpl := anp rfl)))) (pw_or1 (pt_not (pt_val (pe_call G_is_among (HR.mono (by decide)) (gl_of g_check_floor_is_among) T.mg_is_among T.k_is_among B_is_among .nil pass0 (pa_cons (pe_callB call_len_str (gl_of g_check_floor_len) T.b_len PyProof.Rows.Boot.«len» (pa_cons (pe_ix ix_list (pe_var (i := 0) (x := "lines") rfl (vis_of v_check_floor_lines) d_lines e_lines) pe_int (fun _ _ => rfl)) pa_nil (stp rfl)) (hn := n_len) (hdb := d_len) (he := stp rfl) (hpl := anp rfl)) (pa_cons pe_int (pa_cons (pe_glob (v := V.int 10) (gl_of g_check_floor_MOST_SIGNS) c_MOST_SIGNS r_MOST_SIGNS (hd := d_MOST_SIGNS)) pa_nil (stp rfl)) (stp rfl)) (stp rfl)) (hdb := d_is_among) (he := stp rfl) (hpl := anp rfl)))))))
 pss_never
 pss_nil)
 (pss_cons (ps_for PassesOwn.never (calm0 rfl) (pi_list (pe_var (i := 0) (x := "lines") rfl (vis_of v_check_floor_lines) d_lines e_lines)) (pg_name (i := 1) ND rfl (loc_of (Or.inl l_check_floor_line)))
 (pss_one (ps_expr (pe_call G_check_row (HR.mono (by decide)) (gl_of g_check_floor_check_row) T.mg_check_row T.k_check_row B_check_row .nil pass0 (pa_cons (pe_var (i := 1) (x := "line") rfl (vis_of v_check_floor_line) d_line e_line) (pa_cons (pe_callB call_len_str (gl_of g_check_floor_len) T.b_len PyProof.Rows.Boot.«len» (pa_cons (pe_ix ix_list (pe_var (i := 0) (x := "lines") rfl (vis_of v_check_floor_lines) d_lines e_lines) pe_int (fun _ _ => rfl)) pa_nil (stp rfl)) (hn := n_len) (hdb := d_len) (he := stp rfl) (hpl := anp rfl)) pa_nil (stp rfl)) (stp rfl)) (hdb := d_check_row) (he := stp rfl) (hpl := anp rfl)))))
 (pss_one (ps_if (pt_val (pe_callB call_all_list (gl_of g_check_floor_all) T.b_all PyProof.Rows.Boot.«all» (pa_cons (pe_comp (CompScope.of (osc := defScope s_check_floor) (tn := ["sign"]) (cn := []) (caps := []) rfl rfl (by decide +kernel) (by decide +kernel) (by decide +kernel) (by decide +kernel) rfl) (calm0 rfl)  (pi_str (pe_bm PySem.F.plainAttrs_str PySem.F.slot_str_join PySem.F.type_str_join mt_join pe_str (pa_cons (pe_var (i := 0) (x := "lines") rfl (vis_of v_check_floor_lines) d_lines e_lines) pa_nil (stp rfl))))
 (fun _ _ _ _ _ => (pg_name (i := 0) (show (["sign"] : List Str).Nodup by decide +kernel) rfl (Or.inl rfl))) (fun _ _ _ _ _ => pts_nil) (fun _ _ _ _ _ => (pe_cmpR op_eq (pv 0) (pe_glob (v := V.str (Str.ofString "#")) (by rfl) c_WALL r_WALL (hd := d_WALL)) (nomark _)))) pa_nil (stp rfl)) (hn := n_all) (hdb := d_all) (he := stp rfl) (hpl := anp rfl)))
 pss_never
 pss_nil))))), ?_⟩
    have w0 := g.w0
    have w1 := g.w1
    have h0 := g.h0
    have h1 := g.h1
    have l100 := len100 g
    have e0 : atI ((linesOf w h sg).map V.str) 0 = some (V.str (lineOf w sg 0)) := atI_nat (j := 0) (by rw [List.getElem?_map, lines_get (by omega)]; rfl)
    have eL := line_len g (show 0 < h by omega)
    refine tSeq_cut (fun σ H' => H' = H ∧ σ = [some (V.ref l), none]) (fun nx hk => ?_) ?_
    · walk_at "RD"
      refine ⟨_, .lst hL, true, rfl, ?_⟩
      rw [if_neg (by decide)]
      refine ⟨_, .inl (SqL.of hL), _, _, _, rfl, ⟨_, .int _⟩, _, rfl, ?_⟩
      rw [List.length_map, lines_len]
      have ea : amg (.int (h : Int)) 1 10 = true := by simp only [amg, Bool.and_eq_true, decide_eq_true_eq]; omega
      rw [ea, if_neg (by decide)]
      exact hk _ _ ⟨rfl, rfl⟩
    rintro σ H1 ⟨rfl, rfl⟩
    refine tSeq_cut (fun σ H' => H' = H1 ∧ σ = [some (V.ref l), none]) (fun nx hk => ?_) ?_
    · walk_at "RD"
      refine ⟨_, SqL.of hL, _, e0, _, .str _, true, rfl, ?_⟩
      rw [if_neg (by decide)]
      refine ⟨_, SqL.of hL, _, e0, _, rfl, by rw [eL]; omega, _, _, _, rfl, ⟨_, .int _⟩, _, rfl, ?_⟩
      rw [eL]
      have ea : amg (.int (w : Int)) 1 10 = true := by simp only [amg, Bool.and_eq_true, decide_eq_true_eq]; omega
      rw [ea, if_neg (by decide)]
      exact hk _ _ ⟨rfl, rfl⟩
    rintro σ H2 ⟨rfl, rfl⟩
    refine tSeq_cut (fun σ H' => ∃ y, Same H2 H' ∧ σ = [some (V.ref l), y]) (fun nx hk => ?_) ?_
    · walk_at "RD"
      refine ⟨⟨_, SqL.of hL⟩, for_list (K := K) (a := l) (xs := (linesOf w h sg).map V.str) (fun i σ H' => ∃ y, Same H2 H' ∧ σ = [some (V.ref l), y]) ⟨none, Same.refl _, rfl⟩ (fun i σ H' _ ⟨_, sm, _⟩ => SqL.of (sm _ _ hL)) ?_ ?_⟩
      · rintro i y σ H' hi ⟨y0, sm, rfl⟩
        rw [List.getElem?_map] at hi
        obtain ⟨z, hz', rfl⟩ := Option.map_eq_some_iff.mp hi
        have hih : i < h := by
          have := (List.getElem?_eq_some_iff.mp hz').1
          rwa [lines_len] at this
        rw [lines_get hih] at hz'
        cases hz'
        walk_at "RD"
        refine ⟨_, SqL.of (sm _ _ hL), _, e0, _, rfl, by rw [eL]; omega, ?_⟩
        rw [eL]
        exact ⟨_, w, rfl, line_len g hih, w1, line_ok g, fun H3 s3 => ⟨sm.trans s3, _, rfl⟩⟩
      · rintro σ H' ⟨y, sm, rfl⟩
        exact hk _ _ ⟨y, sm, rfl⟩
    rintro σ H3 ⟨y, s3, rfl⟩
    walk_at "RD"
    refine ⟨rfl, _, SqL.of (s3 _ _ hL), sum_lines g, ?_⟩
    rw [join_lines g]
    refine comp_pure src_str (fun _ => true) isWall (fun y hy Q h => h) (fun y hy _ Q hh => ?_) (by rw [List.length_map, str_len_list, txt_len]; omega) ?_
    · obtain ⟨c, hc, rfl⟩ := List.mem_map.mp hy
      walk_at "RD"
      refine ⟨rfl, ?_⟩
      have e : isWall (chr1 c) = V.bl (decide (chr1 c = V.str (Str.ofString "#"))) := by
        show V.bl _ = V.bl _
        congr 1
        exact decide_eq_decide.mpr ⟨fun z => congrArg V.str z, fun z => V.str.inj z⟩
      rw [e] at hh
      exact hh
    · intro D hD
      have ey : (((txt sg).cps.toList.map chr1).filter fun _ => true).map isWall = (sg.map fun c => decide ((⟨#[c]⟩ : Str) = Str.ofString "#")).map V.bl := by
        rw [List.filter_eq_self.mpr (fun _ _ => rfl), List.map_map, List.map_map, txt_list]
        rfl
      rw [ey]
      refine ⟨hA, _, SqL.of upd_same, ?_⟩
      have e2 : (sg.map fun c => decide ((⟨#[c]⟩ : Str) = Str.ofString "#")).all id = false := by
        obtain ⟨c, hc, hne⟩ := g.cell
        rw [List.all_map, List.all_eq_false]
        exact ⟨c, hc, by
          show ¬ (decide _ = true)
          rw [decide_eq_true_eq, wall_eq]
          exact hne⟩
      rw [e2, if_neg (by decide)]
      exact hq _ (s3.trans (same_new hD))
theorem sc_Floor_init : FnScope ["self", "lines"] ["self", "lines"] (defScope s_Floor_init) := ⟨rfl, rfl, rfl, by decide +kernel, rfl, by decide +kernel, by decide +kernel⟩
set_option maxHeartbeats 4000000 in
theorem ok_Floor_init {fd : FuncData} (F : Fun K "__init__" "Floor.__init__" s_Floor_init ad.Floor_init fd) (T : Txt K mg ad) {fd_check_floor : FuncData} (B_check_floor : Binds K fd_check_floor ["lines"] []) (G_check_floor : FnOk P w K mg base CX0 3 ad.check_floor fd_check_floor ["lines"] (spCheck)) : FnOk P w K mg base CX0 4 ad.Floor_init fd ["self", "lines"] (spInit ad.C_Floor) := by
  refine F.ok sc_Floor_init (fun vs H Q E h => ?_) (fun cdv A outer s H vs Q E HR h => ?_)
  · obtain ⟨p, dx, l, w, h, sg, rfl, _⟩ := h
    rfl
  · obtain ⟨p, dx, l, w, h, sg, rfl, hp, hL, g, hq⟩ := h
    have ND := sc_Floor_init.nd
    have HU0 := HR.units0
    have HU := HR.units
    have hA := HR.hd
    have hz : (100000 : Nat) ≤ sizeLine := by rw [sizeLine_eq]; decide
    refine ⟨_, (pss_cons (ps_expr (pe_call G_check_floor (HR.mono (by decide)) (gl_of g_Floor_init_check_floor) T.mg_check_floor T.k_check_floor B_check_floor .nil pass0 (pa_cons (pe_var (i := 1) (x := "lines") rfl (vis_of v_Floor_init_lines) d_lines e_lines) pa_nil (stp rfl)) (hdb := d_check_floor) (he := stp rfl) (hpl := anp rfl)))
 (pss_cons (ps_fld (pe_var (i := 0) (x := "self") rfl (vis_of v_Floor_init_self) d_self e_self) (pe_callB call_len_str (gl_of g_Floor_init_len) T.b_len PyProof.Rows.Boot.«len» (pa_cons (pe_ix ix_list (pe_var (i := 1) (x := "lines") rfl (vis_of v_Floor_init_lines) d_lines e_lines) pe_int (fun _ _ => rfl)) pa_nil (stp rfl)) (hn := n_len) (hdb := d_len) (he := stp rfl) (hpl := anp rfl)) rfl)
 (pss_cons (ps_fld (pe_var (i := 0) (x := "self") rfl (vis_of v_Floor_init_self) d_self e_self) (pe_callB call_len_seq (gl_of g_Floor_init_len) T.b_len PyProof.Rows.Boot.«len» (pa_cons (pe_var (i := 1) (x := "lines") rfl (vis_of v_Floor_init_lines) d_lines e_lines) pa_nil (stp rfl)) (hn := n_len) (hdb := d_len) (he := stp rfl) (hpl := anp rfl)) rfl)
 (pss_cons (ps_fld (pe_var (i := 0) (x := "self") rfl (vis_of v_Floor_init_self) d_self e_self) (pe_callTy call_list_of (gl_of g_Floor_init_list) T.b_list PyProof.Rows.Boot.«list» (pa_cons (pe_var (i := 1) (x := "lines") rfl (vis_of v_Floor_init_lines) d_lines e_lines) pa_nil (stp rfl)) (hn := n_list) (hdb := d_list) (he := stp rfl) (hpl := anp rfl)) rfl)
 (pss_one (ps_fld (pe_var (i := 0) (x := "self") rfl (vis_of v_Floor_init_self) d_self e_self) (pe_bm PySem.F.plainAttrs_str PySem.F.slot_str_join PySem.F.type_str_join mt_join pe_str (pa_cons (pe_var (i := 1) (x := "lines") rfl (vis_of v_Floor_init_lines) d_lines e_lines) pa_nil (stp rfl))) rfl)))))), ?_⟩
    have w0 := g.w0
    have h0 := g.h0
    have l100 := len100 g
    have e0 : atI ((linesOf w h sg).map V.str) 0 = some (V.str (lineOf w sg 0)) := atI_nat (j := 0) (by rw [List.getElem?_map, lines_get (by omega)]; rfl)
    have eL := line_len g (show 0 < h by omega)
    have w1 := g.w1
    have npl : l ≠ p := ne_of hL hp (by intro z; cases z)
    walk_at "RD"
    refine ⟨l, w, h, sg, rfl, hL, g, fun H1 s1 => ?_⟩
    have hL1 := s1 _ _ hL
    have hp1 := s1 _ _ hp
    dsimp only
    refine ⟨_, SqL.of hL1, _, e0, _, rfl, by rw [eL]; omega, _, _, _, hp1, T.cl_Floor, T.n_Floor_wide, by show 0 < 1000; decide, ?_⟩
    rw [eL]
    refine ⟨_, .inl (SqL.of (by rw [upd_ne npl]; exact hL1)), _, _, _, upd_same, T.cl_Floor, T.n_Floor_high, by show 1 < 1000; decide, ?_⟩
    rw [List.length_map, lines_len]
    refine ⟨_, .inl (SqL.of (by rw [upd_ne npl, upd_ne npl]; exact hL1)), fun l2 n2 => ?_⟩
    have np2 : l2 ≠ p := fun z => by rw [z, upd_same] at n2; cases n2
    have n20 : H1 l2 = none := by rw [upd_ne np2, upd_ne np2] at n2; exact n2
    have nl2 : l ≠ l2 := ne_of_none hL1 n20
    refine ⟨_, _, _, by rw [upd_ne np2.symm, upd_same], T.cl_Floor, T.n_Floor_lines, by show 2 < 1000; decide, rfl, _, SqL.of (by rw [upd_ne npl, upd_ne nl2, upd_ne npl, upd_ne npl]; exact hL1), sum_lines g, _, _, _, upd_same, T.cl_Floor, T.n_Floor_signs, by show 3 < 1000; decide, ?_⟩
    rw [join_lines g]
    refine hq _ dx l2 (s1.free n20) upd_same ?_ fun b o hb nb => ?_
    · unfold LinesAt
      rw [upd_ne np2, upd_ne np2, upd_same]
    · have hb1 := s1 _ _ hb
      rw [upd_ne nb, upd_ne nb, upd_ne (ne_of_none hb1 n20), upd_ne nb, upd_ne nb]
      exact hb1
theorem sc_Floor_has : FnScope ["self", "cell"] ["self", "cell"] (defScope s_Floor_has) := ⟨rfl, rfl, rfl, by decide +kernel, rfl, by decide +kernel, by decide +kernel⟩
set_option maxHeartbeats 4000000 in
theorem ok_Floor_has {fd : FuncData} (F : Fun K "has" "Floor.has" s_Floor_has ad.Floor_has fd) (T : Txt K mg ad) {fd_is_among : FuncData} (B_is_among : Binds K fd_is_among ["thing", "least", "most"] []) (G_is_among : FnOk P w K mg base CX0 2 ad.is_among fd_is_among ["thing", "least", "most"] (spAmong K)) : FnOk P w K mg base CX0 3 ad.Floor_has fd ["self", "cell"] (spHas K ad.C_Floor) := by
  refine F.ok sc_Floor_has (fun vs H Q E h => ?_) (fun cdv A outer s H vs Q E HR h => ?_)
  · obtain ⟨p, w, h, sg, x, rfl, _⟩ := h
    rfl
  · obtain ⟨p, w, h, sg, x, rfl, F0, g, ty, hq⟩ := h
    have ND := sc_Floor_has.nd
    have HU0 := HR.units0
    have HU := HR.units
    have hA := HR.hd
    have hz : (100000 : Nat) ≤ sizeLine := by rw [sizeLine_eq]; decide
    obtain ⟨u_WALL, c_WALL, r_WALL⟩ := T.c_WALL
    refine ⟨_, (pss_one (ps_ret (pe_and (pe_call G_is_among (HR.mono (by decide)) (gl_of g_Floor_has_is_among) T.mg_is_among T.k_is_among B_is_among .nil pass0 (pa_cons (pe_var (i := 1) (x := "cell") rfl (vis_of v_Floor_has_cell) d_cell e_cell) (pa_cons pe_int (pa_cons (pe_op op_sub (pe_callB call_len_str (gl_of g_Floor_has_len) T.b_len PyProof.Rows.Boot.«len» (pa_cons (pe_fld (pe_var (i := 0) (x := "self") rfl (vis_of v_Floor_has_self) d_self e_self) (by rfl)) pa_nil (stp rfl)) (hn := n_len) (hdb := d_len) (he := stp rfl) (hpl := anp rfl)) pe_int) pa_nil (stp rfl)) (stp rfl)) (stp rfl)) (hdb := d_is_among) (he := stp rfl) (hpl := anp rfl)) (pe_one (pe_cmpR op_ne (pe_ix ix_str (pe_fld (pe_var (i := 0) (x := "self") rfl (vis_of v_Floor_has_self) d_self e_self) (by rfl)) (pe_var (i := 1) (x := "cell") rfl (vis_of v_Floor_has_cell) d_cell e_cell) (fun _ _ => rfl)) (pe_glob (v := V.str (Str.ofString "#")) (gl_of g_Floor_has_WALL) c_WALL r_WALL (hd := d_WALL)) (nomark _)))))), ?_⟩
    obtain ⟨dx, l, h1, h2⟩ := F0.ob
    have l100 := len100 g
    walk_at "RD"
    refine ⟨_, _, _, h1, T.cl_Floor, T.n_Floor_signs, _, f_signs _ _ _ _, _, rfl, by rw [txt_len]; omega, x, _, _, rfl, ty, _, rfl, ?_⟩
    rw [txt_len]
    cases x with
    | int i =>
      by_cases hi : 0 ≤ i ∧ i < sg.length
      · have ea : amg (.int i) 0 ((sg.length : Int) - 1) = true := by
          simp only [amg, Bool.and_eq_true, decide_eq_true_eq]; omega
        rw [ea, if_pos rfl]
        refine ⟨_, _, _, h1, T.cl_Floor, T.n_Floor_signs, _, f_signs _ _ _ _, _, rfl, _, rfl, by rw [txt_len]; omega, _, at_txt hi.1 hi.2, ?_⟩
        have e : hasV sg (.int i) = !decide ((⟨#[at_ sg i]⟩ : Str) = Str.ofString "#") := by
          show hasI sg i = _
          unfold hasI
          rw [decide_eq_true hi.1, decide_eq_true hi.2]
          simp only [Bool.true_and]
          congr 1
          exact decide_eq_decide.mpr (wall_eq _).symm
        rw [e] at hq
        exact hq
      · have ea : amg (.int i) 0 ((sg.length : Int) - 1) = false := by
          rw [← Bool.not_eq_true]
          simp only [amg, Bool.and_eq_true, decide_eq_true_eq]; omega
        rw [ea, if_neg (by decide)]
        have e : hasV sg (.int i) = false := by
          rw [← Bool.not_eq_true]
          show ¬ (hasI sg i = true)
          unfold hasI
          simp only [Bool.and_eq_true, decide_eq_true_eq]
          intro z
          exact hi ⟨z.1.1, z.1.2⟩
        rw [e] at hq
        exact hq
    | _ =>
      rw [show amg _ 0 ((sg.length : Int) - 1) = false from rfl, if_neg (by decide)]
      exact hq
theorem sc_Floor_sign : FnScope ["self", "cell"] ["self", "cell"] (defScope s_Floor_sign) := ⟨rfl, rfl, rfl, by decide +kernel, rfl, by decide +kernel, by decide +kernel⟩
set_option maxHeartbeats 4000000 in
theorem ok_Floor_sign {fd : FuncData} (F : Fun K "sign" "Floor.sign" s_Floor_sign ad.Floor_sign fd) (T : Txt K mg ad) : FnOk P w K mg base CX0 1 ad.Floor_sign fd ["self", "cell"] (spSign ad.C_Floor) := by
  refine F.ok sc_Floor_sign (fun vs H Q E h => ?_) (fun cdv A outer s H vs Q E HR h => ?_)
  · obtain ⟨p, w, h, sg, c, rfl, _⟩ := h
    rfl
  · obtain ⟨p, w, h, sg, c, rfl, F0, g, c0, c1, hq⟩ := h
    have ND := sc_Floor_sign.nd
    have HU0 := HR.units0
    have HU := HR.units
    have hA := HR.hd
    have hz : (100000 : Nat) ≤ sizeLine := by rw [sizeLine_eq]; decide
    refine ⟨_, (pss_one (ps_ret (pe_ix ix_str (pe_fld (pe_var (i := 0) (x := "self") rfl (vis_of v_Floor_sign_self) d_self e_self) (by rfl)) (pe_var (i := 1) (x := "cell") rfl (vis_of v_Floor_sign_cell) d_cell e_cell) (fun _ _ => rfl)))), ?_⟩
    obtain ⟨dx, l, h1, h2⟩ := F0.ob
    have l100 := len100 g
    walk_at "RD"
    exact ⟨_, _, _, h1, T.cl_Floor, T.n_Floor_signs, _, f_signs _ _ _ _, _, rfl, by rw [txt_len]; omega, _, at_txt c0 c1, hq⟩
theorem sc_Floor_column : FnScope ["self", "cell"] ["self", "cell"] (defScope s_Floor_column) := ⟨rfl, rfl, rfl, by decide +kernel, rfl, by decide +kernel, by decide +kernel⟩
set_option maxHeartbeats 4000000 in
theorem ok_Floor_column {fd : FuncData} (F : Fun K "column" "Floor.column" s_Floor_column ad.Floor_column fd) (T : Txt K mg ad) : FnOk P w K mg base CX0 1 ad.Floor_column fd ["self", "cell"] (spCol ad.C_Floor) := by
  refine F.ok sc_Floor_column (fun vs H Q E h => ?_) (fun cdv A outer s H vs Q E HR h => ?_)
  · obtain ⟨p, w, h, sg, c, rfl, _⟩ := h
    rfl
  · obtain ⟨p, w, h, sg, c, rfl, F0, g, hq⟩ := h
    have ND := sc_Floor_column.nd
    have HU0 := HR.units0
    have HU := HR.units
    have hA := HR.hd
    have hz : (100000 : Nat) ≤ sizeLine := by rw [sizeLine_eq]; decide
    refine ⟨_, (pss_one (ps_ret (pe_op op_mod (pe_var (i := 1) (x := "cell") rfl (vis_of v_Floor_column_cell) d_cell e_cell) (pe_fld (pe_var (i := 0) (x := "self") rfl (vis_of v_Floor_column_self) d_self e_self) (by rfl))))), ?_⟩
    obtain ⟨dx, l, h1, h2⟩ := F0.ob
    have w0 := g.w0
    walk_at "RD"
    exact ⟨_, _, _, h1, T.cl_Floor, T.n_Floor_wide, _, f_wide _ _ _ _, _, rfl, by omega, hq⟩
theorem sc_Floor_row : FnScope ["self", "cell"] ["self", "cell"] (defScope s_Floor_row) := ⟨rfl, rfl, rfl, by decide +kernel, rfl, by decide +kernel, by decide +kernel⟩
set_option maxHeartbeats 4000000 in
theorem ok_Floor_row {fd : FuncData} (F : Fun K "row" "Floor.row" s_Floor_row ad.Floor_row fd) (T : Txt K mg ad) : FnOk P w K mg base CX0 1 ad.Floor_row fd ["self", "cell"] (spRowOf ad.C_Floor) := by
  refine F.ok sc_Floor_row (fun vs H Q E h => ?_) (fun cdv A outer s H vs Q E HR h => ?_)
  · obtain ⟨p, w, h, sg, c, rfl, _⟩ := h
    rfl
  · obtain ⟨p, w, h, sg, c, rfl, F0, g, hq⟩ := h
    have ND := sc_Floor_row.nd
    have HU0 := HR.units0
    have HU := HR.units
    have hA := HR.hd
    have hz : (100000 : Nat) ≤ sizeLine := by rw [sizeLine_eq]; decide
    refine ⟨_, (pss_one (ps_ret (pe_op op_fdiv (pe_var (i := 1) (x := "cell") rfl (vis_of v_Floor_row_cell) d_cell e_cell) (pe_fld (pe_var (i := 0) (x := "self") rfl (vis_of v_Floor_row_self) d_self e_self) (by rfl))))), ?_⟩
    obtain ⟨dx, l, h1, h2⟩ := F0.ob
    have w0 := g.w0
    have w1 := g.w1
    walk_at "RD"
    exact ⟨_, _, _, h1, T.cl_Floor, T.n_Floor_wide, _, f_wide _ _ _ _, _, rfl, ⟨by omega, by omega⟩, hq⟩
theorem sc_Floor_beside : FnScope ["self", "cell", "near"] ["self", "cell"] (defScope s_Floor_beside) := ⟨rfl, rfl, rfl, by decide +kernel, rfl, by decide +kernel, by decide +kernel⟩
set_option maxHeartbeats 4000000 in
theorem ok_Floor_beside {fd : FuncData} (F : Fun K "beside" "Floor.beside" s_Floor_beside ad.Floor_beside fd) (T : Txt K mg ad) {fd_Floor_column : FuncData} (B_Floor_column : Binds K fd_Floor_column ["self", "cell"] []) (G_Floor_column : FnOk P w K mg base CX0 1 ad.Floor_column fd_Floor_column ["self", "cell"] (spCol ad.C_Floor)) {fd_Floor_has : FuncData} (B_Floor_has : Binds K fd_Floor_has ["self", "cell"] []) (G_Floor_has : FnOk P w K mg base CX0 3 ad.Floor_has fd_Floor_has ["self", "cell"] (spHas K ad.C_Floor)) : FnOk P w K mg base CX0 4 ad.Floor_beside fd ["self", "cell"] (spBeside ad.C_Floor) := by
  refine F.ok sc_Floor_beside (fun vs H Q E h => ?_) (fun cdv A outer s H vs Q E HR h => ?_)
  · obtain ⟨p, w, h, sg, c, rfl, _⟩ := h
    rfl
  · obtain ⟨p, w, h, sg, c, rfl, F0, g, hq⟩ := h
    have ND := sc_Floor_beside.nd
    have HU0 := HR.units0
    have HU := HR.units
    have hA := HR.hd
    have hz : (100000 : Nat) ≤ sizeLine := by rw [sizeLine_eq]; decide
    refine ⟨_, (pss_cons (ps_set (i := 2) ND rfl (loc_of (Or.inl l_Floor_beside_near)) (pe_lst (pa_cons (pe_op op_sub (pe_var (i := 1) (x := "cell") rfl (vis_of v_Floor_beside_cell) d_cell e_cell) (pe_fld (pe_var (i := 0) (x := "self") rfl (vis_of v_Floor_beside_self) d_self e_self) (by rfl))) pa_nil (stp rfl))))
 (pss_cons (ps_if (pt_cmpR op_gt (pe_meth (pe_var (i := 0) (x := "self") rfl (vis_of v_Floor_beside_self) d_self e_self) T.cl_Floor T.m_Floor_column G_Floor_column (HR.mono (by decide)) B_Floor_column .nil pass0 (pa_cons (pe_var (i := 1) (x := "cell") rfl (vis_of v_Floor_beside_cell) d_cell e_cell) pa_nil (stp rfl)) (hst := stp rfl) (hpl := anp rfl)) pe_int (nomark _))
 (pss_one (ps_expr (pe_bm PySem.F.plainAttrs_list PySem.F.slot_list_append PySem.F.type_list_append mt_append (pe_var (i := 2) (x := "near") rfl (vis_of v_Floor_beside_near) d_near e_near) (pa_cons (pe_op op_sub (pe_var (i := 1) (x := "cell") rfl (vis_of v_Floor_beside_cell) d_cell e_cell) pe_int) pa_nil (stp rfl)))))
 pss_nil)
 (pss_cons (ps_if (pt_cmpR op_lt (pe_meth (pe_var (i := 0) (x := "self") rfl (vis_of v_Floor_beside_self) d_self e_self) T.cl_Floor T.m_Floor_column G_Floor_column (HR.mono (by decide)) B_Floor_column .nil pass0 (pa_cons (pe_var (i := 1) (x := "cell") rfl (vis_of v_Floor_beside_cell) d_cell e_cell) pa_nil (stp rfl)) (hst := stp rfl) (hpl := anp rfl)) (pe_op op_sub (pe_fld (pe_var (i := 0) (x := "self") rfl (vis_of v_Floor_beside_self) d_self e_self) (by rfl)) pe_int) (nomark _))
 (pss_one (ps_expr (pe_bm PySem.F.plainAttrs_list PySem.F.slot_list_append PySem.F.type_list_append mt_append (pe_var (i := 2) (x := "near") rfl (vis_of v_Floor_beside_near) d_near e_near) (pa_cons (pe_op op_add (pe_var (i := 1) (x := "cell") rfl (vis_of v_Floor_beside_cell) d_cell e_cell) pe_int) pa_nil (stp rfl)))))
 pss_nil)
 (pss_cons (ps_expr (pe_bm PySem.F.plainAttrs_list PySem.F.slot_list_append PySem.F.type_list_append mt_append (pe_var (i := 2) (x := "near") rfl (vis_of v_Floor_beside_near) d_near e_near) (pa_cons (pe_op op_add (pe_var (i := 1) (x := "cell") rfl (vis_of v_Floor_beside_cell) d_cell e_cell) (pe_fld (pe_var (i := 0) (x := "self") rfl (vis_of v_Floor_beside_self) d_self e_self) (by rfl))) pa_nil (stp rfl))))
 (pss_one (ps_ret (pe_comp (CompScope.of (osc := defScope s_Floor_beside) (tn := ["place"]) (cn := ["self"]) (caps := [0]) rfl rfl (by decide +kernel) (by decide +kernel) (by decide +kernel) (by decide +kernel) rfl) (calm0 rfl)  (pi_list (pe_var (i := 2) (x := "near") rfl (vis_of v_Floor_beside_near) d_near e_near))
 (fun _ _ _ _ _ => (pg_name (i := 0) (show (["place", "self"] : List Str).Nodup by decide +kernel) rfl (Or.inl rfl))) (fun _ _ _ _ _ => (pts_one (pt_val (pe_meth (pv 1) T.cl_Floor T.m_Floor_has G_Floor_has (HR.mono (by decide)) B_Floor_has .nil pass0 (pa_cons (pv 0) pa_nil (stp rfl)) (hst := stp rfl) (hpl := anp rfl))))) (fun _ _ _ _ _ => (pv 0))))))))), ?_⟩
    obtain ⟨dx, l, h1, h2⟩ := F0.ob
    have w0 := g.w0
    have w1 := g.w1
    have nocol : (flds w h l sg).lookup ("column" : Str) = none := f_no _ _ _ _ (by decide +kernel) (by decide +kernel) (by decide +kernel) (by decide +kernel)
    have nohas : (flds w h l sg).lookup ("has" : Str) = none := f_no _ _ _ _ (by decide +kernel) (by decide +kernel) (by decide +kernel) (by decide +kernel)
    refine tSeq_cut (fun σ H' => ∃ n, H n = none ∧ Same H H' ∧ H' n = some (.lst ([c - (w : Int)].map V.int)) ∧ σ = [some (V.ref p), some (V.int c), some (V.ref n)]) (fun nx hk => ?_) ?_
    · walk_at "RD"
      exact ⟨_, _, _, h1, T.cl_Floor, T.n_Floor_wide, _, f_wide _ _ _ _, _, rfl, by omega, fun n nn => hk _ _ ⟨n, nn, same_new nn, upd_same, rfl⟩⟩
    rintro σ H1 ⟨n, nn, s1, hn, rfl⟩
    refine tSeq_cut (fun σ H' => Same H H' ∧ H' n = some (.lst (([c - (w : Int)] ++ (if c % w > 0 then [c - 1] else [])).map V.int)) ∧ σ = [some (V.ref p), some (V.int c), some (V.ref n)]) (fun nx hk => ?_) ?_
    · walk_at "RD"
      refine ⟨_, _, s1 _ _ h1, nocol, p, w, h, sg, c, rfl, F0.same s1, g, _, rfl, ?_⟩
      split
      · rename_i hc
        refine ⟨.inl ⟨rfl, _, SqL.of hn⟩, _, hn, by simp only [List.map_cons, List.map_nil, List.length_cons, List.length_nil]; omega, hk _ _ ⟨same_upd s1 nn, ?_, rfl⟩⟩
        rw [upd_same, if_pos hc]
        rfl
      · rename_i hc
        refine hk _ _ ⟨s1, ?_, rfl⟩
        rw [hn, if_neg hc]
        rfl
    rintro σ H2 ⟨s2, hn2, rfl⟩
    refine tSeq_cut (fun σ H' => Same H H' ∧ H' n = some (.lst (([c - (w : Int)] ++ (if c % w > 0 then [c - 1] else []) ++ (if c % w < (w : Int) - 1 then [c + 1] else [])).map V.int)) ∧ σ = [some (V.ref p), some (V.int c), some (V.ref n)]) (fun nx hk => ?_) ?_
    · walk_at "RD"
      refine ⟨_, _, s2 _ _ h1, nocol, p, w, h, sg, c, rfl, F0.same s2, g, _, _, _, s2 _ _ h1, T.cl_Floor, T.n_Floor_wide, _, f_wide _ _ _ _, _, rfl, _, rfl, ?_⟩
      split
      · rename_i hc
        refine ⟨.inl ⟨rfl, _, SqL.of hn2⟩, _, hn2, ?_, hk _ _ ⟨same_upd s2 nn, ?_, rfl⟩⟩
        · rw [List.length_map, List.length_append]
          split <;> simp only [List.length_cons, List.length_nil] <;> omega
        · rw [upd_same, if_pos hc]
          simp only [List.map_append, List.map_cons, List.map_nil]
      · rename_i hc
        refine hk _ _ ⟨s2, ?_, rfl⟩
        rw [hn2, if_neg hc, List.append_nil]
    rintro σ H3 ⟨s3, hn3, rfl⟩
    refine tSeq_cut (fun σ H' => Same H H' ∧ H' n = some (.lst ((nearOf w c).map V.int)) ∧ σ = [some (V.ref p), some (V.int c), some (V.ref n)]) (fun nx hk => ?_) ?_
    · walk_at "RD"
      refine ⟨.inl ⟨rfl, _, SqL.of hn3⟩, _, _, _, s3 _ _ h1, T.cl_Floor, T.n_Floor_wide, _, f_wide _ _ _ _, _, rfl, _, hn3, ?_, hk _ _ ⟨same_upd s3 nn, ?_, rfl⟩⟩
      · rw [List.length_map, List.length_append, List.length_append]
        split <;> split <;> simp only [List.length_cons, List.length_nil] <;> omega
      · rw [upd_same]
        unfold nearOf
        simp only [List.map_append, List.map_cons, List.map_nil]
    rintro σ H4 ⟨s4, hn4, rfl⟩
    have F4 := F0.same s4
    walk_at "RD"
    refine ⟨⟨_, SqL.of hn4⟩, comp_pure (src_list (SqL.of hn4)) (hasV sg) (fun v => v) (fun y hy Q hh => ?_) (fun y hy _ Q hh => ?_) ?_ ?_⟩
    · obtain ⟨z, _, rfl⟩ := List.mem_map.mp hy
      walk_at "RD"
      exact ⟨_, _, s4 _ _ h1, nohas, p, w, h, sg, _, rfl, F4, g, ⟨_, .int _⟩, _, rfl, hh⟩
    · walk_at "RD"
      exact hh
    · unfold nearOf
      rw [List.length_map, List.length_append, List.length_append, List.length_append]
      split <;> split <;> simp only [List.length_cons, List.length_nil] <;> omega
    · intro D hD
      have e : ((((nearOf w c).map V.int).filter (hasV sg)).map fun v => v) = (besideOf w sg c).map V.int := by
        rw [List.map_id', besideOf, List.filter_map]
        rfl
      rw [e]
      exact hq D _ (s4.free hD) (s4.trans (same_new hD)) upd_same
theorem sc_Carrier_init : FnScope ["self", "full"] ["self", "full"] (defScope s_Carrier_init) := ⟨rfl, rfl, rfl, by decide +kernel, rfl, by decide +kernel, by decide +kernel⟩
set_option maxHeartbeats 4000000 in
theorem ok_Carrier_init {fd : FuncData} (F : Fun K "__init__" "Carrier.__init__" s_Carrier_init ad.Carrier_init fd) (T : Txt K mg ad) : FnOk P w K mg base CX0 1 ad.Carrier_init fd ["self", "full"] (spCInit ad) := by
  refine F.ok sc_Carrier_init (fun vs H Q E h => ?_) (fun cdv A outer s H vs Q E HR h => ?_)
  · obtain ⟨p, dx, n, i, rfl, _⟩ := h
    rfl
  · obtain ⟨p, dx, n, i, rfl, hp, hq⟩ := h
    have ND := sc_Carrier_init.nd
    have HU0 := HR.units0
    have HU := HR.units
    have hA := HR.hd
    have hz : (100000 : Nat) ≤ sizeLine := by rw [sizeLine_eq]; decide
    refine ⟨_, (pss_one (ps_fld (pe_var (i := 0) (x := "self") rfl (vis_of v_Carrier_init_self) d_self e_self) (pe_var (i := 1) (x := "full") rfl (vis_of v_Carrier_init_full) d_full e_full) rfl)), ?_⟩
    walk_at "RD"
    exact ⟨_, _, _, hp, cls_of T i, nof_of T i, by simp, hq⟩
theorem sc_Carrier_may_stand : FnScope ["self", "sign"] ["self", "sign"] (defScope s_Carrier_may_stand) := ⟨rfl, rfl, rfl, by decide +kernel, rfl, by decide +kernel, by decide +kernel⟩
set_option maxHeartbeats 4000000 in
theorem ok_Carrier_may_stand {fd : FuncData} (F : Fun K "may_stand" "Carrier.may_stand" s_Carrier_may_stand ad.Carrier_may_stand fd) (T : Txt K mg ad) : FnOk P w K mg base CX0 1 ad.Carrier_may_stand fd ["self", "sign"] (spMay 0) := by
  refine F.ok sc_Carrier_may_stand (fun vs H Q E h => ?_) (fun cdv A outer s H vs Q E HR h => ?_)
  · obtain ⟨x, c, rfl, _⟩ := h
    rfl
  · obtain ⟨x, c, rfl, hq⟩ := h
    have ND := sc_Carrier_may_stand.nd
    have HU0 := HR.units0
    have HU := HR.units
    have hA := HR.hd
    have hz : (100000 : Nat) ≤ sizeLine := by rw [sizeLine_eq]; decide
    obtain ⟨u_COMMON_SIGNS, c_COMMON_SIGNS, r_COMMON_SIGNS⟩ := T.c_COMMON_SIGNS
    refine ⟨_, (pss_one (ps_ret (pe_cmpR op_in_seq (pe_var (i := 1) (x := "sign") rfl (vis_of v_Carrier_may_stand_sign) d_sign e_sign) (pe_glob (v := .ref ad.K_COMMON_SIGNS) (gl_of g_Carrier_may_stand_COMMON_SIGNS) c_COMMON_SIGNS r_COMMON_SIGNS (hd := d_COMMON_SIGNS)) (by with_unfolding_all rfl)))), ?_⟩
    walk_at "RD"
    refine ⟨_, .inr (T.kt_COMMON_SIGNS H), rfl, rfl, ?_⟩
    rw [in_common]
    have e : stands 0 c = common c := by simp [stands]
    rw [← e]
    exact hq
theorem sc_Crawler_may_stand : FnScope ["self", "sign"] ["self", "sign"] (defScope s_Crawler_may_stand) := ⟨rfl, rfl, rfl, by decide +kernel, rfl, by decide +kernel, by decide +kernel⟩
set_option maxHeartbeats 4000000 in
theorem ok_Crawler_may_stand {fd : FuncData} (F : Fun K "may_stand" "Crawler.may_stand" s_Crawler_may_stand ad.Crawler_may_stand fd) (T : Txt K mg ad) : FnOk P w K mg base CX0 1 ad.Crawler_may_stand fd ["self", "sign"] (spMay 1) := by
  refine F.ok sc_Crawler_may_stand (fun vs H Q E h => ?_) (fun cdv A outer s H vs Q E HR h => ?_)
  · obtain ⟨x, c, rfl, _⟩ := h
    rfl
  · obtain ⟨x, c, rfl, hq⟩ := h
    have ND := sc_Crawler_may_stand.nd
    have HU0 := HR.units0
    have HU := HR.units
    have hA := HR.hd
    have hz : (100000 : Nat) ≤ sizeLine := by rw [sizeLine_eq]; decide
    obtain ⟨u_ROUGH, c_ROUGH, r_ROUGH⟩ := T.c_ROUGH
    obtain ⟨u_COMMON_SIGNS, c_COMMON_SIGNS, r_COMMON_SIGNS⟩ := T.c_COMMON_SIGNS
    refine ⟨_, (pss_one (ps_ret (pe_or (pe_cmpR op_eq (pe_var (i := 1) (x := "sign") rfl (vis_of v_Crawler_may_stand_sign) d_sign e_sign) (pe_glob (v := V.str (Str.ofString "~")) (gl_of g_Crawler_may_stand_ROUGH) c_ROUGH r_ROUGH (hd := d_ROUGH)) (nomark _)) (pe_one (pe_cmpR op_in_seq (pe_var (i := 1) (x := "sign") rfl (vis_of v_Crawler_may_stand_sign) d_sign e_sign) (pe_glob (v := .ref ad.K_COMMON_SIGNS) (gl_of g_Crawler_may_stand_COMMON_SIGNS) c_COMMON_SIGNS r_COMMON_SIGNS (hd := d_COMMON_SIGNS)) (by with_unfolding_all rfl)))))), ?_⟩
    walk_at "RD"
    refine ⟨rfl, ?_⟩
    by_cases e : c = 126
    · rw [if_pos (q126.mpr e)]
      have e2 : stands 1 c = true := by simp [stands, e]
      rw [← e2]
      exact hq
    · rw [if_neg (fun z => e (q126.mp z))]
      refine ⟨_, .inr (T.kt_COMMON_SIGNS H), rfl, rfl, ?_⟩
      rw [in_common]
      have e2 : stands 1 c = common c := by simp [stands, e]
      rw [← e2]
      exact hq
theorem sc_Carrier_gain : FnScope ["self", "sign"] ["self", "sign"] (defScope s_Carrier_gain) := ⟨rfl, rfl, rfl, by decide +kernel, rfl, by decide +kernel, by decide +kernel⟩
set_option maxHeartbeats 4000000 in
theorem ok_Carrier_gain {fd : FuncData} (F : Fun K "gain" "Carrier.gain" s_Carrier_gain ad.Carrier_gain fd) (T : Txt K mg ad) : FnOk P w K mg base CX0 1 ad.Carrier_gain fd ["self", "sign"] (spGain 0) := by
  refine F.ok sc_Carrier_gain (fun vs H Q E h => ?_) (fun cdv A outer s H vs Q E HR h => ?_)
  · obtain ⟨x, c, rfl, _⟩ := h
    rfl
  · obtain ⟨x, c, rfl, hq⟩ := h
    have ND := sc_Carrier_gain.nd
    have HU0 := HR.units0
    have HU := HR.units
    have hA := HR.hd
    have hz : (100000 : Nat) ≤ sizeLine := by rw [sizeLine_eq]; decide
    obtain ⟨u_CHARGER, c_CHARGER, r_CHARGER⟩ := T.c_CHARGER
    refine ⟨_, (pss_one (ps_ret (pe_ifExp (pt_cmpR op_eq (pe_var (i := 1) (x := "sign") rfl (vis_of v_Carrier_gain_sign) d_sign e_sign) (pe_glob (v := V.str (Str.ofString "+")) (gl_of g_Carrier_gain_CHARGER) c_CHARGER r_CHARGER (hd := d_CHARGER)) (nomark _)) pe_int pe_int))), ?_⟩
    walk_at "RD"
    refine ⟨rfl, ?_⟩
    unfold gainOf at hq
    by_cases e : c = 43
    · rw [if_pos (q43.mpr e)]
      rw [if_pos e] at hq
      exact hq
    · rw [if_neg (fun z => e (q43.mp z))]
      rw [if_neg e] at hq
      exact hq
theorem sc_Crawler_gain : FnScope ["self", "sign"] ["self", "sign"] (defScope s_Crawler_gain) := ⟨rfl, rfl, rfl, by decide +kernel, rfl, by decide +kernel, by decide +kernel⟩
set_option maxHeartbeats 4000000 in
theorem ok_Crawler_gain {fd : FuncData} (F : Fun K "gain" "Crawler.gain" s_Crawler_gain ad.Crawler_gain fd) (T : Txt K mg ad) : FnOk P w K mg base CX0 1 ad.Crawler_gain fd ["self", "sign"] (spGain 1) := by
  refine F.ok sc_Crawler_gain (fun vs H Q E h => ?_) (fun cdv A outer s H vs Q E HR h => ?_)
  · obtain ⟨x, c, rfl, _⟩ := h
    rfl
  · obtain ⟨x, c, rfl, hq⟩ := h
    have ND := sc_Crawler_gain.nd
    have HU0 := HR.units0
    have HU := HR.units
    have hA := HR.hd
    have hz : (100000 : Nat) ≤ sizeLine := by rw [sizeLine_eq]; decide
    obtain ⟨u_CHARGER, c_CHARGER, r_CHARGER⟩ := T.c_CHARGER
    refine ⟨_, (pss_one (ps_ret (pe_ifExp (pt_cmpR op_eq (pe_var (i := 1) (x := "sign") rfl (vis_of v_Crawler_gain_sign) d_sign e_sign) (pe_glob (v := V.str (Str.ofString "+")) (gl_of g_Crawler_gain_CHARGER) c_CHARGER r_CHARGER (hd := d_CHARGER)) (nomark _)) pe_int pe_int))), ?_⟩
    walk_at "RD"
    refine ⟨rfl, ?_⟩
    unfold gainOf at hq
    by_cases e : c = 43
    · rw [if_pos (q43.mpr e)]
      rw [if_pos e] at hq
      exact hq
    · rw [if_neg (fun z => e (q43.mp z))]
      rw [if_neg e] at hq
      exact hq
theorem sc_Runner_gain : FnScope ["self", "sign"] ["self", "sign"] (defScope s_Runner_gain) := ⟨rfl, rfl, rfl, by decide +kernel, rfl, by decide +kernel, by decide +kernel⟩
set_option maxHeartbeats 4000000 in
theorem ok_Runner_gain {fd : FuncData} (F : Fun K "gain" "Runner.gain" s_Runner_gain ad.Runner_gain fd) (T : Txt K mg ad) : FnOk P w K mg base CX0 1 ad.Runner_gain fd ["self", "sign"] (spGain 2) := by
  refine F.ok sc_Runner_gain (fun vs H Q E h => ?_) (fun cdv A outer s H vs Q E HR h => ?_)
  · obtain ⟨x, c, rfl, _⟩ := h
    rfl
  · obtain ⟨x, c, rfl, hq⟩ := h
    have ND := sc_Runner_gain.nd
    have HU0 := HR.units0
    have HU := HR.units
    have hA := HR.hd
    have hz : (100000 : Nat) ≤ sizeLine := by rw [sizeLine_eq]; decide
    obtain ⟨u_CHARGER, c_CHARGER, r_CHARGER⟩ := T.c_CHARGER
    refine ⟨_, (pss_one (ps_ret (pe_ifExp (pt_cmpR op_eq (pe_var (i := 1) (x := "sign") rfl (vis_of v_Runner_gain_sign) d_sign e_sign) (pe_glob (v := V.str (Str.ofString "+")) (gl_of g_Runner_gain_CHARGER) c_CHARGER r_CHARGER (hd := d_CHARGER)) (nomark _)) pe_int pe_int))), ?_⟩
    walk_at "RD"
    refine ⟨rfl, ?_⟩
    unfold gainOf at hq
    by_cases e : c = 43
    · rw [if_pos (q43.mpr e)]
      rw [if_pos e] at hq
      exact hq
    · rw [if_neg (fun z => e (q43.mp z))]
      rw [if_neg e] at hq
      exact hq
theorem sc_Carrier_fare : FnScope ["self", "floor", "cell", "other"] ["self", "floor", "cell", "other"] (defScope s_Carrier_fare) := ⟨rfl, rfl, rfl, by decide +kernel, rfl, by decide +kernel, by decide +kernel⟩
set_option maxHeartbeats 4000000 in
theorem ok_Carrier_fare {fd : FuncData} (F : Fun K "fare" "Carrier.fare" s_Carrier_fare ad.Carrier_fare fd) (T : Txt K mg ad) : FnOk P w K mg base CX0 1 ad.Carrier_fare fd ["self", "floor", "cell", "other"] (spFare ad.C_Floor 0) := by
  refine F.ok sc_Carrier_fare (fun vs H Q E h => ?_) (fun cdv A outer s H vs Q E HR h => ?_)
  · obtain ⟨x, fl, w, h, sg, cell, other, rfl, _⟩ := h
    rfl
  · obtain ⟨x, fl, w, h, sg, cell, other, rfl, F0, g, c01, o01, hq⟩ := h
    have ND := sc_Carrier_fare.nd
    have HU0 := HR.units0
    have HU := HR.units
    have hA := HR.hd
    have hz : (100000 : Nat) ≤ sizeLine := by rw [sizeLine_eq]; decide
    refine ⟨_, (pss_one (ps_ret pe_int)), ?_⟩
    walk_at "RD"
    exact hq _ (Same.refl _)
theorem sc_Crawler_fare : FnScope ["self", "floor", "cell", "other"] ["self", "floor", "cell", "other"] (defScope s_Crawler_fare) := ⟨rfl, rfl, rfl, by decide +kernel, rfl, by decide +kernel, by decide +kernel⟩
set_option maxHeartbeats 4000000 in
theorem ok_Crawler_fare {fd : FuncData} (F : Fun K "fare" "Crawler.fare" s_Crawler_fare ad.Crawler_fare fd) (T : Txt K mg ad) {fd_Floor_sign : FuncData} (B_Floor_sign : Binds K fd_Floor_sign ["self", "cell"] []) (G_Floor_sign : FnOk P w K mg base CX0 1 ad.Floor_sign fd_Floor_sign ["self", "cell"] (spSign ad.C_Floor)) : FnOk P w K mg base CX0 2 ad.Crawler_fare fd ["self", "floor", "cell", "other"] (spFare ad.C_Floor 1) := by
  refine F.ok sc_Crawler_fare (fun vs H Q E h => ?_) (fun cdv A outer s H vs Q E HR h => ?_)
  · obtain ⟨x, fl, w, h, sg, cell, other, rfl, _⟩ := h
    rfl
  · obtain ⟨x, fl, w, h, sg, cell, other, rfl, F0, g, c01, o01, hq⟩ := h
    have ND := sc_Crawler_fare.nd
    have HU0 := HR.units0
    have HU := HR.units
    have hA := HR.hd
    have hz : (100000 : Nat) ≤ sizeLine := by rw [sizeLine_eq]; decide
    obtain ⟨u_ROUGH, c_ROUGH, r_ROUGH⟩ := T.c_ROUGH
    refine ⟨_, (pss_one (ps_ret (pe_ifExp (pt_cmpR op_eq (pe_meth (pe_var (i := 1) (x := "floor") rfl (vis_of v_Crawler_fare_floor) d_floor e_floor) T.cl_Floor T.m_Floor_sign G_Floor_sign (HR.mono (by decide)) B_Floor_sign .nil pass0 (pa_cons (pe_var (i := 3) (x := "other") rfl (vis_of v_Crawler_fare_other) d_other e_other) pa_nil (stp rfl)) (hst := stp rfl) (hpl := anp rfl)) (pe_glob (v := V.str (Str.ofString "~")) (gl_of g_Crawler_fare_ROUGH) c_ROUGH r_ROUGH (hd := d_ROUGH)) (nomark _)) pe_int pe_int))), ?_⟩
    obtain ⟨dx, l, h1, h2⟩ := id F0.ob
    walk_at "RD"
    refine ⟨_, _, h1, nofl (by decide +kernel) (by decide +kernel) (by decide +kernel) (by decide +kernel), fl, w, h, sg, other, rfl, F0, g, o01.1, o01.2, rfl, ?_⟩
    simp only [fareOf] at hq
    by_cases e : at_ sg other = 126
    · rw [if_pos (q126.mpr e)]
      rw [if_pos e] at hq
      exact hq _ (Same.refl _)
    · rw [if_neg (fun z => e (q126.mp z))]
      rw [if_neg e] at hq
      exact hq _ (Same.refl _)
theorem sc_Runner_fare : FnScope ["self", "floor", "cell", "other"] ["self", "floor", "cell", "other"] (defScope s_Runner_fare) := ⟨rfl, rfl, rfl, by decide +kernel, rfl, by decide +kernel, by decide +kernel⟩
set_option maxHeartbeats 4000000 in
theorem ok_Runner_fare {fd : FuncData} (F : Fun K "fare" "Runner.fare" s_Runner_fare ad.Runner_fare fd) (T : Txt K mg ad) {fd_Floor_row : FuncData} (B_Floor_row : Binds K fd_Floor_row ["self", "cell"] []) (G_Floor_row : FnOk P w K mg base CX0 1 ad.Floor_row fd_Floor_row ["self", "cell"] (spRowOf ad.C_Floor)) {fd_Floor_sign : FuncData} (B_Floor_sign : Binds K fd_Floor_sign ["self", "cell"] []) (G_Floor_sign : FnOk P w K mg base CX0 1 ad.Floor_sign fd_Floor_sign ["self", "cell"] (spSign ad.C_Floor)) : FnOk P w K mg base CX0 2 ad.Runner_fare fd ["self", "floor", "cell", "other"] (spFare ad.C_Floor 2) := by
  refine F.ok sc_Runner_fare (fun vs H Q E h => ?_) (fun cdv A outer s H vs Q E HR h => ?_)
  · obtain ⟨x, fl, w, h, sg, cell, other, rfl, _⟩ := h
    rfl
  · obtain ⟨x, fl, w, h, sg, cell, other, rfl, F0, g, c01, o01, hq⟩ := h
    have ND := sc_Runner_fare.nd
    have HU0 := HR.units0
    have HU := HR.units
    have hA := HR.hd
    have hz : (100000 : Nat) ≤ sizeLine := by rw [sizeLine_eq]; decide
    obtain ⟨u_LANE, c_LANE, r_LANE⟩ := T.c_LANE
    refine ⟨_, (pss_cons (ps_if (pt_cmpR op_eq (pe_meth (pe_var (i := 1) (x := "floor") rfl (vis_of v_Runner_fare_floor) d_floor e_floor) T.cl_Floor T.m_Floor_row G_Floor_row (HR.mono (by decide)) B_Floor_row .nil pass0 (pa_cons (pe_var (i := 2) (x := "cell") rfl (vis_of v_Runner_fare_cell) d_cell e_cell) pa_nil (stp rfl)) (hst := stp rfl) (hpl := anp rfl)) (pe_meth (pe_var (i := 1) (x := "floor") rfl (vis_of v_Runner_fare_floor) d_floor e_floor) T.cl_Floor T.m_Floor_row G_Floor_row (HR.mono (by decide)) B_Floor_row .nil pass0 (pa_cons (pe_var (i := 3) (x := "other") rfl (vis_of v_Runner_fare_other) d_other e_other) pa_nil (stp rfl)) (hst := stp rfl) (hpl := anp rfl)) (nomark _))
 (pss_one (ps_ret pe_int))
 pss_nil)
 (pss_cons (ps_if (pt_cmpR op_in_seq (pe_glob (v := V.str (Str.ofString "|")) (gl_of g_Runner_fare_LANE) c_LANE r_LANE (hd := d_LANE)) (pe_tup (pa_cons (pe_meth (pe_var (i := 1) (x := "floor") rfl (vis_of v_Runner_fare_floor) d_floor e_floor) T.cl_Floor T.m_Floor_sign G_Floor_sign (HR.mono (by decide)) B_Floor_sign .nil pass0 (pa_cons (pe_var (i := 2) (x := "cell") rfl (vis_of v_Runner_fare_cell) d_cell e_cell) pa_nil (stp rfl)) (hst := stp rfl) (hpl := anp rfl)) (pa_cons (pe_meth (pe_var (i := 1) (x := "floor") rfl (vis_of v_Runner_fare_floor) d_floor e_floor) T.cl_Floor T.m_Floor_sign G_Floor_sign (HR.mono (by decide)) B_Floor_sign .nil pass0 (pa_cons (pe_var (i := 3) (x := "other") rfl (vis_of v_Runner_fare_other) d_other e_other) pa_nil (stp rfl)) (hst := stp rfl) (hpl := anp rfl)) pa_nil (stp rfl)) (stp rfl))) (by with_unfolding_all rfl))
 (pss_one (ps_ret pe_int))
 pss_nil)
 (pss_one (ps_ret pe_non)))), ?_⟩
    obtain ⟨dx, l, h1, h2⟩ := id F0.ob
    have nr : (flds w h l sg).lookup ("row" : Str) = none := nofl (by decide +kernel) (by decide +kernel) (by decide +kernel) (by decide +kernel)
    have ns : (flds w h l sg).lookup ("sign" : Str) = none := nofl (by decide +kernel) (by decide +kernel) (by decide +kernel) (by decide +kernel)
    walk_at "RD"
    refine ⟨_, _, h1, nr, fl, w, h, sg, cell, rfl, F0, g, _, _, h1, nr, fl, w, h, sg, other, rfl, F0, g, rfl, ?_⟩
    simp only [fareOf] at hq
    by_cases e : cell / (w : Int) = other / (w : Int)
    · rw [if_pos (congrArg V.int e)]
      rw [if_pos e] at hq
      exact hq _ (Same.refl _)
    · rw [if_neg (fun z => e (V.int.inj z))]
      rw [if_neg e] at hq
      refine ⟨_, _, h1, ns, fl, w, h, sg, cell, rfl, F0, g, c01.1, c01.2, _, _, h1, ns, fl, w, h, sg, other, rfl, F0, g, o01.1, o01.2, ?_⟩
      show 2 ≤ sizeLine ∧ _
      refine ⟨by omega, fun p hp => ⟨_, .inr (SqT.of upd_same), rfl, rfl, ?_⟩⟩
      have e2 : inV (V.str (Str.ofString "|")) [chr1 (at_ sg cell), chr1 (at_ sg other)] = decide (at_ sg cell = 124 ∨ at_ sg other = 124) := by
        have q : ∀ c : Nat, eqV (chr1 c) (V.str (Str.ofString "|")) = decide (c = 124) := fun c => by
          have e : eqV (chr1 c) (V.str (Str.ofString "|")) = ((⟨#[c]⟩ : Str) == Str.ofString "|") := rfl
          rw [e, Bool.eq_iff_iff, beq_iff_eq, decide_eq_true_iff]
          exact ⟨fun z => q124.mp (congrArg V.str z), fun z => V.str.inj (q124.mpr z)⟩
        simp only [inV, List.any_cons, List.any_nil, Bool.or_false]
        rw [q, q, Bool.decide_or]
      rw [e2]
      by_cases e3 : at_ sg cell = 124 ∨ at_ sg other = 124
      · rw [if_pos (decide_eq_true e3)]
        rw [if_pos e3] at hq
        exact hq _ (same_new hp)
      · rw [if_neg (fun z => e3 (of_decide_eq_true z))]
        rw [if_neg e3] at hq
        exact hq _ (same_new hp)
theorem sc_Carrier_fare_if_standing : FnScope ["self", "floor", "cell", "other"] ["self", "floor", "cell", "other"] (defScope s_Carrier_fare_if_standing) := ⟨rfl, rfl, rfl, by decide +kernel, rfl, by decide +kernel, by decide +kernel⟩
set_option maxHeartbeats 4000000 in
theorem ok_Carrier_fare_if_standing {fd : FuncData} (F : Fun K "fare_if_standing" "Carrier.fare_if_standing" s_Carrier_fare_if_standing ad.Carrier_fare_if_standing fd) (T : Txt K mg ad) {fd_Carrier_may_stand : FuncData} (B_Carrier_may_stand : Binds K fd_Carrier_may_stand ["self", "sign"] []) (G_Carrier_may_stand : FnOk P w K mg base CX0 1 ad.Carrier_may_stand fd_Carrier_may_stand ["self", "sign"] (spMay 0)) {fd_Crawler_may_stand : FuncData} (B_Crawler_may_stand : Binds K fd_Crawler_may_stand ["self", "sign"] []) (G_Crawler_may_stand : FnOk P w K mg base CX0 1 ad.Crawler_may_stand fd_Crawler_may_stand ["self", "sign"] (spMay 1)) {fd_Floor_sign : FuncData} (B_Floor_sign : Binds K fd_Floor_sign ["self", "cell"] []) (G_Floor_sign : FnOk P w K mg base CX0 1 ad.Floor_sign fd_Floor_sign ["self", "cell"] (spSign ad.C_Floor)) {fd_Carrier_fare : FuncData} (B_Carrier_fare : Binds K fd_Carrier_fare ["self", "floor", "cell", "other"] []) (G_Carrier_fare : FnOk P w K mg base CX0 1 ad.Carrier_fare fd_Carrier_fare ["self", "floor", "cell", "other"] (spFare ad.C_Floor 0)) {fd_Crawler_fare : FuncData} (B_Crawler_fare : Binds K fd_Crawler_fare ["self", "floor", "cell", "other"] []) (G_Crawler_fare : FnOk P w K mg base CX0 2 ad.Crawler_fare fd_Crawler_fare ["self", "floor", "cell", "other"] (spFare ad.C_Floor 1)) {fd_Runner_fare : FuncData} (B_Runner_fare : Binds K fd_Runner_fare ["self", "floor", "cell", "other"] []) (G_Runner_fare : FnOk P w K mg base CX0 2 ad.Runner_fare fd_Runner_fare ["self", "floor", "cell", "other"] (spFare ad.C_Floor 2)) : FnOk P w K mg base CX0 3 ad.Carrier_fare_if_standing fd ["self", "floor", "cell", "other"] (spFareIf ad) := by
  refine F.ok sc_Carrier_fare_if_standing (fun vs H Q E h => ?_) (fun cdv A outer s H vs Q E HR h => ?_)
  · obtain ⟨p, fl, i, n, w, h, sg, cell, other, rfl, _⟩ := h
    rfl
  · obtain ⟨p, fl, i, n, w, h, sg, cell, other, rfl, hc, hi, F0, g, c01, o01, hq⟩ := h
    have ND := sc_Carrier_fare_if_standing.nd
    have HU0 := HR.units0
    have HU := HR.units
    have hA := HR.hd
    have hz : (100000 : Nat) ≤ sizeLine := by rw [sizeLine_eq]; decide
    refine ⟨_, (pss_cons (ps_if (PW.pt (pw_and (pt_val (pe_methV (k := 1) (pe_var (i := 0) (x := "self") rfl (vis_of v_Carrier_fare_if_standing_self) d_self e_self) (disp_cons T.cl_Cart T.m_Cart_may_stand G_Carrier_may_stand (by decide) B_Carrier_may_stand (disp_cons T.cl_Crawler T.m_Crawler_may_stand G_Crawler_may_stand (by decide) B_Crawler_may_stand (disp_cons T.cl_Runner T.m_Runner_may_stand G_Carrier_may_stand (by decide) B_Carrier_may_stand (disp_cons T.cl_Carrier T.m_Carrier_may_stand G_Carrier_may_stand (by decide) B_Carrier_may_stand disp_nil)))) (HR.mono (by decide)) (pa_cons (pe_meth (pe_var (i := 1) (x := "floor") rfl (vis_of v_Carrier_fare_if_standing_floor) d_floor e_floor) T.cl_Floor T.m_Floor_sign G_Floor_sign (HR.mono (by decide)) B_Floor_sign .nil pass0 (pa_cons (pe_var (i := 2) (x := "cell") rfl (vis_of v_Carrier_fare_if_standing_cell) d_cell e_cell) pa_nil (stp rfl)) (hst := stp rfl) (hpl := anp rfl)) pa_nil (stp rfl)) (hst := stp rfl) (hpl := anp rfl))) (pw_and1 (pt_val (pe_methV (k := 1) (pe_var (i := 0) (x := "self") rfl (vis_of v_Carrier_fare_if_standing_self) d_self e_self) (disp_cons T.cl_Cart T.m_Cart_may_stand G_Carrier_may_stand (by decide) B_Carrier_may_stand (disp_cons T.cl_Crawler T.m_Crawler_may_stand G_Crawler_may_stand (by decide) B_Crawler_may_stand (disp_cons T.cl_Runner T.m_Runner_may_stand G_Carrier_may_stand (by decide) B_Carrier_may_stand (disp_cons T.cl_Carrier T.m_Carrier_may_stand G_Carrier_may_stand (by decide) B_Carrier_may_stand disp_nil)))) (HR.mono (by decide)) (pa_cons (pe_meth (pe_var (i := 1) (x := "floor") rfl (vis_of v_Carrier_fare_if_standing_floor) d_floor e_floor) T.cl_Floor T.m_Floor_sign G_Floor_sign (HR.mono (by decide)) B_Floor_sign .nil pass0 (pa_cons (pe_var (i := 3) (x := "other") rfl (vis_of v_Carrier_fare_if_standing_other) d_other e_other) pa_nil (stp rfl)) (hst := stp rfl) (hpl := anp rfl)) pa_nil (stp rfl)) (hst := stp rfl) (hpl := anp rfl))))))
 (pss_one (ps_ret (pe_methV (k := 2) (pe_var (i := 0) (x := "self") rfl (vis_of v_Carrier_fare_if_standing_self) d_self e_self) (disp_cons T.cl_Cart T.m_Cart_fare G_Carrier_fare (by decide) B_Carrier_fare (disp_cons T.cl_Crawler T.m_Crawler_fare G_Crawler_fare (by decide) B_Crawler_fare (disp_cons T.cl_Runner T.m_Runner_fare G_Runner_fare (by decide) B_Runner_fare (disp_cons T.cl_Carrier T.m_Carrier_fare G_Carrier_fare (by decide) B_Carrier_fare disp_nil)))) (HR.mono (by decide)) (pa_cons (pe_var (i := 1) (x := "floor") rfl (vis_of v_Carrier_fare_if_standing_floor) d_floor e_floor) (pa_cons (pe_var (i := 2) (x := "cell") rfl (vis_of v_Carrier_fare_if_standing_cell) d_cell e_cell) (pa_cons (pe_var (i := 3) (x := "other") rfl (vis_of v_Carrier_fare_if_standing_other) d_other e_other) pa_nil (stp rfl)) (stp rfl)) (stp rfl)) (hst := stp rfl) (hpl := anp rfl))))
 pss_nil)
 (pss_one (ps_ret pe_non))), ?_⟩
    obtain ⟨dx, l, h1, h2⟩ := id F0.ob
    obtain ⟨dp, hp⟩ := id hc
    have ns : (flds w h l sg).lookup ("sign" : Str) = none := nofl (by decide +kernel) (by decide +kernel) (by decide +kernel) (by decide +kernel)
    obtain ⟨j, hj, ej⟩ := e_may (ad := ad) i hi
    obtain ⟨k, hk, ek⟩ := e_fare (ad := ad) (C := ad.C_Floor) i hi
    have nm : (putF "full" (V.int n) []).lookup ("may_stand" : Str) = none := l_no n (by decide +kernel)
    have nf : (putF "full" (V.int n) []).lookup ("fare" : Str) = none := l_no n (by decide +kernel)
    have may : ∀ (o : Int) (Q' : VK), InF sg o → Q' (.bl (stands i (at_ sg o))) H → ∃ a dx fs e, e ∈ [(ad.C_Cart, spMay 0), (ad.C_Crawler, spMay 1), (ad.C_Runner, spMay 0), (ad.C_Carrier, spMay 0)] ∧ p = a ∧ H a = some (HO.ins e.fst dx fs) ∧ List.lookup ("may_stand" : Str) fs = none ∧
        ∃ x x_1, H fl = some (HO.ins ad.C_Floor x x_1) ∧ List.lookup ("sign" : Str) x_1 = none ∧ spSign ad.C_Floor [V.ref fl, V.int o] H (fun x H1 => e.snd [V.ref p, x] H1 Q' E0) E0 := fun o Q' ho q =>
      ⟨p, dp, _, (clsOf ad i, spMay j), hj, rfl, hp, nm, _, _, h1, ns, fl, w, h, sg, o, rfl, F0, g, ho.1, ho.2, _, _, rfl, by rw [ej]; exact q⟩
    unfold costOf at hq
    walk_at "RD"
    refine may cell _ c01 ⟨_, rfl, ?_⟩
    by_cases e1 : stands i (at_ sg cell) = true
    · rw [if_pos e1]
      refine may other _ o01 ⟨_, rfl, ?_⟩
      by_cases e2 : stands i (at_ sg other) = true
      · rw [if_pos e2]
        simp only [e1, e2, Bool.and_self, if_true] at hq
        refine ⟨p, dp, _, (clsOf ad i, spFare ad.C_Floor k), hk, rfl, hp, nf, .ref p, fl, w, h, sg, cell, other, rfl, F0, g, c01, o01, ?_⟩
        rw [ek]
        exact hq
      · rw [if_neg e2]
        rw [Bool.not_eq_true] at e2
        rw [e2, Bool.and_false, if_neg (by decide)] at hq
        exact hq _ (Same.refl _)
    · rw [if_neg e1]
      rw [Bool.not_eq_true] at e1
      rw [e1, Bool.false_and, if_neg (by decide)] at hq
      exact hq _ (Same.refl _)
theorem sc_Carrier_cost : FnScope ["self", "floor", "cell", "other"] ["self", "floor", "cell", "other"] (defScope s_Carrier_cost) := ⟨rfl, rfl, rfl, by decide +kernel, rfl, by decide +kernel, by decide +kernel⟩
set_option maxHeartbeats 4000000 in
theorem ok_Carrier_cost {fd : FuncData} (F : Fun K "cost" "Carrier.cost" s_Carrier_cost ad.Carrier_cost fd) (T : Txt K mg ad) {fd_Floor_beside : FuncData} (B_Floor_beside : Binds K fd_Floor_beside ["self", "cell"] []) (G_Floor_beside : FnOk P w K mg base CX0 4 ad.Floor_beside fd_Floor_beside ["self", "cell"] (spBeside ad.C_Floor)) {fd_Carrier_fare_if_standing : FuncData} (B_Carrier_fare_if_standing : Binds K fd_Carrier_fare_if_standing ["self", "floor", "cell", "other"] []) (G_Carrier_fare_if_standing : FnOk P w K mg base CX0 3 ad.Carrier_fare_if_standing fd_Carrier_fare_if_standing ["self", "floor", "cell", "other"] (spFareIf ad)) : FnOk P w K mg base CX0 5 ad.Carrier_cost fd ["self", "floor", "cell", "other"] (spCost ad) := by
  refine F.ok sc_Carrier_cost (fun vs H Q E h => ?_) (fun cdv A outer s H vs Q E HR h => ?_)
  · obtain ⟨p, fl, i, n, w, h, sg, cell, other, rfl, _⟩ := h
    rfl
  · obtain ⟨p, fl, i, n, w, h, sg, cell, other, rfl, hc, hi, F0, g, c01, ho, hq⟩ := h
    have ND := sc_Carrier_cost.nd
    have HU0 := HR.units0
    have HU := HR.units
    have hA := HR.hd
    have hz : (100000 : Nat) ≤ sizeLine := by rw [sizeLine_eq]; decide
    refine ⟨_, (pss_cons (ps_if (pt_cmpR op_notIn_seq (pe_var (i := 3) (x := "other") rfl (vis_of v_Carrier_cost_other) d_other e_other) (pe_meth (pe_var (i := 1) (x := "floor") rfl (vis_of v_Carrier_cost_floor) d_floor e_floor) T.cl_Floor T.m_Floor_beside G_Floor_beside (HR.mono (by decide)) B_Floor_beside .nil pass0 (pa_cons (pe_var (i := 2) (x := "cell") rfl (vis_of v_Carrier_cost_cell) d_cell e_cell) pa_nil (stp rfl)) (hst := stp rfl) (hpl := anp rfl)) (by with_unfolding_all rfl))
 (pss_one (ps_ret pe_non))
 pss_nil)
 (pss_one (ps_ret (pe_methV (k := 3) (pe_var (i := 0) (x := "self") rfl (vis_of v_Carrier_cost_self) d_self e_self) (disp_cons T.cl_Cart T.m_Cart_fare_if_standing G_Carrier_fare_if_standing (by decide) B_Carrier_fare_if_standing (disp_cons T.cl_Crawler T.m_Crawler_fare_if_standing G_Carrier_fare_if_standing (by decide) B_Carrier_fare_if_standing (disp_cons T.cl_Runner T.m_Runner_fare_if_standing G_Carrier_fare_if_standing (by decide) B_Carrier_fare_if_standing (disp_cons T.cl_Carrier T.m_Carrier_fare_if_standing G_Carrier_fare_if_standing (by decide) B_Carrier_fare_if_standing disp_nil)))) (HR.mono (by decide)) (pa_cons (pe_var (i := 1) (x := "floor") rfl (vis_of v_Carrier_cost_floor) d_floor e_floor) (pa_cons (pe_var (i := 2) (x := "cell") rfl (vis_of v_Carrier_cost_cell) d_cell e_cell) (pa_cons (pe_var (i := 3) (x := "other") rfl (vis_of v_Carrier_cost_other) d_other e_other) pa_nil (stp rfl)) (stp rfl)) (stp rfl)) (hst := stp rfl) (hpl := anp rfl))))), ?_⟩
    obtain ⟨dx, l, h1, h2⟩ := id F0.ob
    obtain ⟨dp, hp⟩ := id hc
    have nb : (flds w h l sg).lookup ("beside" : Str) = none := nofl (by decide +kernel) (by decide +kernel) (by decide +kernel) (by decide +kernel)
    have nf : (putF "full" (V.int n) []).lookup ("fare_if_standing" : Str) = none := l_no n (by decide +kernel)
    have oF : InF sg other := beside_in g ho
    walk_at "RD"
    refine ⟨_, _, h1, nb, fl, w, h, sg, cell, rfl, F0, g, fun r H1 hr s1 h3 => ⟨r, rfl, _, .inl (SqL.of h3), rfl, by simp [flatV], ?_⟩⟩
    have e : inV (V.int other) ((besideOf w sg cell).map V.int) = true := by
      simp only [inV, List.any_map, List.any_eq_true]
      exact ⟨other, ho, by simp [eqV]⟩
    rw [if_neg (by rw [e]; decide)]
    exact ⟨p, dp, _, (clsOf ad i, spFareIf ad), e_al4 i hi, rfl, s1 _ _ hp, nf, p, fl, i, n, w, h, sg, cell, other, rfl, ⟨dp, s1 _ _ hp⟩, hi, F0.same s1, g, c01, oF, fun H2 s2 => hq _ (s1.trans s2)⟩
theorem sc_Carrier_steps : FnScope ["self", "floor", "cell", "pairs"] ["self", "floor", "cell"] (defScope s_Carrier_steps) := ⟨rfl, rfl, rfl, by decide +kernel, rfl, by decide +kernel, by decide +kernel⟩
set_option maxHeartbeats 4000000 in
theorem ok_Carrier_steps {fd : FuncData} (F : Fun K "steps" "Carrier.steps" s_Carrier_steps ad.Carrier_steps fd) (T : Txt K mg ad) {fd_Floor_beside : FuncData} (B_Floor_beside : Binds K fd_Floor_beside ["self", "cell"] []) (G_Floor_beside : FnOk P w K mg base CX0 4 ad.Floor_beside fd_Floor_beside ["self", "cell"] (spBeside ad.C_Floor)) {fd_Carrier_fare_if_standing : FuncData} (B_Carrier_fare_if_standing : Binds K fd_Carrier_fare_if_standing ["self", "floor", "cell", "other"] []) (G_Carrier_fare_if_standing : FnOk P w K mg base CX0 3 ad.Carrier_fare_if_standing fd_Carrier_fare_if_standing ["self", "floor", "cell", "other"] (spFareIf ad)) : FnOk P w K mg base CX0 5 ad.Carrier_steps fd ["self", "floor", "cell"] (spSteps ad) := by
  refine F.ok sc_Carrier_steps (fun vs H Q E h => ?_) (fun cdv A outer s H vs Q E HR h => ?_)
  · obtain ⟨p, fl, i, n, w, h, sg, cell, rfl, _⟩ := h
    rfl
  · obtain ⟨p, fl, i, n, w, h, sg, cell, rfl, hc, hi, F0, g, c01, hq⟩ := h
    have ND := sc_Carrier_steps.nd
    have HU0 := HR.units0
    have HU := HR.units
    have hA := HR.hd
    have hz : (100000 : Nat) ≤ sizeLine := by rw [sizeLine_eq]; decide
    refine ⟨_, (pss_cons (ps_comp (i := 3) (CompScope.of (osc := defScope s_Carrier_steps) (tn := ["other"]) (cn := ["floor", "cell", "self"]) (caps := [1, 2, 0]) rfl rfl (by decide +kernel) (by decide +kernel) (by decide +kernel) (by decide +kernel) rfl) (calm0 rfl) ND rfl l_Carrier_steps_pairs (pi_list (pe_meth (pe_var (i := 1) (x := "floor") rfl (vis_of v_Carrier_steps_floor) d_floor e_floor) T.cl_Floor T.m_Floor_beside G_Floor_beside (HR.mono (by decide)) B_Floor_beside .nil pass0 (pa_cons (pe_var (i := 2) (x := "cell") rfl (vis_of v_Carrier_steps_cell) d_cell e_cell) pa_nil (stp rfl)) (hst := stp rfl) (hpl := anp rfl)))
 (fun _ _ _ _ _ => (pg_name (i := 0) (show (["other", "floor", "cell", "self"] : List Str).Nodup by decide +kernel) rfl (Or.inl rfl))) (fun _ _ _ _ _ => pts_nil) (fun _ _ _ _ _ => (pe_tup (pa_cons (pv 0) (pa_cons (pe_methV (k := 3) (pv 3) (disp_cons T.cl_Cart T.m_Cart_fare_if_standing G_Carrier_fare_if_standing (by decide) B_Carrier_fare_if_standing (disp_cons T.cl_Crawler T.m_Crawler_fare_if_standing G_Carrier_fare_if_standing (by decide) B_Carrier_fare_if_standing (disp_cons T.cl_Runner T.m_Runner_fare_if_standing G_Carrier_fare_if_standing (by decide) B_Carrier_fare_if_standing (disp_cons T.cl_Carrier T.m_Carrier_fare_if_standing G_Carrier_fare_if_standing (by decide) B_Carrier_fare_if_standing disp_nil)))) (HR.mono (by decide)) (pa_cons (pv 1) (pa_cons (pv 2) (pa_cons (pv 0) pa_nil (stp rfl)) (stp rfl)) (stp rfl)) (hst := stp rfl) (hpl := anp rfl)) pa_nil (stp rfl)) (stp rfl)))) (hsw := by rfl))
 (pss_one (ps_ret (pe_comp (CompScope.of (osc := defScope s_Carrier_steps) (tn := ["pair"]) (cn := []) (caps := []) rfl rfl (by decide +kernel) (by decide +kernel) (by decide +kernel) (by decide +kernel) rfl) (calm0 rfl)  (pi_list (pe_var (i := 3) (x := "pairs") rfl (vis_of v_Carrier_steps_pairs) d_pairs e_pairs))
 (fun _ _ _ _ _ => (pg_name (i := 0) (show (["pair"] : List Str).Nodup by decide +kernel) rfl (Or.inl rfl))) (fun _ _ _ _ _ => (pts_one (pt_cmpR op_notN (pe_ix (ix_tupK (K := K) rfl) (pv 0) pe_int (fun _ _ => rfl)) pe_non (nomark _)))) (fun _ _ _ _ _ => (pv 0)))))), ?_⟩
    obtain ⟨dx, l, h1, h2⟩ := id F0.ob
    obtain ⟨dp, hp⟩ := id hc
    have nb : (flds w h l sg).lookup ("beside" : Str) = none := nofl (by decide +kernel) (by decide +kernel) (by decide +kernel) (by decide +kernel)
    have nf : (putF "full" (V.int n) []).lookup ("fare_if_standing" : Str) = none := l_no n (by decide +kernel)
    have bl := beside_len (w := w) (sg := sg) (c := cell)
    walk_at "RD"
    refine ⟨_, _, h1, nb, fl, w, h, sg, cell, rfl, F0, g, fun r H1 hr s1 h3 => ⟨r, rfl, ⟨_, SqL.of h3⟩, comp_list (K := K) (a := r) (xs := (besideOf w sg cell).map V.int) (fun j ys H' => Same H1 H' ∧ ∃ ts : List Addr, ys = ts.map V.ref ∧ Paired (PO (costOf i w sg cell) H') ts ((besideOf w sg cell).take j)) ⟨Same.refl _, [], rfl, .nil⟩ ?_ ?_ ?_⟩⟩
    · rintro j ys H' _ ⟨s2, _⟩
      exact SqL.of (s2 _ _ h3)
    · rintro j x ys H' hx ⟨s2, ts, rfl, pr⟩
      rw [List.getElem?_map] at hx
      obtain ⟨o, ho, rfl⟩ := Option.map_eq_some_iff.mp hx
      have hm : o ∈ besideOf w sg cell := List.mem_of_getElem? ho
      have lt : ts.length ≤ 4 := by
        have := Paired.length pr
        rw [List.length_take] at this
        omega
      walk_at "RD"
      refine ⟨p, dp, _, (clsOf ad i, spFareIf ad), e_al4 i hi, rfl, s2 _ _ (s1 _ _ hp), nf, p, fl, i, n, w, h, sg, cell, o, rfl, ⟨dp, s2 _ _ (s1 _ _ hp)⟩, hi, F0.same (s1.trans s2), g, c01, beside_in g hm, fun H3 s3 => ⟨by omega, fun t ht => ⟨by simp; omega, (s2.trans s3).trans (same_new ht), ts ++ [t], by simp, ?_⟩⟩⟩
      rw [List.take_add_one, ho]
      exact Paired.snoc (Paired.mapP pr fun _ _ z => (same_new ht) _ _ (s3 _ _ z)) upd_same
    · rintro ys H' ⟨s2, ts, rfl, pr⟩
      rw [List.length_map, List.take_length] at pr
      have lt : ts.length ≤ 4 := by
        have := Paired.length pr
        omega
      refine ⟨by simp; omega, fun q hq' => ⟨⟨_, SqL.of upd_same⟩, comp_pure (src_list (SqL.of upd_same)) (pvv (upd H' q (HO.lst (ts.map V.ref)))) (fun v => v) (fun y hy Q h => ?_) (fun y hy _ Q h => ?_) (by simp; omega) (fun D hD => ?_)⟩⟩
      · obtain ⟨t, ht, rfl⟩ := List.mem_map.mp hy
        obtain ⟨o, e⟩ := paired_mem pr ht
        have e : upd H' q (HO.lst (ts.map V.ref)) t = some (.tup [.int o, optV (costOf i w sg cell o)]) := (same_new hq') _ _ e
        walk_at "RD"
        refine ⟨_, SqT.of e, _, rfl, ?_⟩
        simp only [pvv, e] at h
        exact h
      · walk_at "RD"
        exact h
      · obtain ⟨us, e1, e2⟩ := filt_pairs (Paired.mapP pr fun _ _ z => (same_new (o := HO.lst (ts.map V.ref)) hq') _ _ z)
        rw [List.map_id', e1]
        exact hq D _ ((s1.trans s2).free ((same_new hq').free hD)) ((s1.trans s2).trans ((same_new hq').trans (same_new hD))) ⟨us, upd_same, Paired.mapP e2 fun _ _ z => (same_new hD) _ _ z⟩
theorem sc_Carrier_stayed : FnScope ["self", "sign", "charge"] ["self", "sign", "charge"] (defScope s_Carrier_stayed) := ⟨rfl, rfl, rfl, by decide +kernel, rfl, by decide +kernel, by decide +kernel⟩
set_option maxHeartbeats 4000000 in
theorem ok_Carrier_stayed {fd : FuncData} (F : Fun K "stayed" "Carrier.stayed" s_Carrier_stayed ad.Carrier_stayed fd) (T : Txt K mg ad) {fd_Carrier_gain : FuncData} (B_Carrier_gain : Binds K fd_Carrier_gain ["self", "sign"] []) (G_Carrier_gain : FnOk P w K mg base CX0 1 ad.Carrier_gain fd_Carrier_gain ["self", "sign"] (spGain 0)) {fd_Crawler_gain : FuncData} (B_Crawler_gain : Binds K fd_Crawler_gain ["self", "sign"] []) (G_Crawler_gain : FnOk P w K mg base CX0 1 ad.Crawler_gain fd_Crawler_gain ["self", "sign"] (spGain 1)) {fd_Runner_gain : FuncData} (B_Runner_gain : Binds K fd_Runner_gain ["self", "sign"] []) (G_Runner_gain : FnOk P w K mg base CX0 1 ad.Runner_gain fd_Runner_gain ["self", "sign"] (spGain 2)) : FnOk P w K mg base CX0 2 ad.Carrier_stayed fd ["self", "sign", "charge"] (spStayed ad) := by
  refine F.ok sc_Carrier_stayed (fun vs H Q E h => ?_) (fun cdv A outer s H vs Q E HR h => ?_)
  · obtain ⟨p, i, n, c, k, rfl, _⟩ := h
    rfl
  · obtain ⟨p, i, n, c, k, rfl, hc, hi, hq⟩ := h
    have ND := sc_Carrier_stayed.nd
    have HU0 := HR.units0
    have HU := HR.units
    have hA := HR.hd
    have hz : (100000 : Nat) ≤ sizeLine := by rw [sizeLine_eq]; decide
    refine ⟨_, (pss_one (ps_ret (pe_callB (call_min2 rfl) (gl_of g_Carrier_stayed_min) T.b_min PyProof.Rows.Boot.«min» (pa_cons (pe_op op_add (pe_var (i := 2) (x := "charge") rfl (vis_of v_Carrier_stayed_charge) d_charge e_charge) (pe_methV (k := 1) (pe_var (i := 0) (x := "self") rfl (vis_of v_Carrier_stayed_self) d_self e_self) (disp_cons T.cl_Cart T.m_Cart_gain G_Carrier_gain (by decide) B_Carrier_gain (disp_cons T.cl_Crawler T.m_Crawler_gain G_Crawler_gain (by decide) B_Crawler_gain (disp_cons T.cl_Runner T.m_Runner_gain G_Runner_gain (by decide) B_Runner_gain (disp_cons T.cl_Carrier T.m_Carrier_gain G_Carrier_gain (by decide) B_Carrier_gain disp_nil)))) (HR.mono (by decide)) (pa_cons (pe_var (i := 1) (x := "sign") rfl (vis_of v_Carrier_stayed_sign) d_sign e_sign) pa_nil (stp rfl)) (hst := stp rfl) (hpl := anp rfl))) (pa_cons (pe_fld (pe_var (i := 0) (x := "self") rfl (vis_of v_Carrier_stayed_self) d_self e_self) (by rfl)) pa_nil (stp rfl)) (stp rfl)) (hn := n_min) (hdb := d_min) (he := stp rfl) (hpl := anp rfl)))), ?_⟩
    obtain ⟨dp, hp⟩ := id hc
    obtain ⟨j, hj, ej⟩ := e_gain (ad := ad) i hi
    have ng : (putF "full" (V.int n) []).lookup ("gain" : Str) = none := l_no n (by decide +kernel)
    walk_at "RD"
    refine ⟨p, dp, _, (clsOf ad i, spGain j), hj, rfl, hp, ng, _, c, rfl, _, rfl, _, _, _, hp, cls_of T i, nof_of T i, _, l_full n, _, rfl, ?_⟩
    rw [ej]
    have e : (if n < k + gainOf i c then n else k + gainOf i c) = min (k + gainOf i c) n := by split <;> omega
    rw [e]
    exact hq
theorem sc_stands_at : FnScope ["floor", "carrier", "cell"] ["floor", "carrier", "cell"] (defScope s_stands_at) := ⟨rfl, rfl, rfl, by decide +kernel, rfl, by decide +kernel, by decide +kernel⟩
set_option maxHeartbeats 4000000 in
theorem ok_stands_at {fd : FuncData} (F : Fun K "stands_at" "stands_at" s_stands_at ad.stands_at fd) (T : Txt K mg ad) {fd_Floor_has : FuncData} (B_Floor_has : Binds K fd_Floor_has ["self", "cell"] []) (G_Floor_has : FnOk P w K mg base CX0 3 ad.Floor_has fd_Floor_has ["self", "cell"] (spHas K ad.C_Floor)) {fd_Floor_sign : FuncData} (B_Floor_sign : Binds K fd_Floor_sign ["self", "cell"] []) (G_Floor_sign : FnOk P w K mg base CX0 1 ad.Floor_sign fd_Floor_sign ["self", "cell"] (spSign ad.C_Floor)) {fd_Carrier_may_stand : FuncData} (B_Carrier_may_stand : Binds K fd_Carrier_may_stand ["self", "sign"] []) (G_Carrier_may_stand : FnOk P w K mg base CX0 1 ad.Carrier_may_stand fd_Carrier_may_stand ["self", "sign"] (spMay 0)) {fd_Crawler_may_stand : FuncData} (B_Crawler_may_stand : Binds K fd_Crawler_may_stand ["self", "sign"] []) (G_Crawler_may_stand : FnOk P w K mg base CX0 1 ad.Crawler_may_stand fd_Crawler_may_stand ["self", "sign"] (spMay 1)) : FnOk P w K mg base CX0 4 ad.stands_at fd ["floor", "carrier", "cell"] (spStAt ad) := by
  refine F.ok sc_stands_at (fun vs H Q E h => ?_) (fun cdv A outer s H vs Q E HR h => ?_)
  · obtain ⟨p, fl, i, n, w, h, sg, c, rfl, _⟩ := h
    rfl
  · obtain ⟨p, fl, i, n, w, h, sg, c, rfl, hc, hi, F0, g, hq⟩ := h
    have ND := sc_stands_at.nd
    have HU0 := HR.units0
    have HU := HR.units
    have hA := HR.hd
    have hz : (100000 : Nat) ≤ sizeLine := by rw [sizeLine_eq]; decide
    refine ⟨_, (pss_one (ps_ret (pe_and (pe_meth (pe_var (i := 0) (x := "floor") rfl (vis_of v_stands_at_floor) d_floor e_floor) T.cl_Floor T.m_Floor_has G_Floor_has (HR.mono (by decide)) B_Floor_has .nil pass0 (pa_cons (pe_var (i := 2) (x := "cell") rfl (vis_of v_stands_at_cell) d_cell e_cell) pa_nil (stp rfl)) (hst := stp rfl) (hpl := anp rfl)) (pe_one (pe_methV (k := 1) (pe_var (i := 1) (x := "carrier") rfl (vis_of v_stands_at_carrier) d_carrier e_carrier) (disp_cons T.cl_Cart T.m_Cart_may_stand G_Carrier_may_stand (by decide) B_Carrier_may_stand (disp_cons T.cl_Crawler T.m_Crawler_may_stand G_Crawler_may_stand (by decide) B_Crawler_may_stand (disp_cons T.cl_Runner T.m_Runner_may_stand G_Carrier_may_stand (by decide) B_Carrier_may_stand (disp_cons T.cl_Carrier T.m_Carrier_may_stand G_Carrier_may_stand (by decide) B_Carrier_may_stand disp_nil)))) (HR.mono (by decide)) (pa_cons (pe_meth (pe_var (i := 0) (x := "floor") rfl (vis_of v_stands_at_floor) d_floor e_floor) T.cl_Floor T.m_Floor_sign G_Floor_sign (HR.mono (by decide)) B_Floor_sign .nil pass0 (pa_cons (pe_var (i := 2) (x := "cell") rfl (vis_of v_stands_at_cell) d_cell e_cell) pa_nil (stp rfl)) (hst := stp rfl) (hpl := anp rfl)) pa_nil (stp rfl)) (hst := stp rfl) (hpl := anp rfl)))))), ?_⟩
    obtain ⟨dx, l, h1, h2⟩ := id F0.ob
    obtain ⟨dp, hp⟩ := id hc
    have nm : (putF "full" (V.int n) []).lookup ("may_stand" : Str) = none := l_no n (by decide +kernel)
    have ns : (flds w h l sg).lookup ("sign" : Str) = none := nofl (by decide +kernel) (by decide +kernel) (by decide +kernel) (by decide +kernel)
    have nh : (flds w h l sg).lookup ("has" : Str) = none := nofl (by decide +kernel) (by decide +kernel) (by decide +kernel) (by decide +kernel)
    obtain ⟨jm, hjm, ejm⟩ := e_may (ad := ad) i hi
    walk_at "RD"
    refine ⟨_, _, h1, nh, fl, w, h, sg, V.int c, rfl, F0, g, ⟨_, .int c⟩, _, rfl, ?_⟩
    by_cases a1 : hasI sg c = true
    · have cF : InF sg c := by
        have z := a1
        unfold hasI at z
        simp only [Bool.and_eq_true, decide_eq_true_eq] at z
        exact z.1
      rw [if_pos (show hasV sg (V.int c) = true from a1)]
      refine ⟨p, dp, _, (clsOf ad i, spMay jm), hjm, rfl, hp, nm, _, _, h1, ns, fl, w, h, sg, c, rfl, F0, g, cF.1, cF.2, _, _, rfl, ?_⟩
      rw [ejm]
      rw [a1, Bool.true_and] at hq
      exact hq
    · rw [if_neg (show ¬ hasV sg (V.int c) = true from a1)]
      rw [Bool.not_eq_true] at a1
      rw [a1, Bool.false_and] at hq
      exact hq
theorem sc_next_charge : FnScope ["floor", "carrier", "cell", "other", "charge", "cost"] ["floor", "carrier", "cell", "other", "charge"] (defScope s_next_charge) := ⟨rfl, rfl, rfl, by decide +kernel, rfl, by decide +kernel, by decide +kernel⟩
set_option maxHeartbeats 4000000 in
theorem ok_next_charge {fd : FuncData} (F : Fun K "next_charge" "next_charge" s_next_charge ad.next_charge fd) (T : Txt K mg ad) {fd_Carrier_stayed : FuncData} (B_Carrier_stayed : Binds K fd_Carrier_stayed ["self", "sign", "charge"] []) (G_Carrier_stayed : FnOk P w K mg base CX0 2 ad.Carrier_stayed fd_Carrier_stayed ["self", "sign", "charge"] (spStayed ad)) {fd_Floor_sign : FuncData} (B_Floor_sign : Binds K fd_Floor_sign ["self", "cell"] []) (G_Floor_sign : FnOk P w K mg base CX0 1 ad.Floor_sign fd_Floor_sign ["self", "cell"] (spSign ad.C_Floor)) {fd_Carrier_steps : FuncData} (B_Carrier_steps : Binds K fd_Carrier_steps ["self", "floor", "cell"] []) (G_Carrier_steps : FnOk P w K mg base CX0 5 ad.Carrier_steps fd_Carrier_steps ["self", "floor", "cell"] (spSteps ad)) : FnOk P w K mg base (CXE P w) 7 ad.next_charge fd ["floor", "carrier", "cell", "other", "charge"] (spNext ad) := by
  refine F.okR sc_next_charge (fun vs H Q E h => ?_) (fun cdv A outer s H vs Q E HR h => ?_)
  · obtain ⟨p, fl, i, n, w, h, sg, c, o, k, rfl, _⟩ := h
    rfl
  · obtain ⟨p, fl, i, n, w, h, sg, c, o, k, rfl, hc, hi, F0, g, c01, hq⟩ := h
    have ND := sc_next_charge.nd
    have HU0 := HR.units0
    have HU := HR.units
    have hA := HR.hd
    have hz : (100000 : Nat) ≤ sizeLine := by rw [sizeLine_eq]; decide
    refine ⟨_, (pss_cons (ps_if (pt_cmpR op_eq (pe_var (i := 3) (x := "other") rfl (vis_of v_next_charge_other) d_other e_other) (pe_var (i := 2) (x := "cell") rfl (vis_of v_next_charge_cell) d_cell e_cell) (nomark _))
 (pss_one (ps_ret (pe_methV (k := 2) (pe_var (i := 1) (x := "carrier") rfl (vis_of v_next_charge_carrier) d_carrier e_carrier) (disp_cons T.cl_Cart T.m_Cart_stayed G_Carrier_stayed (by decide) B_Carrier_stayed (disp_cons T.cl_Crawler T.m_Crawler_stayed G_Carrier_stayed (by decide) B_Carrier_stayed (disp_cons T.cl_Runner T.m_Runner_stayed G_Carrier_stayed (by decide) B_Carrier_stayed (disp_cons T.cl_Carrier T.m_Carrier_stayed G_Carrier_stayed (by decide) B_Carrier_stayed disp_nil)))) (HR.mono (by decide)) (pa_cons (pe_meth (pe_var (i := 0) (x := "floor") rfl (vis_of v_next_charge_floor) d_floor e_floor) T.cl_Floor T.m_Floor_sign G_Floor_sign (HR.mono (by decide)) B_Floor_sign .nil pass0 (pa_cons (pe_var (i := 2) (x := "cell") rfl (vis_of v_next_charge_cell) d_cell e_cell) pa_nil (stp rfl)) (hst := stp rfl) (hpl := anp rfl)) (pa_cons (pe_var (i := 4) (x := "charge") rfl (vis_of v_next_charge_charge) d_charge e_charge) pa_nil (stp rfl)) (stp rfl)) (hst := stp rfl) (hpl := anp rfl))))
 pss_nil)
 (pss_cons (ps_set (i := 5) ND rfl (loc_of (Or.inl l_next_charge_cost)) (pe_dget1 (hu1 HU) (pe_callTy (call_dictP rfl) (gl_of g_next_charge_dict) T.b_dict PyProof.Rows.Boot.«dict» (pa_cons (pe_methV (k := 5) (pe_var (i := 1) (x := "carrier") rfl (vis_of v_next_charge_carrier) d_carrier e_carrier) (disp_cons T.cl_Cart T.m_Cart_steps G_Carrier_steps (by decide) B_Carrier_steps (disp_cons T.cl_Crawler T.m_Crawler_steps G_Carrier_steps (by decide) B_Carrier_steps (disp_cons T.cl_Runner T.m_Runner_steps G_Carrier_steps (by decide) B_Carrier_steps (disp_cons T.cl_Carrier T.m_Carrier_steps G_Carrier_steps (by decide) B_Carrier_steps disp_nil)))) (HR.mono (by decide)) (pa_cons (pe_var (i := 0) (x := "floor") rfl (vis_of v_next_charge_floor) d_floor e_floor) (pa_cons (pe_var (i := 2) (x := "cell") rfl (vis_of v_next_charge_cell) d_cell e_cell) pa_nil (stp rfl)) (stp rfl)) (hst := stp rfl) (hpl := anp rfl)) pa_nil (stp rfl)) (hn := n_dict) (hdb := d_dict) (he := stp rfl) (hpl := anp rfl)) (pe_var (i := 3) (x := "other") rfl (vis_of v_next_charge_other) d_other e_other) ⟨rfl, rfl, rfl, rfl⟩))
 (pss_cons (ps_if (pt_cmpR op_isN (pe_var (i := 5) (x := "cost") rfl (vis_of v_next_charge_cost) d_cost e_cost) pe_non (nomark _))
 (pss_one (ps_raise xw_fn rfl (gl_of g_next_charge_BadWay) T.mg_BadWay T.er_BadWay (pa_cons pe_str pa_nil (stp rfl)) (hdb := d_BadWay) (he := stp rfl) (hpl := anp rfl)))
 pss_nil)
 (pss_one (ps_ret (pe_op op_sub (pe_var (i := 4) (x := "charge") rfl (vis_of v_next_charge_charge) d_charge e_charge) (pe_var (i := 5) (x := "cost") rfl (vis_of v_next_charge_cost) d_cost e_cost))))))), ?_⟩
    obtain ⟨dx, l, h1, h2⟩ := id F0.ob
    obtain ⟨dp, hp⟩ := id hc
    have ny : (putF "full" (V.int n) []).lookup ("stayed" : Str) = none := l_no n (by decide +kernel)
    have nst : (putF "full" (V.int n) []).lookup ("steps" : Str) = none := l_no n (by decide +kernel)
    have ns : (flds w h l sg).lookup ("sign" : Str) = none := nofl (by decide +kernel) (by decide +kernel) (by decide +kernel) (by decide +kernel)
    walk_at "RD"
    by_cases e : o = c
    · rw [if_pos e]
      refine ⟨p, dp, _, (clsOf ad i, spStayed ad), e_al4 i hi, rfl, hp, ny, _, _, h1, ns, fl, w, h, sg, c, rfl, F0, g, c01.1, c01.2, p, i, n, _, k, rfl, hc, hi, ?_⟩
      have z := hq H (Same.refl _)
      simp only [nextC, if_pos e] at z
      exact z
    · rw [if_neg e]
      refine ⟨p, dp, _, (clsOf ad i, spSteps ad), e_al4 i hi, rfl, hp, nst, p, fl, i, n, w, h, sg, c, rfl, hc, hi, F0, g, c01, fun r H1 nr s1 ⟨ts, hr, pr⟩ => ⟨r, rfl, ts, hr, (stepsOf i w sg c).map fun q => (.inl q.1, .int q.2), pairs_kv pr, fun d nd => ⟨.inl ⟨_, .inl upd_same⟩, _, DGet.k (k := .inl o) upd_same, ?_⟩⟩⟩
      have z := hq _ (s1.trans (same_new (o := HO.dK (mergeK [] ((stepsOf i w sg c).map fun q => (.inl q.1, .int q.2)))) nd))
      have ev := val_pairs (f := costOf i w sg c) (o := o) (besideOf w sg c) []
      rw [valV_nil] at ev
      unfold stepsOf at z ⊢
      simp only [nextC, if_neg e] at z
      by_cases hm : o ∈ besideOf w sg c
      · rw [if_pos hm] at z
        cases hc' : costOf i w sg c o with
        | none =>
          rw [hc'] at z
          rw [ev, if_neg (show ¬ (o ∈ besideOf w sg c ∧ (costOf i w sg c o).isSome = true) by simp [hc'])]
          rw [if_pos (show (none : Option V).getD V.non = V.non from rfl)]
          exact ⟨by omega, z⟩
        | some x =>
          rw [hc'] at z
          rw [ev, if_pos (show o ∈ besideOf w sg c ∧ (costOf i w sg c o).isSome = true by simp [hc', hm]), hc']
          rw [if_neg (show ¬ (Option.map V.int (some x)).getD V.non = V.non by simp)]
          exact ⟨x, rfl, z⟩
      · rw [if_neg hm] at z
        rw [ev, if_neg (show ¬ (o ∈ besideOf w sg c ∧ (costOf i w sg c o).isSome = true) by simp [hm])]
        rw [if_pos (show (none : Option V).getD V.non = V.non from rfl)]
        exact ⟨by omega, z⟩
theorem sc_walked : FnScope ["floor", "carrier", "way", "charge", "cells", "charges", "index"] ["floor", "carrier", "way", "charge"] (defScope s_walked) := ⟨rfl, rfl, rfl, by decide +kernel, rfl, by decide +kernel, by decide +kernel⟩
set_option maxHeartbeats 4000000 in
theorem ok_walked {fd : FuncData} (F : Fun K "walked" "walked" s_walked ad.walked fd) (T : Txt K mg ad) {fd_stands_at : FuncData} (B_stands_at : Binds K fd_stands_at ["floor", "carrier", "cell"] []) (G_stands_at : FnOk P w K mg base CX0 4 ad.stands_at fd_stands_at ["floor", "carrier", "cell"] (spStAt ad)) {fd_next_charge : FuncData} (B_next_charge : Binds K fd_next_charge ["floor", "carrier", "cell", "other", "charge"] []) (G_next_charge : FnOk P w K mg base (CXE P w) 7 ad.next_charge fd_next_charge ["floor", "carrier", "cell", "other", "charge"] (spNext ad)) : FnOk P w K mg base (CXE P w) 8 ad.walked fd ["floor", "carrier", "way", "charge"] (spWalked ad) := by
  refine F.okR sc_walked (fun vs H Q E h => ?_) (fun cdv A outer s H vs Q E HR h => ?_)
  · obtain ⟨p, fl, wy, q, i, n, w, h, sg, b, k, cs, rfl, _⟩ := h
    rfl
  · obtain ⟨p, fl, wy, q, i, n, w, h, sg, b, k, cs, rfl, hc, hi, F0, g, hw, hq0, c0, cl, hq⟩ := h
    have ND := sc_walked.nd
    have HU0 := HR.units0
    have HU := HR.units
    have hA := HR.hd
    have hz : (100000 : Nat) ≤ sizeLine := by rw [sizeLine_eq]; decide
    refine ⟨_, (pss_cons (ps_set (i := 4) ND rfl (loc_of (Or.inl l_walked_cells)) (pe_ix ix_tup (pe_var (i := 2) (x := "way") rfl (vis_of v_walked_way) d_way e_way) pe_int (fun _ _ => rfl)))
 (pss_cons (ps_if (pt_not (pt_val (pe_call G_stands_at (HR.mono (by decide)) (gl_of g_walked_stands_at) T.mg_stands_at T.k_stands_at B_stands_at .nil pass0 (pa_cons (pe_var (i := 0) (x := "floor") rfl (vis_of v_walked_floor) d_floor e_floor) (pa_cons (pe_var (i := 1) (x := "carrier") rfl (vis_of v_walked_carrier) d_carrier e_carrier) (pa_cons (pe_ix ix_tup (pe_var (i := 4) (x := "cells") rfl (vis_of v_walked_cells) d_cells e_cells) pe_int (fun _ _ => rfl)) pa_nil (stp rfl)) (stp rfl)) (stp rfl)) (hdb := d_stands_at) (he := stp rfl) (hpl := anp rfl))))
 (pss_one (ps_raise xw_fn rfl (gl_of g_walked_BadWay) T.mg_BadWay T.er_BadWay (pa_cons pe_str pa_nil (stp rfl)) (hdb := d_BadWay) (he := stp rfl) (hpl := anp rfl)))
 pss_nil)
 (pss_cons (ps_set (i := 5) ND rfl (loc_of (Or.inl l_walked_charges)) (pe_lst (pa_cons (pe_var (i := 3) (x := "charge") rfl (vis_of v_walked_charge) d_charge e_charge) pa_nil (stp rfl))))
 (pss_cons (ps_for PassesOwn.leaving (calm0 rfl) (pi_range2 (gl_of g_walked_range) T.b_range (pa_cons pe_int (pa_cons (pe_callB call_len_seq (gl_of g_walked_len) T.b_len PyProof.Rows.Boot.«len» (pa_cons (pe_var (i := 4) (x := "cells") rfl (vis_of v_walked_cells) d_cells e_cells) pa_nil (stp rfl)) (hn := n_len) (hdb := d_len) (he := stp rfl) (hpl := anp rfl)) pa_nil (stp rfl)) (stp rfl)) (st2 rfl rfl) (st1 rfl)) (pg_name (i := 6) ND rfl (loc_of (Or.inl l_walked_index)))
 (pss_one (ps_expr (pe_bm PySem.F.plainAttrs_list PySem.F.slot_list_append PySem.F.type_list_append mt_append (pe_var (i := 5) (x := "charges") rfl (vis_of v_walked_charges) d_charges e_charges) (pa_cons (pe_callX G_next_charge (HR.mono (by decide)) (gl_of g_walked_next_charge) T.mg_next_charge T.k_next_charge B_next_charge .nil xw_fn.toXC (pa_cons (pe_var (i := 0) (x := "floor") rfl (vis_of v_walked_floor) d_floor e_floor) (pa_cons (pe_var (i := 1) (x := "carrier") rfl (vis_of v_walked_carrier) d_carrier e_carrier) (pa_cons (pe_ix ix_tup (pe_var (i := 4) (x := "cells") rfl (vis_of v_walked_cells) d_cells e_cells) (pe_op op_sub (pe_var (i := 6) (x := "index") rfl (vis_of v_walked_index) d_index e_index) pe_int) (fun _ _ => rfl)) (pa_cons (pe_ix ix_tup (pe_var (i := 4) (x := "cells") rfl (vis_of v_walked_cells) d_cells e_cells) (pe_var (i := 6) (x := "index") rfl (vis_of v_walked_index) d_index e_index) (fun _ _ => rfl)) (pa_cons (pe_ix ix_list (pe_var (i := 5) (x := "charges") rfl (vis_of v_walked_charges) d_charges e_charges) (pe_un un_neg pe_int) (fun _ _ => rfl)) pa_nil (stp rfl)) (stp rfl)) (stp rfl)) (stp rfl)) (stp rfl)) (hdb := d_next_charge) (he := stp rfl) (hpl := anp rfl)) pa_nil (stp rfl))))))
 (pss_cons (ps_if (pt_cmpR op_lt (pe_callB (call_minL rfl) (gl_of g_walked_min) T.b_min PyProof.Rows.Boot.«min» (pa_cons (pe_var (i := 5) (x := "charges") rfl (vis_of v_walked_charges) d_charges e_charges) pa_nil (stp rfl)) (hn := n_min) (hdb := d_min) (he := stp rfl) (hpl := anp rfl)) pe_int (nomark _))
 (pss_one (ps_raise xw_fn rfl (gl_of g_walked_BadWay) T.mg_BadWay T.er_BadWay (pa_cons pe_str pa_nil (stp rfl)) (hdb := d_BadWay) (he := stp rfl) (hpl := anp rfl)))
 pss_nil)
 (pss_one (ps_ret (pe_var (i := 5) (x := "charges") rfl (vis_of v_walked_charges) d_charges e_charges)))))))), ?_⟩
    obtain ⟨dx, l, h1, h2⟩ := id F0.ob
    obtain ⟨dp, hp⟩ := id hc
    have nm : (putF "full" (V.int n) []).lookup ("may_stand" : Str) = none := l_no n (by decide +kernel)
    have ns : (flds w h l sg).lookup ("sign" : Str) = none := nofl (by decide +kernel) (by decide +kernel) (by decide +kernel) (by decide +kernel)
    have nh : (flds w h l sg).lookup ("has" : Str) = none := nofl (by decide +kernel) (by decide +kernel) (by decide +kernel) (by decide +kernel)
    obtain ⟨c, r, rfl⟩ : ∃ c r, cs = c :: r := by cases cs with | nil => exact absurd rfl c0 | cons c r => exact ⟨c, r, rfl⟩
    have eA : atI ((c :: r).map V.int) 0 = some (V.int c) := atI_nat (j := 0) rfl
    refine tSeq_cut (fun σ H' => H' = H ∧ σ = [some (V.ref fl), some (V.ref p), some (V.ref wy), some (V.int k), some (V.ref q), none, none]) (fun nx hk => ?_) ?_
    · walk_at "RD"
      exact ⟨_, SqT.of hw, _, rfl, hk _ _ ⟨rfl, rfl⟩⟩
    rintro σ H1 ⟨rfl, rfl⟩
    by_cases hh : hasI sg c = true ∧ stands i (at_ sg c) = true
    · have cF : InF sg c := by
        have z := hh.1
        unfold hasI at z
        simp only [Bool.and_eq_true, decide_eq_true_eq] at z
        exact z.1
      refine tSeq_cut (fun σ H' => H' = H1 ∧ σ = [some (V.ref fl), some (V.ref p), some (V.ref wy), some (V.int k), some (V.ref q), none, none]) (fun nx hk => ?_) ?_
      · walk_at "RD"
        refine ⟨_, SqT.of hq0, _, eA, p, fl, i, n, w, h, sg, c, rfl, hc, hi, F0, g, _, rfl, ?_⟩
        rw [if_neg (by rw [hh.1, hh.2]; decide)]
        exact hk _ _ ⟨rfl, rfl⟩
      rintro σ H2 ⟨rfl, rfl⟩
      refine tSeq_cut (fun σ H' => ∃ t, H2 t = none ∧ H' = upd H2 t (.lst [V.int k]) ∧ σ = [some (V.ref fl), some (V.ref p), some (V.ref wy), some (V.int k), some (V.ref q), some (V.ref t), none]) (fun nx hk => ?_) ?_
      · walk_at "RD"
        exact ⟨by omega, fun t nt => hk _ _ ⟨t, nt, rfl, rfl⟩⟩
      rintro σ H3 ⟨t, nt, rfl, rfl⟩
      refine tSeq_cut (fun σ H' => ∃ x6 ks, Same H2 H' ∧ H' t = some (.lst ((k :: ks).map V.int)) ∧ ks.length ≤ 100 ∧ walkC i w sg n c k r = some ks ∧ σ = [some (V.ref fl), some (V.ref p), some (V.ref wy), some (V.int k), some (V.ref q), some (V.ref t), x6]) (fun nx hk => ?_) ?_
      · walk_at "RD"
        refine ⟨_, .inr (SqT.of ((same_new nt) _ _ hq0)), ?_⟩
        rw [List.length_map, List.length_cons]
        simp only [List.length_cons] at cl
        refine ⟨by omega, by omega, by omega, by omega, ?_⟩
        have en : (((r.length + 1 : Nat) : Int) - 1).toNat = r.length := by omega
        rw [en]
        refine for_range (lo := 1) (n := r.length) (fun j σ H' => ∃ x6 ks kc cj, Same H2 H' ∧ H' t = some (.lst ((ks ++ [kc]).map V.int)) ∧ ks.length = j ∧ (c :: r)[j]? = some cj ∧ InF sg cj ∧ (walkC i w sg n c k r).map (fun ys => k :: ys) = (walkC i w sg n cj kc (r.drop j)).map (fun ys => ks ++ kc :: ys) ∧ σ = [some (V.ref fl), some (V.ref p), some (V.ref wy), some (V.int k), some (V.ref q), some (V.ref t), x6]) ⟨none, [], k, c, same_new nt, upd_same, rfl, rfl, cF, rfl, rfl⟩ ?_ ?_
        · rintro j σ H' hj ⟨x6, ks, kc, cj, s5, ht, hks, hcj, cjF, hwk, rfl⟩
          obtain ⟨o, ho⟩ : ∃ o, r[j]? = some o := ⟨_, List.getElem?_eq_getElem hj⟩
          have e1 : r.drop j = o :: r.drop (j + 1) := by
            rw [List.drop_eq_getElem_cons hj]
            have := (List.getElem?_eq_some_iff.mp ho).2
            rw [this]
          have hq5 := s5 _ _ hq0
          have eb : (1 + (j : Int)) - 1 = ((j : Nat) : Int) := by omega
          have ec : (1 + (j : Int)) = ((j + 1 : Nat) : Int) := by omega
          walk_at "RD"
          rw [eb, ec]
          refine ⟨.inl ⟨rfl, _, SqL.of ht⟩, _, SqT.of hq5, V.int cj, atI_nat (by rw [List.getElem?_map, hcj]; rfl), _, SqT.of hq5, V.int o, atI_nat (by rw [List.getElem?_map, List.getElem?_cons_succ, ho]; rfl), _, SqL.of ht, V.int kc, by rw [List.map_append]; exact atI_last _ _, ?_⟩
          refine ⟨p, fl, i, n, w, h, sg, cj, o, kc, rfl, hc.same s5, hi, F0.same s5, g, cjF, fun H6 s6 => ?_⟩
          rw [e1] at hwk
          simp only [walkC] at hwk
          cases hn : nextC i w sg n cj o kc with
          | none =>
            rw [hn] at hwk
            simp only [Option.bind_none, Option.map_none, Option.map_eq_none_iff] at hwk
            have z := hq H6 (s5.trans s6)
            simp only [walkedOf, hh.1, hh.2, Bool.and_self, if_true, hwk, Option.bind_none] at z
            exact z
          | some x =>
            rw [hn] at hwk
            have oF : InF sg o := by
              unfold nextC at hn
              by_cases eo : o = cj
              · rw [eo]; exact cjF
              · rw [if_neg eo] at hn
                by_cases hm : o ∈ besideOf w sg cj
                · exact beside_in g hm
                · rw [if_neg hm] at hn; cases hn
            refine ⟨_, s6 _ _ ht, by simp; omega, fun b' u e => ?_, _, ks ++ [kc], x, by rw [upd_same]; simp, by simp [hks], o, ho, oF, ?_, rfl⟩
            · rw [upd_ne (ne_of_none e nt)]
              exact s6 _ _ (s5 _ _ e)
            · rw [hwk]
              simp [Option.map_map, Function.comp_def]
        · rintro σ H' ⟨x6, ks, kc, cj, s5, ht, hks, hcj, cjF, hwk, rfl⟩
          rw [List.drop_length] at hwk
          simp only [walkC, Option.map_some] at hwk
          cases hw' : walkC i w sg n c k r with
          | none => rw [hw'] at hwk; cases hwk
          | some ys =>
            rw [hw'] at hwk
            simp only [Option.map_some, Option.some.injEq] at hwk
            refine hk _ _ ⟨x6, ys, s5, by rw [hwk]; exact ht, ?_, hw', rfl⟩
            have := congrArg List.length hwk
            simp at this
            omega
      rintro σ H4 ⟨x6, ks, s4, ht4, lk, hwk, rfl⟩
      walk_at "RD"
      refine ⟨_, SqL.of ht4, by simp, fun m hm hle => ?_⟩
      have z := hq H4 s4
      simp only [walkedOf, hh.1, hh.2, Bool.and_self, if_true, hwk, Option.bind_some] at z
      by_cases h0 : m < 0
      · rw [if_pos h0]
        rw [if_neg (fun y => by have := List.all_eq_true.mp y m hm; simp at this; omega)] at z
        exact ⟨by omega, z⟩
      · rw [if_neg h0]
        rw [if_pos (List.all_eq_true.mpr fun x hx => by have := hle x hx; simp; omega)] at z
        exact z t nt ht4
    · have z := hq H1 (Same.refl _)
      have e0 : (hasI sg c && stands i (at_ sg c)) = false := by
        cases a1 : hasI sg c
        · rfl
        · cases a2 : stands i (at_ sg c)
          · rfl
          · exact absurd ⟨a1, a2⟩ hh
      simp only [walkedOf, e0, Bool.false_eq_true, if_false] at z
      walk_at "RD"
      refine ⟨_, SqT.of hq0, _, eA, p, fl, i, n, w, h, sg, c, rfl, hc, hi, F0, g, _, rfl, ?_⟩
      rw [if_pos e0]
      exact ⟨by omega, z⟩
theorem sc_Lcell_at : FnScope ["_law_script", "_law_k"] ["_law_script", "_law_k"] (defScope s_Lcell_at) := ⟨rfl, rfl, rfl, by decide +kernel, rfl, by decide +kernel, by decide +kernel⟩
set_option maxHeartbeats 4000000 in
theorem ok_Lcell_at {fd : FuncData} (F : Fun K "_law_cell_at" "_law_cell_at" s_Lcell_at ad.Lcell_at fd) (T : Txt K mg ad) : FnOk P w K mg base CX0 1 ad.Lcell_at fd ["_law_script", "_law_k"] (spCell K) := by
  refine F.ok sc_Lcell_at (fun vs H Q E h => ?_) (fun cdv A outer s H vs Q E HR h => ?_)
  · obtain ⟨a, ns, k, rfl, _⟩ := h
    rfl
  · obtain ⟨a, ns, k, rfl, hS, hb, h0, hq⟩ := h
    have ND := sc_Lcell_at.nd
    have HU0 := HR.units0
    have HU := HR.units
    have hA := HR.hd
    have hz : (100000 : Nat) ≤ sizeLine := by rw [sizeLine_eq]; decide
    refine ⟨_, (pss_cons (ps_if (pt_cmpR op_lt (pe_var (i := 1) (x := "_law_k") rfl (vis_of v_Lcell_at__law_k) d__law_k e__law_k) (pe_callB call_len_seq (gl_of g_Lcell_at_len) T.b_len PyProof.Rows.Boot.«len» (pa_cons (pe_var (i := 0) (x := "_law_script") rfl (vis_of v_Lcell_at__law_script) d__law_script e__law_script) pa_nil (stp rfl)) (hn := n_len) (hdb := d_len) (he := stp rfl) (hpl := anp rfl)) (nomark _))
 (pss_one (ps_ret (pe_ix ix_list (pe_var (i := 0) (x := "_law_script") rfl (vis_of v_Lcell_at__law_script) d__law_script e__law_script) (pe_var (i := 1) (x := "_law_k") rfl (vis_of v_Lcell_at__law_k) d__law_k e__law_k) (fun _ _ => rfl))))
 pss_nil)
 (pss_one (ps_ret pe_int))), ?_⟩
    walk_at "RD"
    refine ⟨_, .inl hS, ?_⟩
    split
    · rename_i h
      rw [List.length_map] at h
      exact ⟨_, hS, _, atI_int h0 h, hq _ (hb _ (getD_in (by omega)))⟩
    · exact hq 0 bits_zero
theorem sc_Lmixed : FnScope ["_law_cell", "_law_k", "_law_number"] ["_law_cell", "_law_k"] (defScope s_Lmixed) := ⟨rfl, rfl, rfl, by decide +kernel, rfl, by decide +kernel, by decide +kernel⟩
set_option maxHeartbeats 4000000 in
theorem ok_Lmixed {fd : FuncData} (F : Fun K "_law_mixed" "_law_mixed" s_Lmixed ad.Lmixed fd) (T : Txt K mg ad) : FnOk P w K mg base CX0 1 ad.Lmixed fd ["_law_cell", "_law_k"] (spMixedW) := by
  refine F.ok sc_Lmixed (fun vs H Q E h => ?_) (fun cdv A outer s H vs Q E HR h => ?_)
  · obtain ⟨c, k, rfl, _⟩ := h
    rfl
  · obtain ⟨c, k, rfl, hc, h0, h1, hq⟩ := h
    have ND := sc_Lmixed.nd
    have HU0 := HR.units0
    have HU := HR.units
    have hA := HR.hd
    have hz : (100000 : Nat) ≤ sizeLine := by rw [sizeLine_eq]; decide
    refine ⟨_, (pss_cons (ps_set (i := 2) ND rfl (loc_of (Or.inl l_Lmixed__law_number)) (pe_op op_add (pe_op op_add (pe_var (i := 0) (x := "_law_cell") rfl (vis_of v_Lmixed__law_cell) d__law_cell e__law_cell) (pe_op op_mulB pe_int (pe_var (i := 1) (x := "_law_k") rfl (vis_of v_Lmixed__law_k) d__law_k e__law_k))) pe_int))
 (pss_one (ps_ret (pe_op op_mod (pe_op op_mulB (pe_op op_mod (pe_op op_mulB (pe_var (i := 2) (x := "_law_number") rfl (vis_of v_Lmixed__law_number) d__law_number e__law_number) (pe_var (i := 2) (x := "_law_number") rfl (vis_of v_Lmixed__law_number) d__law_number e__law_number)) pe_int) pe_int) pe_int)))), ?_⟩
    walk_at "RD"
    exact ⟨CMul.ok (.inl ⟨by decide, by decide⟩), mulOk_near hc hc (by omega) (by omega), by decide, CMul.ok (.inr ⟨by decide, by decide⟩), by decide, hq _ (Int.emod_nonneg _ (by decide)) (Int.emod_lt_of_pos _ (by decide))⟩
theorem sc_Lwhole : FnScope ["_law_found"] ["_law_found"] (defScope s_Lwhole) := ⟨rfl, rfl, rfl, by decide +kernel, rfl, by decide +kernel, by decide +kernel⟩
set_option maxHeartbeats 4000000 in
theorem ok_Lwhole {fd : FuncData} (F : Fun K "_law_whole" "_law_whole" s_Lwhole ad.Lwhole fd) (T : Txt K mg ad) : FnOk P w K mg base CX0 1 ad.Lwhole fd ["_law_found"] (spWhole K) := by
  refine F.ok sc_Lwhole (fun vs H Q E h => ?_) (fun cdv A outer s H vs Q E HR h => ?_)
  · obtain ⟨x, rfl, _⟩ := h
    rfl
  · obtain ⟨x, rfl, ty, hq⟩ := h
    have ND := sc_Lwhole.nd
    have HU0 := HR.units0
    have HU := HR.units
    have hA := HR.hd
    have hz : (100000 : Nat) ≤ sizeLine := by rw [sizeLine_eq]; decide
    refine ⟨_, (pss_one (ps_ret (pe_and (pe_callB call_isinst (gl_of g_Lwhole_isinstance) T.b_isinstance PyProof.Rows.Boot.«isinstance» (pa_cons (pe_var (i := 0) (x := "_law_found") rfl (vis_of v_Lwhole__law_found) d__law_found e__law_found) (pa_cons (pe_bltn (v := .ty "int") (gl_of g_Lwhole_int) T.b_int PyProof.Rows.Boot.«int» rfl (hn := n_int) (hd := d_int)) pa_nil (stp rfl)) (stp rfl)) (hn := n_isinstance) (hdb := d_isinstance) (he := stp rfl) (hpl := anp rfl)) (pe_one (pe_not (pe_callB call_isinst (gl_of g_Lwhole_isinstance) T.b_isinstance PyProof.Rows.Boot.«isinstance» (pa_cons (pe_var (i := 0) (x := "_law_found") rfl (vis_of v_Lwhole__law_found) d__law_found e__law_found) (pa_cons (pe_bltn (v := .ty "bool") (gl_of g_Lwhole_bool) T.b_bool PyProof.Rows.Boot.«bool» rfl (hn := n_bool) (hd := d_bool)) pa_nil (stp rfl)) (stp rfl)) (hn := n_isinstance) (hdb := d_isinstance) (he := stp rfl) (hpl := anp rfl))))))), ?_⟩
    obtain ⟨n, ty⟩ := ty
    have e1 := kit_int ty
    have e2 := kit_bool ty
    walk_at "RD"
    refine ⟨_, ty, _, e1, ?_⟩
    cases hb : isIB x with
    | true =>
      rw [if_pos rfl]
      refine ⟨_, ty, _, e2, ?_⟩
      cases x <;> simp_all [isI, isB, isIB]
    | false =>
      rw [if_neg (by decide)]
      cases x <;> simp_all [isI, isB, isIB]
theorem sc_Llines : FnScope ["_law_script", "_law_wide", "_law_high", "_law_signs", "_law_rows", "_law_row", "_law_line", "_law_column"] ["_law_script"] (defScope s_Llines) := ⟨rfl, rfl, rfl, by decide +kernel, rfl, by decide +kernel, by decide +kernel⟩
set_option maxHeartbeats 4000000 in
theorem ok_Llines {fd : FuncData} (F : Fun K "_law_lines" "_law_lines" s_Llines ad.Llines fd) (T : Txt K mg ad) {fd_Lcell_at : FuncData} (B_Lcell_at : Binds K fd_Lcell_at ["_law_script", "_law_k"] []) (G_Lcell_at : FnOk P w K mg base CX0 1 ad.Lcell_at fd_Lcell_at ["_law_script", "_law_k"] (spCell K)) {fd_Lmixed : FuncData} (B_Lmixed : Binds K fd_Lmixed ["_law_cell", "_law_k"] []) (G_Lmixed : FnOk P w K mg base CX0 1 ad.Lmixed fd_Lmixed ["_law_cell", "_law_k"] (spMixedW)) : FnOk P w K mg base CX0 2 ad.Llines fd ["_law_script"] (spLinesW K) := by
  refine F.ok sc_Llines (fun vs H Q E h => ?_) (fun cdv A outer s H vs Q E HR h => ?_)
  · obtain ⟨a, ns, rfl, _⟩ := h
    rfl
  · obtain ⟨a, ns, rfl, hS, hb, hq⟩ := h
    have ND := sc_Llines.nd
    have HU0 := HR.units0
    have HU := HR.units
    have hA := HR.hd
    have hz : (100000 : Nat) ≤ sizeLine := by rw [sizeLine_eq]; decide
    refine ⟨_, (pss_cons (ps_set (i := 1) ND rfl (loc_of (Or.inl l_Llines__law_wide)) (pe_op op_add pe_int (pe_op op_mod (pe_call G_Lcell_at (HR.mono (by decide)) (gl_of g_Llines__law_cell_at) T.mg_Lcell_at T.k_Lcell_at B_Lcell_at .nil pass0 (pa_cons (pe_var (i := 0) (x := "_law_script") rfl (vis_of v_Llines__law_script) d__law_script e__law_script) (pa_cons pe_int pa_nil (stp rfl)) (stp rfl)) (hdb := d__law_cell_at) (he := stp rfl) (hpl := anp rfl)) pe_int)))
 (pss_cons (ps_set (i := 2) ND rfl (loc_of (Or.inl l_Llines__law_high)) (pe_op op_add pe_int (pe_op op_mod (pe_op op_fdiv (pe_call G_Lcell_at (HR.mono (by decide)) (gl_of g_Llines__law_cell_at) T.mg_Lcell_at T.k_Lcell_at B_Lcell_at .nil pass0 (pa_cons (pe_var (i := 0) (x := "_law_script") rfl (vis_of v_Llines__law_script) d__law_script e__law_script) (pa_cons pe_int pa_nil (stp rfl)) (stp rfl)) (hdb := d__law_cell_at) (he := stp rfl) (hpl := anp rfl)) pe_int) pe_int)))
 (pss_cons (ps_set (i := 3) ND rfl (loc_of (Or.inl l_Llines__law_signs)) (pe_ix ix_list (pe_lst (pa_cons pe_str (pa_cons pe_str (pa_cons pe_str pa_nil (stp rfl)) (stp rfl)) (stp rfl))) (pe_op op_mod (pe_op op_fdiv (pe_call G_Lcell_at (HR.mono (by decide)) (gl_of g_Llines__law_cell_at) T.mg_Lcell_at T.k_Lcell_at B_Lcell_at .nil pass0 (pa_cons (pe_var (i := 0) (x := "_law_script") rfl (vis_of v_Llines__law_script) d__law_script e__law_script) (pa_cons pe_int pa_nil (stp rfl)) (stp rfl)) (hdb := d__law_cell_at) (he := stp rfl) (hpl := anp rfl)) pe_int) pe_int) (fun _ _ => rfl)))
 (pss_cons (ps_set (i := 4) ND rfl (loc_of (Or.inl l_Llines__law_rows)) (pe_lst pa_nil))
 (pss_cons (ps_for PassesOwn.never (calm0 rfl) (pi_range1 (gl_of g_Llines_range) T.b_range (pa_cons (pe_var (i := 2) (x := "_law_high") rfl (vis_of v_Llines__law_high) d__law_high e__law_high) pa_nil (stp rfl)) (st1 rfl)) (pg_name (i := 5) ND rfl (loc_of (Or.inl l_Llines__law_row)))
 (pss_cons (ps_set (i := 6) ND rfl (loc_of (Or.inl l_Llines__law_line)) pe_str)
 (pss_cons (ps_for PassesOwn.never (calm0 rfl) (pi_range1 (gl_of g_Llines_range) T.b_range (pa_cons (pe_var (i := 1) (x := "_law_wide") rfl (vis_of v_Llines__law_wide) d__law_wide e__law_wide) pa_nil (stp rfl)) (st1 rfl)) (pg_name (i := 7) ND rfl (loc_of (Or.inl l_Llines__law_column)))
 (pss_one (ps_set (i := 6) ND rfl (loc_of (Or.inl l_Llines__law_line)) (pe_op op_add_str (pe_var (i := 6) (x := "_law_line") rfl (vis_of v_Llines__law_line) d__law_line e__law_line) (pe_ix ix_str (pe_var (i := 3) (x := "_law_signs") rfl (vis_of v_Llines__law_signs) d__law_signs e__law_signs) (pe_op op_mod (pe_op op_fdiv (pe_call G_Lmixed (HR.mono (by decide)) (gl_of g_Llines__law_mixed) T.mg_Lmixed T.k_Lmixed B_Lmixed .nil pass0 (pa_cons (pe_call G_Lcell_at (HR.mono (by decide)) (gl_of g_Llines__law_cell_at) T.mg_Lcell_at T.k_Lcell_at B_Lcell_at .nil pass0 (pa_cons (pe_var (i := 0) (x := "_law_script") rfl (vis_of v_Llines__law_script) d__law_script e__law_script) (pa_cons (pe_op op_add pe_int (pe_var (i := 5) (x := "_law_row") rfl (vis_of v_Llines__law_row) d__law_row e__law_row)) pa_nil (stp rfl)) (stp rfl)) (hdb := d__law_cell_at) (he := stp rfl) (hpl := anp rfl)) (pa_cons (pe_var (i := 7) (x := "_law_column") rfl (vis_of v_Llines__law_column) d__law_column e__law_column) pa_nil (stp rfl)) (stp rfl)) (hdb := d__law_mixed) (he := stp rfl) (hpl := anp rfl)) pe_int) pe_int) (fun _ _ => rfl))))))
 (pss_one (ps_expr (pe_bm PySem.F.plainAttrs_list PySem.F.slot_list_append PySem.F.type_list_append mt_append (pe_var (i := 4) (x := "_law_rows") rfl (vis_of v_Llines__law_rows) d__law_rows e__law_rows) (pa_cons (pe_var (i := 6) (x := "_law_line") rfl (vis_of v_Llines__law_line) d__law_line e__law_line) pa_nil (stp rfl))))))))
 (pss_one (ps_ret (pe_var (i := 4) (x := "_law_rows") rfl (vis_of v_Llines__law_rows) d__law_rows e__law_rows)))))))), ?_⟩
    have tab : ∀ i : Int, ∃ z : Str, atI [V.str (Str.ofString ".+~|#"), V.str (Str.ofString "..+~|"), V.str (Str.ofString ".+|.#")] (i / 25 % 3) = some (V.str z) ∧ z.length = 5 ∧ (∀ c ∈ z.cps.toList, sgOk c) := fun i => by
      have h5 : i / 25 % 3 = 0 ∨ i / 25 % 3 = 1 ∨ i / 25 % 3 = 2 := by omega
      unfold sgOk
      rcases h5 with h | h | h <;> rw [h] <;> exact ⟨_, rfl, by decide +kernel, by decide +kernel⟩
    refine tSeq_cut (fun σ H' => ∃ w : Nat, 1 ≤ w ∧ w ≤ 5 ∧ H' = H ∧ σ = [some (V.ref a), some (V.int (w : Int)), none, none, none, none, none, none]) (fun nx hk => ?_) ?_
    · walk_at "RD"
      refine ⟨a, ns, 0, rfl, hS, hb, by decide, fun c cb => ⟨_, rfl, by decide, hk _ _ ⟨(1 + c % 5).toNat, by omega, by omega, rfl, ?_⟩⟩⟩
      rw [Int.toNat_of_nonneg (by omega)]
    rintro σ H1 ⟨w, w0, w1, rfl, rfl⟩
    refine tSeq_cut (fun σ H' => ∃ h : Nat, 1 ≤ h ∧ h ≤ 5 ∧ H' = H1 ∧ σ = [some (V.ref a), some (V.int (w : Int)), some (V.int (h : Int)), none, none, none, none, none]) (fun nx hk => ?_) ?_
    · walk_at "RD"
      refine ⟨a, ns, 0, rfl, hS, hb, by decide, fun c cb => ⟨_, rfl, ⟨by decide, by decide⟩, by decide, hk _ _ ⟨(1 + c / 5 % 5).toNat, by omega, by omega, rfl, ?_⟩⟩⟩
      rw [Int.toNat_of_nonneg (by omega)]
    rintro σ H2 ⟨h, h0, h1, rfl, rfl⟩
    refine tSeq_cut (fun σ H' => ∃ z : Str, z.length = 5 ∧ (∀ c ∈ z.cps.toList, sgOk c) ∧ Same H2 H' ∧ σ = [some (V.ref a), some (V.int (w : Int)), some (V.int (h : Int)), some (V.str z), none, none, none, none]) (fun nx hk => ?_) ?_
    · walk_at "RD"
      refine ⟨by omega, fun p np => ⟨a, ns, 0, rfl, (same_new np).seq hS, hb, by decide, fun c cb => ⟨_, rfl, ⟨by decide, by decide⟩, by decide, ?_⟩⟩⟩
      obtain ⟨z, hz1, hz2, hz3⟩ := tab c
      exact ⟨_, SqL.of upd_same, _, hz1, hk _ _ ⟨z, hz2, hz3, same_new np, rfl⟩⟩
    rintro σ H3 ⟨z, z5, zok, s3, rfl⟩
    refine tSeq_cut (fun σ H' => ∃ l, H2 l = none ∧ Same H2 H' ∧ H' l = some (.lst []) ∧ σ = [some (V.ref a), some (V.int (w : Int)), some (V.int (h : Int)), some (V.str z), some (V.ref l), none, none, none]) (fun nx hk => ?_) ?_
    · walk_at "RD"
      exact ⟨by omega, fun l nl => hk _ _ ⟨l, s3.free nl, s3.trans (same_new nl), upd_same, rfl⟩⟩
    rintro σ H4 ⟨l, nl, s4, hl4, rfl⟩
    refine tSeq_cut (fun σ H' => ∃ x5 x6 x7 sg, Same H2 H' ∧ LinesAt H' l w h sg ∧ G0 w h sg ∧ σ = [some (V.ref a), some (V.int (w : Int)), some (V.int (h : Int)), some (V.str z), some (V.ref l), x5, x6, x7]) (fun nx hk => ?_) ?_
    · walk_at "RD"
      refine ⟨by omega, by omega, ?_⟩
      rw [Int.toNat_natCast]
      refine for_range (fun j σ H' => ∃ x5 x6 x7 sg, Same H2 H' ∧ H' l = some (.lst ((Fl.linesOf w j sg).map V.str)) ∧ sg.length = w * j ∧ (∀ c ∈ sg, sgOk c) ∧ σ = [some (V.ref a), some (V.int (w : Int)), some (V.int (h : Int)), some (V.str z), some (V.ref l), x5, x6, x7]) ⟨none, none, none, [], s4, hl4, by simp, by simp, rfl⟩ ?_ ?_
      · rintro j σ H' hj ⟨x5, x6, x7, sg, s5, hl5, ln, ok, rfl⟩
        refine tSeq_cut (fun σ H'' => H'' = H' ∧ σ = [some (V.ref a), some (V.int (w : Int)), some (V.int (h : Int)), some (V.str z), some (V.ref l), some (V.int (0 + (j : Int))), some (V.str (txt [])), x7]) (fun nx hk => ?_) ?_
        · walk_at "RD"
          exact hk _ _ ⟨rfl, by rw [show Str.ofString "" = txt [] from str_ext (by decide +kernel)]⟩
        rintro σ H6 ⟨rfl, rfl⟩
        refine tSeq_cut (fun σ H'' => ∃ x7 cs, H'' = H6 ∧ cs.length = w ∧ (∀ c ∈ cs, sgOk c) ∧ σ = [some (V.ref a), some (V.int (w : Int)), some (V.int (h : Int)), some (V.str z), some (V.ref l), some (V.int (0 + (j : Int))), some (V.str (txt cs)), x7]) (fun nx hk => ?_) ?_
        · walk_at "RD"
          refine ⟨by omega, by omega, ?_⟩
          rw [Int.toNat_natCast]
          refine for_range (fun i σ H'' => ∃ x7 cs, H'' = H6 ∧ cs.length = i ∧ (∀ c ∈ cs, sgOk c) ∧ σ = [some (V.ref a), some (V.int (w : Int)), some (V.int (h : Int)), some (V.str z), some (V.ref l), some (V.int (0 + (j : Int))), some (V.str (txt cs)), x7]) ⟨x7, [], rfl, rfl, by simp, rfl⟩ ?_ ?_
          · rintro i σ H'' hi ⟨x7, cs, rfl, lc, cok, rfl⟩
            walk_at "RD"
            refine ⟨a, ns, _, rfl, s5.seq hS, hb, by omega, fun c cb => ⟨c, _, rfl, cb, by omega, by omega, fun r r0 r1 => ⟨_, rfl, ⟨by decide, by decide⟩, by decide, by omega, ?_⟩⟩⟩
            have e1 := Int.emod_nonneg (r / 8) (show (5 : Int) ≠ 0 by decide)
            have e2 := Int.emod_lt_of_pos (r / 8) (show (0 : Int) < 5 by decide)
            obtain ⟨t, ht⟩ := Int.eq_ofNat_of_zero_le e1
            rw [ht] at e2 ⊢
            have ht2 : t < z.cps.toList.length := by rw [str_len_list]; omega
            refine ⟨z.cps.toList[t], atI_nat (List.getElem?_eq_getElem ht2), ?_, rfl, _, cs ++ [z.cps.toList[t]], by simp [lc], ?_, ?_, rfl⟩
            · rw [txt_len]
              show cs.length + 1 ≤ sizeLine
              omega
            · intro c hc
              rcases List.mem_append.mp hc with y | y
              · exact cok c y
              · have : c = z.cps.toList[t] := by simpa using y
                rw [this]
                exact zok _ (List.getElem_mem ht2)
            · refine str_ext ?_
              rw [str_app_list, txt_list, txt_list]
          · rintro σ H'' ⟨x7, cs, rfl, lc, cok, rfl⟩
            exact hk _ _ ⟨x7, cs, rfl, lc, cok, rfl⟩
        rintro σ H7 ⟨x7, cs, rfl, lc, cok, rfl⟩
        walk_at "RD"
        refine ⟨.inl ⟨rfl, _, SqL.of hl5⟩, _, hl5, by rw [List.length_map, lines_len]; omega, same_upd s5 nl, _, _, _, sg ++ cs, ?_, by rw [List.length_append, ln, lc, Nat.mul_succ], ?_, rfl, rfl, rfl⟩
        · rw [lines_snoc ln lc, List.map_append]
          exact upd_same
        · intro c hc
          rcases List.mem_append.mp hc with y | y
          · exact ok c y
          · exact cok c y
      · rintro σ H' ⟨x5, x6, x7, sg, s5, hl5, ln, ok, rfl⟩
        exact hk _ _ ⟨x5, x6, x7, sg, s5, hl5, ⟨w0, by omega, h0, by omega, ln, ok⟩, rfl⟩
    rintro σ H5 ⟨x5, x6, x7, sg, s5, hl5, g0, rfl⟩
    walk_at "RD"
    exact hq l H5 w h sg nl s5 hl5 g0
theorem sc_Lsign : FnScope ["_law_rows", "_law_place", "_law_wide"] ["_law_rows", "_law_place"] (defScope s_Lsign) := ⟨rfl, rfl, rfl, by decide +kernel, rfl, by decide +kernel, by decide +kernel⟩
set_option maxHeartbeats 4000000 in
theorem ok_Lsign {fd : FuncData} (F : Fun K "_law_sign" "_law_sign" s_Lsign ad.Lsign fd) (T : Txt K mg ad) : FnOk P w K mg base CX0 1 ad.Lsign fd ["_law_rows", "_law_place"] (spSgI) := by
  refine F.ok sc_Lsign (fun vs H Q E h => ?_) (fun cdv A outer s H vs Q E HR h => ?_)
  · obtain ⟨l, w, h, sg, c, rfl, _⟩ := h
    rfl
  · obtain ⟨l, w, h, sg, c, rfl, hL, g, hq⟩ := h
    have ND := sc_Lsign.nd
    have HU0 := HR.units0
    have HU := HR.units
    have hA := HR.hd
    have hz : (100000 : Nat) ≤ sizeLine := by rw [sizeLine_eq]; decide
    refine ⟨_, (pss_cons (ps_set (i := 2) ND rfl (loc_of (Or.inl l_Lsign__law_wide)) (pe_callB call_len_str (gl_of g_Lsign_len) T.b_len PyProof.Rows.Boot.«len» (pa_cons (pe_ix ix_list (pe_var (i := 0) (x := "_law_rows") rfl (vis_of v_Lsign__law_rows) d__law_rows e__law_rows) pe_int (fun _ _ => rfl)) pa_nil (stp rfl)) (hn := n_len) (hdb := d_len) (he := stp rfl) (hpl := anp rfl)))
 (pss_cons (ps_if (pt_not (pt_chain op_le op_lt pe_int (pe_var (i := 1) (x := "_law_place") rfl (vis_of v_Lsign__law_place) d__law_place e__law_place) (pe_op op_mul (pe_var (i := 2) (x := "_law_wide") rfl (vis_of v_Lsign__law_wide) d__law_wide e__law_wide) (pe_callB call_len_seq (gl_of g_Lsign_len) T.b_len PyProof.Rows.Boot.«len» (pa_cons (pe_var (i := 0) (x := "_law_rows") rfl (vis_of v_Lsign__law_rows) d__law_rows e__law_rows) pa_nil (stp rfl)) (hn := n_len) (hdb := d_len) (he := stp rfl) (hpl := anp rfl)))))
 (pss_one (ps_ret pe_str))
 pss_nil)
 (pss_one (ps_ret (pe_ix ix_str (pe_ix ix_list (pe_var (i := 0) (x := "_law_rows") rfl (vis_of v_Lsign__law_rows) d__law_rows e__law_rows) (pe_op op_fdiv (pe_var (i := 1) (x := "_law_place") rfl (vis_of v_Lsign__law_place) d__law_place e__law_place) (pe_var (i := 2) (x := "_law_wide") rfl (vis_of v_Lsign__law_wide) d__law_wide e__law_wide)) (fun _ _ => rfl)) (pe_op op_mod (pe_var (i := 1) (x := "_law_place") rfl (vis_of v_Lsign__law_place) d__law_place e__law_place) (pe_var (i := 2) (x := "_law_wide") rfl (vis_of v_Lsign__law_wide) d__law_wide e__law_wide)) (fun _ _ => rfl)))))), ?_⟩
    have w0 := g.w0
    have w1 := g.w1
    have h0 := g.h0
    have h1 := g.h1
    have len := g.len
    have l100 := len100 g
    have e0 : atI ((Fl.linesOf w h sg).map V.str) 0 = some (V.str (lineOf w sg 0)) := atI_nat (j := 0) (by rw [List.getElem?_map, lines_get (by omega)]; rfl)
    have eL := line_len g (show 0 < h by omega)
    have lh : ((Fl.linesOf w h sg).map V.str).length = h := by rw [List.length_map, lines_len]
    have em : ((w : Int) * (h : Int)) = ((sg.length : Nat) : Int) := by rw [len]; simp
    walk_at "RD"
    refine ⟨_, SqL.of hL, _, e0, _, rfl, by rw [eL]; omega, ?_⟩
    rw [eL]
    unfold sgI at hq
    by_cases c0 : 0 ≤ c
    · rw [if_pos c0]
      refine ⟨_, .inl (SqL.of hL), ?_⟩
      rw [lh, em]
      refine ⟨.inl ⟨by omega, by omega⟩, ?_⟩
      by_cases c1 : c < sg.length
      · rw [if_neg (by omega)]
        rw [if_pos ⟨c0, c1⟩] at hq
        obtain ⟨j1, d0, q0, q1, e⟩ := sign_eq g c0 c1
        have eR := line_len g j1
        have ec : atI ((Fl.linesOf w h sg).map V.str) (c / w) = some (V.str (lineOf w sg (c / w).toNat)) := by
          obtain ⟨j, hj⟩ := Int.eq_ofNat_of_zero_le d0
          rw [hj] at j1 ⊢
          exact atI_nat (by rw [List.getElem?_map, lines_get (by simpa using j1)]; rfl)
        have er : atI (lineOf w sg (c / w).toNat).cps.toList (c % w) = some (at_ sg c) := by
          obtain ⟨r, hr⟩ := Int.eq_ofNat_of_zero_le q0
          rw [hr] at e ⊢
          exact atI_nat (by simpa using e)
        exact ⟨⟨by omega, by omega⟩, _, SqL.of hL, _, ec, by omega, _, rfl, by rw [eR]; omega, _, er, hq⟩
      · rw [if_pos (by omega), hash35]
        rw [if_neg (by omega)] at hq
        exact hq
    · rw [if_neg c0, hash35]
      rw [if_neg (by omega)] at hq
      exact hq
theorem sc_Laround : FnScope ["_law_rows", "_law_place", "_law_wide", "_law_found"] ["_law_rows", "_law_place"] (defScope s_Laround) := ⟨rfl, rfl, rfl, by decide +kernel, rfl, by decide +kernel, by decide +kernel⟩
set_option maxHeartbeats 4000000 in
theorem ok_Laround {fd : FuncData} (F : Fun K "_law_around" "_law_around" s_Laround ad.Laround fd) (T : Txt K mg ad) : FnOk P w K mg base CX0 1 ad.Laround fd ["_law_rows", "_law_place"] (spAround) := by
  refine F.ok sc_Laround (fun vs H Q E h => ?_) (fun cdv A outer s H vs Q E HR h => ?_)
  · obtain ⟨l, w, h, sg, c, rfl, _⟩ := h
    rfl
  · obtain ⟨l, w, h, sg, c, rfl, hL, g, hq⟩ := h
    have ND := sc_Laround.nd
    have HU0 := HR.units0
    have HU := HR.units
    have hA := HR.hd
    have hz : (100000 : Nat) ≤ sizeLine := by rw [sizeLine_eq]; decide
    refine ⟨_, (pss_cons (ps_set (i := 2) ND rfl (loc_of (Or.inr l_Laround__law_wide)) (pe_callB call_len_str (gl_of g_Laround_len) T.b_len PyProof.Rows.Boot.«len» (pa_cons (pe_ix ix_list (pe_var (i := 0) (x := "_law_rows") rfl (vis_of v_Laround__law_rows) d__law_rows e__law_rows) pe_int (fun _ _ => rfl)) pa_nil (stp rfl)) (hn := n_len) (hdb := d_len) (he := stp rfl) (hpl := anp rfl)))
 (pss_cons (ps_set (i := 3) ND rfl (loc_of (Or.inl l_Laround__law_found)) (pe_lst pa_nil))
 (pss_cons (ps_if (pt_cmpR op_gt (pe_op op_mod (pe_var (i := 1) (x := "_law_place") rfl (vis_of v_Laround__law_place) d__law_place e__law_place) (pe_var (i := 2) (x := "_law_wide") rfl (vis_of v_Laround__law_wide) d__law_wide e__law_wide)) pe_int (nomark _))
 (pss_one (ps_expr (pe_bm PySem.F.plainAttrs_list PySem.F.slot_list_append PySem.F.type_list_append mt_append (pe_var (i := 3) (x := "_law_found") rfl (vis_of v_Laround__law_found) d__law_found e__law_found) (pa_cons (pe_op op_sub (pe_var (i := 1) (x := "_law_place") rfl (vis_of v_Laround__law_place) d__law_place e__law_place) pe_int) pa_nil (stp rfl)))))
 pss_nil)
 (pss_cons (ps_if (pt_cmpR op_lt (pe_op op_mod (pe_var (i := 1) (x := "_law_place") rfl (vis_of v_Laround__law_place) d__law_place e__law_place) (pe_var (i := 2) (x := "_law_wide") rfl (vis_of v_Laround__law_wide) d__law_wide e__law_wide)) (pe_op op_sub (pe_var (i := 2) (x := "_law_wide") rfl (vis_of v_Laround__law_wide) d__law_wide e__law_wide) pe_int) (nomark _))
 (pss_one (ps_expr (pe_bm PySem.F.plainAttrs_list PySem.F.slot_list_append PySem.F.type_list_append mt_append (pe_var (i := 3) (x := "_law_found") rfl (vis_of v_Laround__law_found) d__law_found e__law_found) (pa_cons (pe_op op_add (pe_var (i := 1) (x := "_law_place") rfl (vis_of v_Laround__law_place) d__law_place e__law_place) pe_int) pa_nil (stp rfl)))))
 pss_nil)
 (pss_one (ps_ret (pe_op op_cat (pe_var (i := 3) (x := "_law_found") rfl (vis_of v_Laround__law_found) d__law_found e__law_found) (pe_comp (CompScope.of (osc := defScope s_Laround) (tn := ["_law_other"]) (cn := ["_law_wide", "_law_rows"]) (caps := [2, 0]) rfl rfl (by decide +kernel) (by decide +kernel) (by decide +kernel) (by decide +kernel) rfl) (calm0 rfl)  (pi_tup (pe_tup (pa_cons (pe_op op_sub (pe_var (i := 1) (x := "_law_place") rfl (vis_of v_Laround__law_place) d__law_place e__law_place) (pe_var (i := 2) (x := "_law_wide") rfl (vis_of v_Laround__law_wide) d__law_wide e__law_wide)) (pa_cons (pe_op op_add (pe_var (i := 1) (x := "_law_place") rfl (vis_of v_Laround__law_place) d__law_place e__law_place) (pe_var (i := 2) (x := "_law_wide") rfl (vis_of v_Laround__law_wide) d__law_wide e__law_wide)) pa_nil (stp rfl)) (stp rfl))))
 (fun _ _ _ _ _ => (pg_name (i := 0) (show (["_law_other", "_law_wide", "_law_rows"] : List Str).Nodup by decide +kernel) rfl (Or.inl rfl))) (fun _ _ _ _ _ => (pts_one (pt_chain op_le op_lt pe_int (pv 0) (pe_op op_mul (pv 1) (pe_callB (call_len_seqK (K := K) rfl) (by rfl) T.b_len PyProof.Rows.Boot.«len» (pa_cons (pv 2) pa_nil (stp rfl)) (hn := n_len) (hdb := d_len) (he := stp rfl) (hpl := anp rfl)))))) (fun _ _ _ _ _ => (pv 0)))))))))), ?_⟩
    have w0 := g.w0
    have w1 := g.w1
    have h0 := g.h0
    have h1 := g.h1
    have len := g.len
    have l100 := len100 g
    have e0 : atI ((Fl.linesOf w h sg).map V.str) 0 = some (V.str (lineOf w sg 0)) := atI_nat (j := 0) (by rw [List.getElem?_map, lines_get (by omega)]; rfl)
    have eL := line_len g (show 0 < h by omega)
    have lh : ((Fl.linesOf w h sg).map V.str).length = h := by rw [List.length_map, lines_len]
    have em : ((w : Int) * (h : Int)) = ((sg.length : Nat) : Int) := by rw [len]; simp
    refine tSeq_cut (fun σ H' => H' = H ∧ σ = [some (V.ref l), some (V.int c), some (V.int (w : Int)), none]) (fun nx hk => ?_) ?_
    · walk_at "RD"
      refine ⟨_, SqL.of hL, _, e0, _, rfl, by rw [eL]; omega, ?_⟩
      rw [eL]
      exact hk _ _ ⟨rfl, rfl⟩
    rintro σ H1 ⟨rfl, rfl⟩
    refine tSeq_cut (fun σ H' => ∃ p, H1 p = none ∧ Same H1 H' ∧ H' p = some (.lst (([] : List Int).map V.int)) ∧ σ = [some (V.ref l), some (V.int c), some (V.int (w : Int)), some (V.ref p)]) (fun nx hk => ?_) ?_
    · walk_at "RD"
      exact ⟨by omega, fun p np => hk _ _ ⟨p, np, same_new np, upd_same, rfl⟩⟩
    rintro σ H2 ⟨p, np, s2, hp2, rfl⟩
    refine tSeq_cut (fun σ H' => Same H1 H' ∧ H' p = some (.lst ((if c % w > 0 then [c - 1] else []).map V.int)) ∧ σ = [some (V.ref l), some (V.int c), some (V.int (w : Int)), some (V.ref p)]) (fun nx hk => ?_) ?_
    · walk_at "RD"
      refine ⟨by omega, ?_⟩
      by_cases a1 : 0 < c % (w : Int)
      · rw [if_pos a1]
        exact ⟨.inl ⟨rfl, _, SqL.of hp2⟩, _, hp2, by simp; omega, hk _ _ ⟨same_upd s2 np, by rw [if_pos a1]; exact upd_same, rfl⟩⟩
      · rw [if_neg a1]
        exact hk _ _ ⟨s2, by rw [if_neg a1]; exact hp2, rfl⟩
    rintro σ H3 ⟨s3, hp3, rfl⟩
    refine tSeq_cut (fun σ H' => Same H1 H' ∧ H' p = some (.lst (((if c % w > 0 then [c - 1] else []) ++ (if c % w < (w : Int) - 1 then [c + 1] else [])).map V.int)) ∧ σ = [some (V.ref l), some (V.int c), some (V.int (w : Int)), some (V.ref p)]) (fun nx hk => ?_) ?_
    · walk_at "RD"
      refine ⟨by omega, ?_⟩
      by_cases a1 : c % (w : Int) < (w : Int) - 1
      · rw [if_pos a1]
        refine ⟨.inl ⟨rfl, _, SqL.of hp3⟩, _, hp3, by split <;> simp <;> omega, hk _ _ ⟨same_upd s3 np, by rw [if_pos a1, List.map_append]; exact upd_same, rfl⟩⟩
      · rw [if_neg a1]
        exact hk _ _ ⟨s3, by rw [if_neg a1, List.append_nil]; exact hp3, rfl⟩
    rintro σ H4 ⟨s4, hp4, rfl⟩
    walk_at "RD"
    refine ⟨by omega, fun u nu => ⟨⟨_, SqT.of upd_same⟩, comp_pure (src_tup (SqT.of upd_same)) (inRg sg.length) (fun v => v) (fun y hy Q hh => ?_) (fun y hy _ Q hh => by walk_at "RD"; exact hh) (by simp; omega) ?_⟩⟩
    · obtain ⟨o, rfl⟩ : ∃ o, y = V.int o := by
        rcases List.mem_cons.mp hy with z | z
        · exact ⟨_, z⟩
        · exact ⟨_, List.mem_singleton.mp z⟩
      walk_at "RD"
      simp only [inRg] at hh
      by_cases o0 : 0 ≤ o
      · rw [if_pos o0]
        refine ⟨_, .inl (SqL.of ((same_new nu) _ _ (s4 _ _ hL))), ?_⟩
        rw [lh, em]
        refine ⟨.inl ⟨by omega, by omega⟩, ?_⟩
        rw [decide_eq_true o0, Bool.true_and] at hh
        exact hh
      · rw [if_neg o0]
        rw [decide_eq_false o0, Bool.false_and] at hh
        exact hh
    · intro D nD
      have ef : (List.filter (inRg sg.length) [V.int (c - (w : Int)), V.int (c + (w : Int))]).map (fun v => v) = ([c - (w : Int), c + (w : Int)].filter fun o : Int => decide (0 ≤ o) && decide (o < ((sg.length : Nat) : Int))).map V.int := by
        have e2 : [V.int (c - (w : Int)), V.int (c + (w : Int))] = [c - (w : Int), c + (w : Int)].map V.int := rfl
        rw [List.map_id', e2, List.filter_map]
        rfl
      have fl := List.length_filter_le (fun o : Int => decide (0 ≤ o) && decide (o < ((sg.length : Nat) : Int))) [c - (w : Int), c + (w : Int)]
      simp only [List.length_cons, List.length_nil] at fl
      rw [ef]
      have pD : p ≠ D := ne_of_none ((same_new nu) _ _ hp4) nD
      refine ⟨_, by rw [upd_ne pD]; exact (same_new nu) _ _ hp4, _, upd_same, ?_, fun r nr => ?_⟩
      · rw [List.length_map, List.length_map]
        have : ((if c % (w : Int) > 0 then [c - 1] else []) ++ (if c % (w : Int) < (w : Int) - 1 then [c + 1] else [])).length ≤ 2 := by split <;> split <;> simp
        omega
      · have S : Same H4 (upd (upd H4 u (HO.tup [V.int (c - (w : Int)), V.int (c + (w : Int))])) D (HO.lst (([c - (w : Int), c + (w : Int)].filter fun o : Int => decide (0 ≤ o) && decide (o < ((sg.length : Nat) : Int))).map V.int))) := (same_new nu).trans (same_new nD)
        refine hq r _ (s4.free (S.free nr)) ((s4.trans S).trans (same_new nr)) ?_
        rw [← List.map_append]
        exact upd_same
theorem sc_Lstands : FnScope ["_law_kind", "_law_sign_here"] ["_law_kind", "_law_sign_here"] (defScope s_Lstands) := ⟨rfl, rfl, rfl, by decide +kernel, rfl, by decide +kernel, by decide +kernel⟩
set_option maxHeartbeats 4000000 in
theorem ok_Lstands {fd : FuncData} (F : Fun K "_law_stands" "_law_stands" s_Lstands ad.Lstands fd) (T : Txt K mg ad) : FnOk P w K mg base CX0 1 ad.Lstands fd ["_law_kind", "_law_sign_here"] (spStands) := by
  refine F.ok sc_Lstands (fun vs H Q E h => ?_) (fun cdv A outer s H vs Q E HR h => ?_)
  · obtain ⟨i, c, x, rfl, _⟩ := h
    rfl
  · obtain ⟨i, c, x, rfl, hi, hq⟩ := h
    have ND := sc_Lstands.nd
    have HU0 := HR.units0
    have HU := HR.units
    have hA := HR.hd
    have hz : (100000 : Nat) ≤ sizeLine := by rw [sizeLine_eq]; decide
    refine ⟨_, (pss_one (ps_ret (pe_or (pe_cmpR op_in_chr (pe_var (i := 1) (x := "_law_sign_here") rfl (vis_of v_Lstands__law_sign_here) d__law_sign_here e__law_sign_here) pe_str (by with_unfolding_all rfl)) (pe_one (pe_and (pe_cmpR op_eq (pe_var (i := 1) (x := "_law_sign_here") rfl (vis_of v_Lstands__law_sign_here) d__law_sign_here e__law_sign_here) pe_str (nomark _)) (pe_one (pe_cmpR op_eq (pe_var (i := 0) (x := "_law_kind") rfl (vis_of v_Lstands__law_kind) d__law_kind e__law_kind) pe_str (nomark _)))))))), ?_⟩
    obtain ⟨k1, k2, k3⟩ := kx i x hi
    walk_at "RD"
    refine ⟨c, rfl, ?_⟩
    by_cases e : common c = true
    · rw [if_pos (mem_com.mpr e)]
      have e2 : stands i c = true := by simp [stands, e]
      rw [← e2]
      exact hq
    · rw [if_neg (fun z => e (mem_com.mp z))]
      rw [Bool.not_eq_true] at e
      refine ⟨rfl, ?_⟩
      by_cases e3 : c = 126
      · rw [if_pos (q126.mpr e3)]
        have e2 : decide (x = Str.ofString "crawler") = stands i c := by
          simp only [stands, e, Bool.false_or, decide_eq_true e3, Bool.and_true]
          exact decide_eq_decide.mpr k1
        rw [e2]
        exact hq
      · rw [if_neg (fun z => e3 (q126.mp z))]
        have e2 : stands i c = false := by simp [stands, e, e3]
        rw [← e2]
        exact hq
theorem sc_Lcost : FnScope ["_law_rows", "_law_kind", "_law_place", "_law_other"] ["_law_rows", "_law_kind", "_law_place", "_law_other"] (defScope s_Lcost) := ⟨rfl, rfl, rfl, by decide +kernel, rfl, by decide +kernel, by decide +kernel⟩
set_option maxHeartbeats 4000000 in
theorem ok_Lcost {fd : FuncData} (F : Fun K "_law_cost" "_law_cost" s_Lcost ad.Lcost fd) (T : Txt K mg ad) {fd_Laround : FuncData} (B_Laround : Binds K fd_Laround ["_law_rows", "_law_place"] []) (G_Laround : FnOk P w K mg base CX0 1 ad.Laround fd_Laround ["_law_rows", "_law_place"] (spAround)) {fd_Lstands : FuncData} (B_Lstands : Binds K fd_Lstands ["_law_kind", "_law_sign_here"] []) (G_Lstands : FnOk P w K mg base CX0 1 ad.Lstands fd_Lstands ["_law_kind", "_law_sign_here"] (spStands)) {fd_Lsign : FuncData} (B_Lsign : Binds K fd_Lsign ["_law_rows", "_law_place"] []) (G_Lsign : FnOk P w K mg base CX0 1 ad.Lsign fd_Lsign ["_law_rows", "_law_place"] (spSgI)) : FnOk P w K mg base CX0 2 ad.Lcost fd ["_law_rows", "_law_kind", "_law_place", "_law_other"] (spCostW) := by
  refine F.ok sc_Lcost (fun vs H Q E h => ?_) (fun cdv A outer s H vs Q E HR h => ?_)
  · obtain ⟨l, x, i, w, h, sg, c, o, rfl, _⟩ := h
    rfl
  · obtain ⟨l, x, i, w, h, sg, c, o, rfl, hi, hL, g, hq⟩ := h
    have ND := sc_Lcost.nd
    have HU0 := HR.units0
    have HU := HR.units
    have hA := HR.hd
    have hz : (100000 : Nat) ≤ sizeLine := by rw [sizeLine_eq]; decide
    refine ⟨_, (pss_cons (ps_if (PW.pt (pw_or (pt_cmpR op_notIn_seq (pe_var (i := 3) (x := "_law_other") rfl (vis_of v_Lcost__law_other) d__law_other e__law_other) (pe_call G_Laround (HR.mono (by decide)) (gl_of g_Lcost__law_around) T.mg_Laround T.k_Laround B_Laround .nil pass0 (pa_cons (pe_var (i := 0) (x := "_law_rows") rfl (vis_of v_Lcost__law_rows) d__law_rows e__law_rows) (pa_cons (pe_var (i := 2) (x := "_law_place") rfl (vis_of v_Lcost__law_place) d__law_place e__law_place) pa_nil (stp rfl)) (stp rfl)) (hdb := d__law_around) (he := stp rfl) (hpl := anp rfl)) (by with_unfolding_all rfl)) (pw_or1 (pt_not (pt_val (pe_call G_Lstands (HR.mono (by decide)) (gl_of g_Lcost__law_stands) T.mg_Lstands T.k_Lstands B_Lstands .nil pass0 (pa_cons (pe_var (i := 1) (x := "_law_kind") rfl (vis_of v_Lcost__law_kind) d__law_kind e__law_kind) (pa_cons (pe_call G_Lsign (HR.mono (by decide)) (gl_of g_Lcost__law_sign) T.mg_Lsign T.k_Lsign B_Lsign .nil pass0 (pa_cons (pe_var (i := 0) (x := "_law_rows") rfl (vis_of v_Lcost__law_rows) d__law_rows e__law_rows) (pa_cons (pe_var (i := 3) (x := "_law_other") rfl (vis_of v_Lcost__law_other) d__law_other e__law_other) pa_nil (stp rfl)) (stp rfl)) (hdb := d__law_sign) (he := stp rfl) (hpl := anp rfl)) pa_nil (stp rfl)) (stp rfl)) (hdb := d__law_stands) (he := stp rfl) (hpl := anp rfl)))))))
 (pss_one (ps_ret pe_non))
 pss_nil)
 (pss_cons (ps_if (PW.pt (pw_and (pt_cmpR op_eq (pe_var (i := 1) (x := "_law_kind") rfl (vis_of v_Lcost__law_kind) d__law_kind e__law_kind) pe_str (nomark _)) (pw_and1 (pt_cmpR op_eq (pe_call G_Lsign (HR.mono (by decide)) (gl_of g_Lcost__law_sign) T.mg_Lsign T.k_Lsign B_Lsign .nil pass0 (pa_cons (pe_var (i := 0) (x := "_law_rows") rfl (vis_of v_Lcost__law_rows) d__law_rows e__law_rows) (pa_cons (pe_var (i := 3) (x := "_law_other") rfl (vis_of v_Lcost__law_other) d__law_other e__law_other) pa_nil (stp rfl)) (stp rfl)) (hdb := d__law_sign) (he := stp rfl) (hpl := anp rfl)) pe_str (nomark _)))))
 (pss_one (ps_ret pe_int))
 pss_nil)
 (pss_cons (ps_if (PW.pt (pw_and (pt_cmpR op_eq (pe_var (i := 1) (x := "_law_kind") rfl (vis_of v_Lcost__law_kind) d__law_kind e__law_kind) pe_str (nomark _)) (pw_and1 (pt_cmpR op_ne (pe_op op_fdiv (pe_var (i := 2) (x := "_law_place") rfl (vis_of v_Lcost__law_place) d__law_place e__law_place) (pe_callB call_len_str (gl_of g_Lcost_len) T.b_len PyProof.Rows.Boot.«len» (pa_cons (pe_ix ix_list (pe_var (i := 0) (x := "_law_rows") rfl (vis_of v_Lcost__law_rows) d__law_rows e__law_rows) pe_int (fun _ _ => rfl)) pa_nil (stp rfl)) (hn := n_len) (hdb := d_len) (he := stp rfl) (hpl := anp rfl))) (pe_op op_fdiv (pe_var (i := 3) (x := "_law_other") rfl (vis_of v_Lcost__law_other) d__law_other e__law_other) (pe_callB call_len_str (gl_of g_Lcost_len) T.b_len PyProof.Rows.Boot.«len» (pa_cons (pe_ix ix_list (pe_var (i := 0) (x := "_law_rows") rfl (vis_of v_Lcost__law_rows) d__law_rows e__law_rows) pe_int (fun _ _ => rfl)) pa_nil (stp rfl)) (hn := n_len) (hdb := d_len) (he := stp rfl) (hpl := anp rfl))) (nomark _)))))
 (pss_one (ps_ret (pe_ifExp (pt_cmpR op_in_seq pe_str (pe_tup (pa_cons (pe_call G_Lsign (HR.mono (by decide)) (gl_of g_Lcost__law_sign) T.mg_Lsign T.k_Lsign B_Lsign .nil pass0 (pa_cons (pe_var (i := 0) (x := "_law_rows") rfl (vis_of v_Lcost__law_rows) d__law_rows e__law_rows) (pa_cons (pe_var (i := 2) (x := "_law_place") rfl (vis_of v_Lcost__law_place) d__law_place e__law_place) pa_nil (stp rfl)) (stp rfl)) (hdb := d__law_sign) (he := stp rfl) (hpl := anp rfl)) (pa_cons (pe_call G_Lsign (HR.mono (by decide)) (gl_of g_Lcost__law_sign) T.mg_Lsign T.k_Lsign B_Lsign .nil pass0 (pa_cons (pe_var (i := 0) (x := "_law_rows") rfl (vis_of v_Lcost__law_rows) d__law_rows e__law_rows) (pa_cons (pe_var (i := 3) (x := "_law_other") rfl (vis_of v_Lcost__law_other) d__law_other e__law_other) pa_nil (stp rfl)) (stp rfl)) (hdb := d__law_sign) (he := stp rfl) (hpl := anp rfl)) pa_nil (stp rfl)) (stp rfl))) (by with_unfolding_all rfl)) pe_int pe_non)))
 pss_nil)
 (pss_one (ps_ret pe_int))))), ?_⟩
    have w0 := g.w0
    have w1 := g.w1
    have h0 := g.h0
    have h1 := g.h1
    have len := g.len
    have l100 := len100 g
    have e0 : atI ((Fl.linesOf w h sg).map V.str) 0 = some (V.str (lineOf w sg 0)) := atI_nat (j := 0) (by rw [List.getElem?_map, lines_get (by omega)]; rfl)
    have eL := line_len g (show 0 < h by omega)
    have lh : ((Fl.linesOf w h sg).map V.str).length = h := by rw [List.length_map, lines_len]
    have em : ((w : Int) * (h : Int)) = ((sg.length : Nat) : Int) := by rw [len]; simp
    obtain ⟨k1, k2, k3⟩ := kx i x hi
    have rd : lawC i w sg c o = lawC i w sg c o := rfl
    conv at rd => rhs; unfold lawC
    refine tSeq_cut (fun σ H' => Same H H' ∧ o ∈ aroundOf w sg.length c ∧ stands i (sgI sg o) = true ∧ σ = [some (V.ref l), some (V.str x), some (V.int c), some (V.int o)]) (fun nx hk => ?_) ?_
    · walk_at "RD"
      refine ⟨l, w, h, sg, c, rfl, hL, g, fun r H1 nr s1 hr => ⟨r, rfl, _, .inl (SqL.of hr), rfl, by simp [flatV], ?_⟩⟩
      rw [in_ints]
      by_cases a1 : o ∈ aroundOf w sg.length c
      · rw [if_neg (by simp [a1])]
        refine ⟨l, w, h, sg, o, rfl, s1 _ _ hL, g, i, _, x, rfl, hi, _, rfl, ?_⟩
        by_cases a2 : stands i (sgI sg o) = true
        · rw [if_neg (by rw [a2]; decide)]
          exact hk _ _ ⟨s1, a1, a2, rfl⟩
        · rw [if_pos (by simpa using a2)]
          have z := hq H1 s1
          rw [rd, if_neg (fun y => a2 y.2)] at z
          exact z
      · rw [if_pos (by simp [a1])]
        have z := hq H1 s1
        rw [rd, if_neg (fun y => a1 y.1)] at z
        exact z
    rintro σ H1 ⟨s1, a1, a2, rfl⟩
    rw [if_pos ⟨a1, a2⟩] at rd
    have hL1 : LinesAt H1 l w h sg := s1 _ _ hL
    have one : i ≠ 1 → (¬ i = 2 ∨ c / (w : Int) = o / (w : Int)) → lawC i w sg c o = some 1 := fun i1 i2 => by
      rw [rd]
      match i, i1, i2 with
      | 0, _, _ => rfl
      | 1, a, _ => exact absurd rfl a
      | 2, _, .inl b => exact absurd rfl b
      | 2, _, .inr b => simp only [if_pos b]
      | (i + 3), _, _ => rfl
    walk_at "RD"
    by_cases e1 : i = 1
    · rw [if_pos (k1.mpr e1)]
      refine ⟨l, w, h, sg, o, rfl, hL1, g, rfl, ?_⟩
      have nr : ¬ x = Str.ofString "runner" := fun z => by have := k2.mp z; omega
      subst e1
      simp only at rd
      by_cases e3 : sgI sg o = 126
      · rw [if_pos (q126.mpr e3)]
        have z := hq H1 s1
        rw [rd, if_pos e3] at z
        exact z
      · rw [if_neg (fun z => e3 (q126.mp z)), if_neg nr]
        have z := hq H1 s1
        rw [rd, if_neg e3] at z
        exact z
    · rw [if_neg (fun z => e1 (k1.mp z))]
      by_cases e2 : i = 2
      · rw [if_pos (k2.mpr e2)]
        refine ⟨_, SqL.of hL1, _, e0, _, rfl, by rw [eL]; omega, by rw [eL]; exact ⟨by omega, by omega⟩, _, SqL.of hL1, _, e0, _, rfl, by rw [eL]; omega, by rw [eL]; exact ⟨by omega, by omega⟩, ?_⟩
        rw [eL]
        by_cases e3 : c / (w : Int) = o / (w : Int)
        · rw [if_neg (fun z => z e3)]
          have z := hq H1 s1
          rw [one e1 (.inr e3)] at z
          exact z
        · rw [if_pos e3]
          refine ⟨l, w, h, sg, c, rfl, hL1, g, l, w, h, sg, o, rfl, hL1, g, ?_⟩
          refine ⟨by omega, fun p hp => ⟨_, .inr (SqT.of upd_same), rfl, rfl, ?_⟩⟩
          have e5 : inV (V.str (Str.ofString "|")) [chr1 (sgI sg c), chr1 (sgI sg o)] = decide (sgI sg c = 124 ∨ sgI sg o = 124) := by
            have q : ∀ c : Nat, eqV (chr1 c) (V.str (Str.ofString "|")) = decide (c = 124) := fun c => by
              have e : eqV (chr1 c) (V.str (Str.ofString "|")) = ((⟨#[c]⟩ : Str) == Str.ofString "|") := rfl
              rw [e, Bool.eq_iff_iff, beq_iff_eq, decide_eq_true_iff]
              exact ⟨fun z => q124.mp (congrArg V.str z), fun z => V.str.inj (q124.mpr z)⟩
            simp only [inV, List.any_cons, List.any_nil, Bool.or_false]
            rw [q, q, Bool.decide_or]
          rw [e5]
          subst e2
          simp only [if_neg e3] at rd
          have z := hq _ (s1.trans (same_new (o := HO.tup [chr1 (sgI sg c), chr1 (sgI sg o)]) hp))
          by_cases e4 : sgI sg c = 124 ∨ sgI sg o = 124
          · rw [if_pos (decide_eq_true e4)]
            rw [rd, if_pos e4] at z
            exact z
          · rw [if_neg (fun z => e4 (of_decide_eq_true z))]
            rw [rd, if_neg e4] at z
            exact z
      · rw [if_neg (fun z => e2 (k2.mp z))]
        have z := hq H1 s1
        rw [one e1 (.inl e2)] at z
        exact z
theorem sc_Ldue : FnScope ["_law_rows", "_law_kind", "_law_full", "_law_cells_here", "_law_charge", "_law_place", "_law_found", "_law_k", "_law_gain", "_law_cost_here"] ["_law_rows", "_law_kind", "_law_full", "_law_cells_here", "_law_charge"] (defScope s_Ldue) := ⟨rfl, rfl, rfl, by decide +kernel, rfl, by decide +kernel, by decide +kernel⟩
set_option maxHeartbeats 4000000 in
theorem ok_Ldue {fd : FuncData} (F : Fun K "_law_due" "_law_due" s_Ldue ad.Ldue fd) (T : Txt K mg ad) {fd_Lstands : FuncData} (B_Lstands : Binds K fd_Lstands ["_law_kind", "_law_sign_here"] []) (G_Lstands : FnOk P w K mg base CX0 1 ad.Lstands fd_Lstands ["_law_kind", "_law_sign_here"] (spStands)) {fd_Lsign : FuncData} (B_Lsign : Binds K fd_Lsign ["_law_rows", "_law_place"] []) (G_Lsign : FnOk P w K mg base CX0 1 ad.Lsign fd_Lsign ["_law_rows", "_law_place"] (spSgI)) {fd_Lcost : FuncData} (B_Lcost : Binds K fd_Lcost ["_law_rows", "_law_kind", "_law_place", "_law_other"] []) (G_Lcost : FnOk P w K mg base CX0 2 ad.Lcost fd_Lcost ["_law_rows", "_law_kind", "_law_place", "_law_other"] (spCostW)) : FnOk P w K mg base CX0 3 ad.Ldue fd ["_law_rows", "_law_kind", "_law_full", "_law_cells_here", "_law_charge"] (spDue) := by
  refine F.ok sc_Ldue (fun vs H Q E h => ?_) (fun cdv A outer s H vs Q E HR h => ?_)
  · obtain ⟨l, q, x, i, w, h, sg, full, k, cs, rfl, _⟩ := h
    rfl
  · obtain ⟨l, q, x, i, w, h, sg, full, k, cs, rfl, hi, hL, g, hc, c0, cl, hq⟩ := h
    have ND := sc_Ldue.nd
    have HU0 := HR.units0
    have HU := HR.units
    have hA := HR.hd
    have hz : (100000 : Nat) ≤ sizeLine := by rw [sizeLine_eq]; decide
    refine ⟨_, (pss_cons (ps_for PassesOwn.never (calm0 rfl) (pi_tup (pe_var (i := 3) (x := "_law_cells_here") rfl (vis_of v_Ldue__law_cells_here) d__law_cells_here e__law_cells_here)) (pg_name (i := 5) ND rfl (loc_of (Or.inl l_Ldue__law_place)))
 (pss_one (ps_if (pt_not (pt_val (pe_call G_Lstands (HR.mono (by decide)) (gl_of g_Ldue__law_stands) T.mg_Lstands T.k_Lstands B_Lstands .nil pass0 (pa_cons (pe_var (i := 1) (x := "_law_kind") rfl (vis_of v_Ldue__law_kind) d__law_kind e__law_kind) (pa_cons (pe_call G_Lsign (HR.mono (by decide)) (gl_of g_Ldue__law_sign) T.mg_Lsign T.k_Lsign B_Lsign .nil pass0 (pa_cons (pe_var (i := 0) (x := "_law_rows") rfl (vis_of v_Ldue__law_rows) d__law_rows e__law_rows) (pa_cons (pe_var (i := 5) (x := "_law_place") rfl (vis_of v_Ldue__law_place) d__law_place e__law_place) pa_nil (stp rfl)) (stp rfl)) (hdb := d__law_sign) (he := stp rfl) (hpl := anp rfl)) pa_nil (stp rfl)) (stp rfl)) (hdb := d__law_stands) (he := stp rfl) (hpl := anp rfl))))
 (pss_one (ps_ret pe_non))
 pss_nil)))
 (pss_cons (ps_set (i := 6) ND rfl (loc_of (Or.inl l_Ldue__law_found)) (pe_lst (pa_cons (pe_var (i := 4) (x := "_law_charge") rfl (vis_of v_Ldue__law_charge) d__law_charge e__law_charge) pa_nil (stp rfl))))
 (pss_cons (ps_for PassesOwn.never (calm0 rfl) (pi_range2 (gl_of g_Ldue_range) T.b_range (pa_cons pe_int (pa_cons (pe_callB call_len_seq (gl_of g_Ldue_len) T.b_len PyProof.Rows.Boot.«len» (pa_cons (pe_var (i := 3) (x := "_law_cells_here") rfl (vis_of v_Ldue__law_cells_here) d__law_cells_here e__law_cells_here) pa_nil (stp rfl)) (hn := n_len) (hdb := d_len) (he := stp rfl) (hpl := anp rfl)) pa_nil (stp rfl)) (stp rfl)) (st2 rfl rfl) (st1 rfl)) (pg_name (i := 7) ND rfl (loc_of (Or.inl l_Ldue__law_k)))
 (pss_cons (ps_if (pt_cmpR op_eq (pe_ix ix_tup (pe_var (i := 3) (x := "_law_cells_here") rfl (vis_of v_Ldue__law_cells_here) d__law_cells_here e__law_cells_here) (pe_var (i := 7) (x := "_law_k") rfl (vis_of v_Ldue__law_k) d__law_k e__law_k) (fun _ _ => rfl)) (pe_ix ix_tup (pe_var (i := 3) (x := "_law_cells_here") rfl (vis_of v_Ldue__law_cells_here) d__law_cells_here e__law_cells_here) (pe_op op_sub (pe_var (i := 7) (x := "_law_k") rfl (vis_of v_Ldue__law_k) d__law_k e__law_k) pe_int) (fun _ _ => rfl)) (nomark _))
 (pss_cons (ps_set (i := 8) ND rfl (loc_of (Or.inl l_Ldue__law_gain)) (pe_op op_mul (pe_dget (hu1 HU) (pe_disp (pps_cons pe_str pe_int (pps_cons pe_str pe_int (pps_cons pe_str pe_int (pps_cons pe_str pe_int pps_nil)))) rfl rfl (by intro z; cases z) (by decide)) (pe_var (i := 1) (x := "_law_kind") rfl (vis_of v_Ldue__law_kind) d__law_kind e__law_kind) (fun _ _ => rfl)) (pe_callTy call_int1 (gl_of g_Ldue_int) T.b_int PyProof.Rows.Boot.«int» (pa_cons (pe_cmpR op_eq (pe_call G_Lsign (HR.mono (by decide)) (gl_of g_Ldue__law_sign) T.mg_Lsign T.k_Lsign B_Lsign .nil pass0 (pa_cons (pe_var (i := 0) (x := "_law_rows") rfl (vis_of v_Ldue__law_rows) d__law_rows e__law_rows) (pa_cons (pe_ix ix_tup (pe_var (i := 3) (x := "_law_cells_here") rfl (vis_of v_Ldue__law_cells_here) d__law_cells_here e__law_cells_here) (pe_var (i := 7) (x := "_law_k") rfl (vis_of v_Ldue__law_k) d__law_k e__law_k) (fun _ _ => rfl)) pa_nil (stp rfl)) (stp rfl)) (hdb := d__law_sign) (he := stp rfl) (hpl := anp rfl)) pe_str (nomark _)) pa_nil (stp rfl)) (hn := n_int) (hdb := d_int) (he := stp rfl) (hpl := anp rfl))))
 (pss_one (ps_set (i := 4) ND rfl (loc_of (Or.inl l_Ldue__law_charge)) (pe_callB (call_min2 rfl) (gl_of g_Ldue_min) T.b_min PyProof.Rows.Boot.«min» (pa_cons (pe_var (i := 2) (x := "_law_full") rfl (vis_of v_Ldue__law_full) d__law_full e__law_full) (pa_cons (pe_op op_add (pe_var (i := 4) (x := "_law_charge") rfl (vis_of v_Ldue__law_charge) d__law_charge e__law_charge) (pe_var (i := 8) (x := "_law_gain") rfl (vis_of v_Ldue__law_gain) d__law_gain e__law_gain)) pa_nil (stp rfl)) (stp rfl)) (hn := n_min) (hdb := d_min) (he := stp rfl) (hpl := anp rfl)))))
 (pss_cons (ps_set (i := 9) ND rfl (loc_of (Or.inl l_Ldue__law_cost_here)) (pe_call G_Lcost (HR.mono (by decide)) (gl_of g_Ldue__law_cost) T.mg_Lcost T.k_Lcost B_Lcost .nil pass0 (pa_cons (pe_var (i := 0) (x := "_law_rows") rfl (vis_of v_Ldue__law_rows) d__law_rows e__law_rows) (pa_cons (pe_var (i := 1) (x := "_law_kind") rfl (vis_of v_Ldue__law_kind) d__law_kind e__law_kind) (pa_cons (pe_ix ix_tup (pe_var (i := 3) (x := "_law_cells_here") rfl (vis_of v_Ldue__law_cells_here) d__law_cells_here e__law_cells_here) (pe_op op_sub (pe_var (i := 7) (x := "_law_k") rfl (vis_of v_Ldue__law_k) d__law_k e__law_k) pe_int) (fun _ _ => rfl)) (pa_cons (pe_ix ix_tup (pe_var (i := 3) (x := "_law_cells_here") rfl (vis_of v_Ldue__law_cells_here) d__law_cells_here e__law_cells_here) (pe_var (i := 7) (x := "_law_k") rfl (vis_of v_Ldue__law_k) d__law_k e__law_k) (fun _ _ => rfl)) pa_nil (stp rfl)) (stp rfl)) (stp rfl)) (stp rfl)) (hdb := d__law_cost) (he := stp rfl) (hpl := anp rfl)))
 (pss_cons (ps_if (PW.pt (pw_or (pt_cmpR op_isN (pe_var (i := 9) (x := "_law_cost_here") rfl (vis_of v_Ldue__law_cost_here) d__law_cost_here e__law_cost_here) pe_non (nomark _)) (pw_or1 (pt_cmpR op_gt (pe_var (i := 9) (x := "_law_cost_here") rfl (vis_of v_Ldue__law_cost_here) d__law_cost_here e__law_cost_here) (pe_var (i := 4) (x := "_law_charge") rfl (vis_of v_Ldue__law_charge) d__law_charge e__law_charge) (nomark _)))))
 (pss_one (ps_ret pe_non))
 pss_nil)
 (pss_one (ps_aug (i := 4) ND rfl (loc_of (Or.inl l_Ldue__law_charge)) (pe_var (i := 9) (x := "_law_cost_here") rfl (vis_of v_Ldue__law_cost_here) d__law_cost_here e__law_cost_here) ip_sub)))))
 (pss_one (ps_expr (pe_bm PySem.F.plainAttrs_list PySem.F.slot_list_append PySem.F.type_list_append mt_append (pe_var (i := 6) (x := "_law_found") rfl (vis_of v_Ldue__law_found) d__law_found e__law_found) (pa_cons (pe_var (i := 4) (x := "_law_charge") rfl (vis_of v_Ldue__law_charge) d__law_charge e__law_charge) pa_nil (stp rfl)))))))
 (pss_one (ps_ret (pe_var (i := 6) (x := "_law_found") rfl (vis_of v_Ldue__law_found) d__law_found e__law_found)))))), ?_⟩
    obtain ⟨k1, k2, k3⟩ := kx i x hi
    have dg : ∀ (H : Hp) (p : Addr), DGet (upd (upd H p (HO.dK [])) p (HO.dK (mergeK [] [((Sum.inr "carrier" : Key), V.int 2), (Sum.inr "cart", .int 2), (Sum.inr "crawler", .int 1), (Sum.inr "runner", .int 3)]))) p (V.str x) (some (.int (gainOf i 43))) := fun H p => by
      have dg := DGet.k (H := upd (upd H p (HO.dK [])) p (HO.dK (mergeK [] [((Sum.inr "carrier" : Key), V.int 2), (Sum.inr "cart", .int 2), (Sum.inr "crawler", .int 1), (Sum.inr "runner", .int 3)]))) (k := Sum.inr x) upd_same
      have ev : valV (mergeK [] [((Sum.inr "carrier" : Key), V.int 2), (Sum.inr "cart", .int 2), (Sum.inr "crawler", .int 1), (Sum.inr "runner", .int 3)]) (Sum.inr x) = some (.int (gainOf i 43)) := by
        match i, hi with
        | 0, hi => cases hi; decide +kernel
        | 1, hi => cases hi; decide +kernel
        | 2, hi => cases hi; decide +kernel
        | 3, hi => cases hi; decide +kernel
        | (i + 4), hi => simp [kindsL] at hi
      rw [ev] at dg
      exact dg
    have gb : 1 ≤ gainOf i 43 ∧ gainOf i 43 ≤ 3 := by
      match i with
      | 0 => decide
      | 1 => decide
      | 2 => decide
      | (i + 3) => simp [gainOf]
    obtain ⟨c, r, rfl⟩ : ∃ c r, cs = c :: r := by cases cs with | nil => exact absurd rfl c0 | cons c r => exact ⟨c, r, rfl⟩
    refine tSeq_cut (fun σ H' => H' = H ∧ (∀ o ∈ c :: r, stands i (sgI sg o) = true) ∧ ∃ x5, σ = [some (V.ref l), some (V.str x), some (V.int full), some (V.ref q), some (V.int k), x5, none, none, none, none]) (fun nx hk => ?_) ?_
    · walk_at "RD"
      refine ⟨⟨_, SqT.of hc⟩, for_tup (K := K) (a := q) (xs := (c :: r).map V.int) (fun j σ H' => H' = H ∧ (∀ o ∈ (c :: r).take j, stands i (sgI sg o) = true) ∧ ∃ x5, σ = [some (V.ref l), some (V.str x), some (V.int full), some (V.ref q), some (V.int k), x5, none, none, none, none]) ⟨rfl, by simp, none, rfl⟩ ?_ ?_ ?_⟩
      · rintro j σ H' hj ⟨rfl, _, _, _⟩
        exact SqT.of hc
      · rintro j y σ H' hy ⟨rfl, ih, x5, rfl⟩
        rw [List.getElem?_map] at hy
        obtain ⟨o, ho, rfl⟩ := Option.map_eq_some_iff.mp hy
        walk_at "RD"
        refine ⟨l, w, h, sg, o, rfl, hL, g, i, _, x, rfl, hi, _, rfl, ?_⟩
        by_cases a2 : stands i (sgI sg o) = true
        · rw [if_neg (by rw [a2]; decide)]
          refine ⟨rfl, fun o' ho' => ?_, _, rfl⟩
          rw [List.take_add_one, ho] at ho'
          rcases List.mem_append.mp ho' with z | z
          · exact ih o' z
          · have : o' = o := by simpa using z
            rw [this]
            exact a2
        · rw [if_pos (by simpa using a2)]
          have z := hq H' (Same.refl _)
          simp only [dueOf] at z
          rw [if_neg (fun y => a2 (List.all_eq_true.mp y o (List.mem_of_getElem? ho)))] at z
          exact z
      · rintro σ H' ⟨rfl, ih, x5, rfl⟩
        rw [List.length_map, List.take_length] at ih
        exact hk _ _ ⟨rfl, ih, x5, rfl⟩
    rintro σ H1 ⟨rfl, al, x5, rfl⟩
    refine tSeq_cut (fun σ H' => ∃ t, H1 t = none ∧ H' = upd H1 t (.lst [V.int k]) ∧ σ = [some (V.ref l), some (V.str x), some (V.int full), some (V.ref q), some (V.int k), x5, some (V.ref t), none, none, none]) (fun nx hk => ?_) ?_
    · walk_at "RD"
      exact ⟨by omega, fun t nt => hk _ _ ⟨t, nt, rfl, rfl⟩⟩
    rintro σ H2 ⟨t, nt, rfl, rfl⟩
    have z0 : ∀ H', Same H1 H' → match (dueC i w sg full c k r).map fun ks => k :: ks with | some ks => ∀ r, H1 r = none → H' r = some (.lst (ks.map V.int)) → Q (.ref r) H' | none => Q .non H' := fun H' s => by
      have z := hq H' s
      simp only [dueOf] at z
      rw [if_pos (List.all_eq_true.mpr al)] at z
      exact z
    refine tSeq_cut (fun σ H' => ∃ x4 x7 x8 x9 ks, Same H1 H' ∧ H' t = some (.lst (ks.map V.int)) ∧ (dueC i w sg full c k r).map (fun ys => k :: ys) = some ks ∧ σ = [some (V.ref l), some (V.str x), some (V.int full), some (V.ref q), x4, x5, some (V.ref t), x7, x8, x9]) (fun nx hk => ?_) ?_
    · walk_at "RD"
      refine ⟨_, .inr (SqT.of ((same_new nt) _ _ hc)), ?_⟩
      rw [List.length_map, List.length_cons]
      simp only [List.length_cons] at cl
      refine ⟨by omega, by omega, by omega, by omega, ?_⟩
      have en : (((r.length + 1 : Nat) : Int) - 1).toNat = r.length := by omega
      rw [en]
      refine for_range (lo := 1) (n := r.length) (fun j σ H' => ∃ x7 x8 x9 ks kc cj, Same H1 H' ∧ H' t = some (.lst ((ks ++ [kc]).map V.int)) ∧ ks.length = j ∧ (c :: r)[j]? = some cj ∧ (dueC i w sg full c k r).map (fun ys => k :: ys) = (dueC i w sg full cj kc (r.drop j)).map (fun ys => ks ++ kc :: ys) ∧ σ = [some (V.ref l), some (V.str x), some (V.int full), some (V.ref q), some (V.int kc), x5, some (V.ref t), x7, x8, x9]) ⟨none, none, none, [], k, c, same_new nt, upd_same, rfl, rfl, rfl, rfl⟩ ?_ ?_
      · rintro j σ H' hj ⟨x7, x8, x9, ks, kc, cj, s5, ht, hks, hcj, hwk, rfl⟩
        obtain ⟨o, ho⟩ : ∃ o, r[j]? = some o := ⟨_, List.getElem?_eq_getElem hj⟩
        have e1 : r.drop j = o :: r.drop (j + 1) := by
          rw [List.drop_eq_getElem_cons hj]
          have := (List.getElem?_eq_some_iff.mp ho).2
          rw [this]
        have hq5 := s5 _ _ hc
        have eb : (1 + (j : Int)) - 1 = ((j : Nat) : Int) := by omega
        have ec : (1 + (j : Int)) = ((j + 1 : Nat) : Int) := by omega
        have ao : atI ((c :: r).map V.int) ((j + 1 : Nat) : Int) = some (V.int o) := atI_nat (by rw [List.getElem?_map, List.getElem?_cons_succ, ho]; rfl)
        have ac : atI ((c :: r).map V.int) ((j : Nat) : Int) = some (V.int cj) := atI_nat (by rw [List.getElem?_map, hcj]; rfl)
        rw [e1] at hwk
        simp only [dueC] at hwk
        have hL5 : LinesAt H' l w h sg := s5 _ _ hL
        refine tSeq_cut (fun σ H'' => ∃ x7 x8 x9 kn, Same H' H'' ∧ H'' t = some (.lst ((ks ++ [kc]).map V.int)) ∧ dueN i w sg full cj kc o = some kn ∧ σ = [some (V.ref l), some (V.str x), some (V.int full), some (V.ref q), some (V.int kn), x5, some (V.ref t), x7, x8, x9]) (fun nx hk => ?_) ?_
        · walk_at "RD"
          rw [eb, ec]
          refine ⟨_, SqT.of hq5, _, ao, _, SqT.of hq5, _, ac, rfl, ?_⟩
          by_cases eo : o = cj
          · rw [if_pos (congrArg V.int eo)]
            intro p np
            have S : Same H' (upd (upd H' p (HO.dK [])) p (HO.dK (mergeK [] [((Sum.inr "carrier" : Key), V.int 2), (Sum.inr "cart", .int 2), (Sum.inr "crawler", .int 1), (Sum.inr "runner", .int 3)]))) := by
              rw [upd_upd]
              exact same_new np
            refine ⟨upd_same, [(Sum.inr "carrier", .int 2), (Sum.inr "cart", .int 2), (Sum.inr "crawler", .int 1), (Sum.inr "runner", .int 3)], rfl, by decide, _, dg H' p, _, SqT.of (S _ _ hq5), _, ao, l, w, h, sg, o, rfl, S _ _ hL5, g, rfl, .inr ⟨_, rfl, ?_, ?_⟩⟩
            · exact .inl ⟨by omega, by omega⟩
            · refine hk _ _ ⟨_, _, _, _, S, S _ _ ht, ?_, rfl⟩
              unfold dueN
              rw [if_pos eo]
              congr 1
              have eg : gainOf i (sgI sg o) = gainOf i 43 * (if chr1 (sgI sg o) = V.str (Str.ofString "+") then 1 else 0) := by
                by_cases e43 : sgI sg o = 43
                · rw [if_pos (q43.mpr e43), e43, Int.mul_one]
                · rw [if_neg (fun z => e43 (q43.mp z)), Int.mul_zero]
                  simp [gainOf, e43]
              rw [← eg]
              split <;> omega
          · rw [if_neg (fun z => eo (V.int.inj z))]
            refine ⟨_, SqT.of hq5, _, ac, _, SqT.of hq5, _, ao, l, x, i, w, h, sg, cj, o, rfl, hi, hL5, g, fun H6 s6 => ?_⟩
            cases hcc : lawC i w sg cj o with
            | none =>
              have hdn : dueN i w sg full cj kc o = none := by unfold dueN; rw [if_neg eo, hcc]; rfl
              rw [hdn] at hwk
              rw [if_pos (show optV none = V.non from rfl)]
              have z := z0 H6 (s5.trans s6)
              rw [hwk] at z
              exact z
            | some y =>
              rw [if_neg (by simp [optV])]
              refine ⟨y, rfl, ?_⟩
              by_cases lt : kc < y
              · rw [if_pos lt]
                have hdn : dueN i w sg full cj kc o = none := by unfold dueN; rw [if_neg eo, hcc, Option.bind_some, if_pos lt]
                rw [hdn] at hwk
                have z := z0 H6 (s5.trans s6)
                rw [hwk] at z
                exact z
              · rw [if_neg lt]
                refine ⟨y, rfl, hk _ _ ⟨_, _, _, kc - y, s6, s6 _ _ ht, ?_, rfl⟩⟩
                unfold dueN
                rw [if_neg eo, hcc, Option.bind_some, if_neg lt]
        rintro σ H6 ⟨x7, x8, x9, kn, s6, ht6, hn, rfl⟩
        rw [hn] at hwk
        walk_at "RD"
        refine ⟨.inl ⟨rfl, _, SqL.of ht6⟩, _, ht6, by simp; omega, same_upd (s5.trans s6) nt, _, _, _, ks ++ [kc], kn, by rw [upd_same]; simp, by simp [hks], o, ho, ?_, rfl, rfl, rfl, rfl⟩
        rw [hwk]
        simp [Option.map_map, Function.comp_def]
      · rintro σ H' ⟨x7, x8, x9, ks, kc, cj, s5, ht, hks, hcj, hwk, rfl⟩
        rw [List.drop_length] at hwk
        simp only [dueC, Option.map_some] at hwk
        exact hk _ _ ⟨_, x7, x8, x9, _, s5, ht, hwk, rfl⟩
    rintro σ H3 ⟨x4, x7, x8, x9, ks, s3, ht, hd, rfl⟩
    walk_at "RD"
    have z := z0 H3 s3
    rw [hd] at z
    exact z t nt ht
theorem sc_Lcells : FnScope ["_law_script", "_law_rows", "_law_kind", "_law_some", "_law_cells_here", "_law_size", "_law_k", "_law_number", "_law_near", "_law_good"] ["_law_script", "_law_rows", "_law_kind"] (defScope s_Lcells) := ⟨rfl, rfl, rfl, by decide +kernel, rfl, by decide +kernel, by decide +kernel⟩
set_option maxHeartbeats 4000000 in
theorem ok_Lcells {fd : FuncData} (F : Fun K "_law_cells" "_law_cells" s_Lcells ad.Lcells fd) (T : Txt K mg ad) {fd_Lstands : FuncData} (B_Lstands : Binds K fd_Lstands ["_law_kind", "_law_sign_here"] []) (G_Lstands : FnOk P w K mg base CX0 1 ad.Lstands fd_Lstands ["_law_kind", "_law_sign_here"] (spStands)) {fd_Lsign : FuncData} (B_Lsign : Binds K fd_Lsign ["_law_rows", "_law_place"] []) (G_Lsign : FnOk P w K mg base CX0 1 ad.Lsign fd_Lsign ["_law_rows", "_law_place"] (spSgI)) {fd_Lmixed : FuncData} (B_Lmixed : Binds K fd_Lmixed ["_law_cell", "_law_k"] []) (G_Lmixed : FnOk P w K mg base CX0 1 ad.Lmixed fd_Lmixed ["_law_cell", "_law_k"] (spMixedW)) {fd_Lcell_at : FuncData} (B_Lcell_at : Binds K fd_Lcell_at ["_law_script", "_law_k"] []) (G_Lcell_at : FnOk P w K mg base CX0 1 ad.Lcell_at fd_Lcell_at ["_law_script", "_law_k"] (spCell K)) {fd_Laround : FuncData} (B_Laround : Binds K fd_Laround ["_law_rows", "_law_place"] []) (G_Laround : FnOk P w K mg base CX0 1 ad.Laround fd_Laround ["_law_rows", "_law_place"] (spAround)) {fd_Lcost : FuncData} (B_Lcost : Binds K fd_Lcost ["_law_rows", "_law_kind", "_law_place", "_law_other"] []) (G_Lcost : FnOk P w K mg base CX0 2 ad.Lcost fd_Lcost ["_law_rows", "_law_kind", "_law_place", "_law_other"] (spCostW)) : FnOk P w K mg base CX0 3 ad.Lcells fd ["_law_script", "_law_rows", "_law_kind"] (spCellsW K) := by
  refine F.ok sc_Lcells (fun vs H Q E h => ?_) (fun cdv A outer s H vs Q E HR h => ?_)
  · obtain ⟨a, l, ns, x, i, w, h, sg, rfl, _⟩ := h
    rfl
  · obtain ⟨a, l, ns, x, i, w, h, sg, rfl, hS, hb, hi, hL, g, hq⟩ := h
    have ND := sc_Lcells.nd
    have HU0 := HR.units0
    have HU := HR.units
    have hA := HR.hd
    have hz : (100000 : Nat) ≤ sizeLine := by rw [sizeLine_eq]; decide
    refine ⟨_, (pss_cons (ps_comp (i := 3) (CompScope.of (osc := defScope s_Lcells) (tn := ["_law_place"]) (cn := ["_law_kind", "_law_rows"]) (caps := [2, 1]) rfl rfl (by decide +kernel) (by decide +kernel) (by decide +kernel) (by decide +kernel) rfl) (calm0 rfl) ND rfl l_Lcells__law_some (pi_range1 (gl_of g_Lcells_range) T.b_range (pa_cons (pe_op op_mul (pe_callB call_len_seq (gl_of g_Lcells_len) T.b_len PyProof.Rows.Boot.«len» (pa_cons (pe_var (i := 1) (x := "_law_rows") rfl (vis_of v_Lcells__law_rows) d__law_rows e__law_rows) pa_nil (stp rfl)) (hn := n_len) (hdb := d_len) (he := stp rfl) (hpl := anp rfl)) (pe_callB call_len_str (gl_of g_Lcells_len) T.b_len PyProof.Rows.Boot.«len» (pa_cons (pe_ix ix_list (pe_var (i := 1) (x := "_law_rows") rfl (vis_of v_Lcells__law_rows) d__law_rows e__law_rows) pe_int (fun _ _ => rfl)) pa_nil (stp rfl)) (hn := n_len) (hdb := d_len) (he := stp rfl) (hpl := anp rfl))) pa_nil (stp rfl)) (st1 rfl))
 (fun _ _ _ _ _ => (pg_name (i := 0) (show (["_law_place", "_law_kind", "_law_rows"] : List Str).Nodup by decide +kernel) rfl (Or.inl rfl))) (fun _ _ _ _ _ => (pts_one (pt_val (pe_call G_Lstands (HR.mono (by decide)) (by rfl) T.mg_Lstands T.k_Lstands B_Lstands .nil pass0 (pa_cons (pv 1) (pa_cons (pe_call G_Lsign (HR.mono (by decide)) (by rfl) T.mg_Lsign T.k_Lsign B_Lsign .nil pass0 (pa_cons (pv 2) (pa_cons (pv 0) pa_nil (stp rfl)) (stp rfl)) (hdb := d__law_sign) (he := stp rfl) (hpl := anp rfl)) pa_nil (stp rfl)) (stp rfl)) (hdb := d__law_stands) (he := stp rfl) (hpl := anp rfl))))) (fun _ _ _ _ _ => (pv 0)) (hsw := by rfl))
 (pss_cons (ps_set (i := 4) ND rfl (loc_of (Or.inr l_Lcells__law_cells_here)) (pe_lst (pa_cons (pe_ix ix_list (pe_op op_cat (pe_var (i := 3) (x := "_law_some") rfl (vis_of v_Lcells__law_some) d__law_some e__law_some) (pe_lst (pa_cons pe_int pa_nil (stp rfl)))) (pe_op op_mod (pe_op op_fdiv (pe_call G_Lmixed (HR.mono (by decide)) (gl_of g_Lcells__law_mixed) T.mg_Lmixed T.k_Lmixed B_Lmixed .nil pass0 (pa_cons (pe_call G_Lcell_at (HR.mono (by decide)) (gl_of g_Lcells__law_cell_at) T.mg_Lcell_at T.k_Lcell_at B_Lcell_at .nil pass0 (pa_cons (pe_var (i := 0) (x := "_law_script") rfl (vis_of v_Lcells__law_script) d__law_script e__law_script) (pa_cons pe_int pa_nil (stp rfl)) (stp rfl)) (hdb := d__law_cell_at) (he := stp rfl) (hpl := anp rfl)) (pa_cons pe_int pa_nil (stp rfl)) (stp rfl)) (hdb := d__law_mixed) (he := stp rfl) (hpl := anp rfl)) pe_int) (pe_callB (call_max2 rfl) (gl_of g_Lcells_max) T.b_max PyProof.Rows.Boot.«max» (pa_cons pe_int (pa_cons (pe_callB call_len_seq (gl_of g_Lcells_len) T.b_len PyProof.Rows.Boot.«len» (pa_cons (pe_var (i := 3) (x := "_law_some") rfl (vis_of v_Lcells__law_some) d__law_some e__law_some) pa_nil (stp rfl)) (hn := n_len) (hdb := d_len) (he := stp rfl) (hpl := anp rfl)) pa_nil (stp rfl)) (stp rfl)) (hn := n_max) (hdb := d_max) (he := stp rfl) (hpl := anp rfl))) (fun _ _ => rfl)) pa_nil (stp rfl))))
 (pss_cons (ps_set (i := 5) ND rfl (loc_of (Or.inl l_Lcells__law_size)) (pe_op op_add pe_int (pe_op op_mod (pe_call G_Lcell_at (HR.mono (by decide)) (gl_of g_Lcells__law_cell_at) T.mg_Lcell_at T.k_Lcell_at B_Lcell_at .nil pass0 (pa_cons (pe_var (i := 0) (x := "_law_script") rfl (vis_of v_Lcells__law_script) d__law_script e__law_script) (pa_cons pe_int pa_nil (stp rfl)) (stp rfl)) (hdb := d__law_cell_at) (he := stp rfl) (hpl := anp rfl)) pe_int)))
 (pss_cons (ps_if (pt_cmpR op_eq (pe_op op_mod (pe_op op_fdiv (pe_call G_Lcell_at (HR.mono (by decide)) (gl_of g_Lcells__law_cell_at) T.mg_Lcell_at T.k_Lcell_at B_Lcell_at .nil pass0 (pa_cons (pe_var (i := 0) (x := "_law_script") rfl (vis_of v_Lcells__law_script) d__law_script e__law_script) (pa_cons pe_int pa_nil (stp rfl)) (stp rfl)) (hdb := d__law_cell_at) (he := stp rfl) (hpl := anp rfl)) pe_int) pe_int) pe_int (nomark _))
 (pss_one (ps_set (i := 5) ND rfl (loc_of (Or.inl l_Lcells__law_size)) pe_int))
 pss_nil)
 (pss_cons (ps_for PassesOwn.never (calm0 rfl) (pi_range2 (gl_of g_Lcells_range) T.b_range (pa_cons pe_int (pa_cons (pe_var (i := 5) (x := "_law_size") rfl (vis_of v_Lcells__law_size) d__law_size e__law_size) pa_nil (stp rfl)) (stp rfl)) (st2 rfl rfl) (st1 rfl)) (pg_name (i := 6) ND rfl (loc_of (Or.inl l_Lcells__law_k)))
 (pss_cons (ps_set (i := 7) ND rfl (loc_of (Or.inl l_Lcells__law_number)) (pe_call G_Lmixed (HR.mono (by decide)) (gl_of g_Lcells__law_mixed) T.mg_Lmixed T.k_Lmixed B_Lmixed .nil pass0 (pa_cons (pe_call G_Lcell_at (HR.mono (by decide)) (gl_of g_Lcells__law_cell_at) T.mg_Lcell_at T.k_Lcell_at B_Lcell_at .nil pass0 (pa_cons (pe_var (i := 0) (x := "_law_script") rfl (vis_of v_Lcells__law_script) d__law_script e__law_script) (pa_cons (pe_op op_add pe_int (pe_op op_mod (pe_var (i := 6) (x := "_law_k") rfl (vis_of v_Lcells__law_k) d__law_k e__law_k) pe_int)) pa_nil (stp rfl)) (stp rfl)) (hdb := d__law_cell_at) (he := stp rfl) (hpl := anp rfl)) (pa_cons (pe_var (i := 6) (x := "_law_k") rfl (vis_of v_Lcells__law_k) d__law_k e__law_k) pa_nil (stp rfl)) (stp rfl)) (hdb := d__law_mixed) (he := stp rfl) (hpl := anp rfl)))
 (pss_cons (ps_set (i := 8) ND rfl (loc_of (Or.inl l_Lcells__law_near)) (pe_call G_Laround (HR.mono (by decide)) (gl_of g_Lcells__law_around) T.mg_Laround T.k_Laround B_Laround .nil pass0 (pa_cons (pe_var (i := 1) (x := "_law_rows") rfl (vis_of v_Lcells__law_rows) d__law_rows e__law_rows) (pa_cons (pe_ix ix_list (pe_var (i := 4) (x := "_law_cells_here") rfl (vis_of v_Lcells__law_cells_here) d__law_cells_here e__law_cells_here) (pe_un un_neg pe_int) (fun _ _ => rfl)) pa_nil (stp rfl)) (stp rfl)) (hdb := d__law_around) (he := stp rfl) (hpl := anp rfl)))
 (pss_cons (ps_comp (i := 9) (CompScope.of (osc := defScope s_Lcells) (tn := ["_law_other"]) (cn := ["_law_rows", "_law_kind", "_law_cells_here"]) (caps := [1, 2, 4]) rfl rfl (by decide +kernel) (by decide +kernel) (by decide +kernel) (by decide +kernel) rfl) (calm0 rfl) ND rfl l_Lcells__law_good (pi_list (pe_var (i := 8) (x := "_law_near") rfl (vis_of v_Lcells__law_near) d__law_near e__law_near))
 (fun _ _ _ _ _ => (pg_name (i := 0) (show (["_law_other", "_law_rows", "_law_kind", "_law_cells_here"] : List Str).Nodup by decide +kernel) rfl (Or.inl rfl))) (fun _ _ _ _ _ => (pts_one (pt_cmpR op_notN (pe_call G_Lcost (HR.mono (by decide)) (by rfl) T.mg_Lcost T.k_Lcost B_Lcost .nil pass0 (pa_cons (pv 1) (pa_cons (pv 2) (pa_cons (pe_ix (ix_listK (K := K) rfl) (pv 3) (pe_un un_neg pe_int) (fun _ _ => rfl)) (pa_cons (pv 0) pa_nil (stp rfl)) (stp rfl)) (stp rfl)) (stp rfl)) (hdb := d__law_cost) (he := stp rfl) (hpl := anp rfl)) pe_non (nomark _)))) (fun _ _ _ _ _ => (pv 0)) (hsw := by rfl))
 (pss_one (ps_if (PW.pt (pw_and (pt_cmpR op_eq (pe_op op_mod (pe_var (i := 7) (x := "_law_number") rfl (vis_of v_Lcells__law_number) d__law_number e__law_number) pe_int) pe_int (nomark _)) (pw_and1 (pt_cmpR op_eq (pe_op op_mod (pe_op op_fdiv (pe_var (i := 7) (x := "_law_number") rfl (vis_of v_Lcells__law_number) d__law_number e__law_number) pe_int) pe_int) pe_int (nomark _)))))
 (pss_one (ps_expr (pe_bm PySem.F.plainAttrs_list PySem.F.slot_list_append PySem.F.type_list_append mt_append (pe_var (i := 4) (x := "_law_cells_here") rfl (vis_of v_Lcells__law_cells_here) d__law_cells_here e__law_cells_here) (pa_cons (pe_op op_mod (pe_op op_fdiv (pe_var (i := 7) (x := "_law_number") rfl (vis_of v_Lcells__law_number) d__law_number e__law_number) pe_int) (pe_op op_add (pe_op op_mul (pe_callB call_len_seq (gl_of g_Lcells_len) T.b_len PyProof.Rows.Boot.«len» (pa_cons (pe_var (i := 1) (x := "_law_rows") rfl (vis_of v_Lcells__law_rows) d__law_rows e__law_rows) pa_nil (stp rfl)) (hn := n_len) (hdb := d_len) (he := stp rfl) (hpl := anp rfl)) (pe_callB call_len_str (gl_of g_Lcells_len) T.b_len PyProof.Rows.Boot.«len» (pa_cons (pe_ix ix_list (pe_var (i := 1) (x := "_law_rows") rfl (vis_of v_Lcells__law_rows) d__law_rows e__law_rows) pe_int (fun _ _ => rfl)) pa_nil (stp rfl)) (hn := n_len) (hdb := d_len) (he := stp rfl) (hpl := anp rfl))) pe_int)) pa_nil (stp rfl)))))
 (pss_one (ps_if (PW.pt (pw_and (pt_cmpR op_eq (pe_op op_mod (pe_var (i := 7) (x := "_law_number") rfl (vis_of v_Lcells__law_number) d__law_number e__law_number) pe_int) pe_int (nomark _)) (pw_and1 (pt_cmpR op_eq (pe_op op_mod (pe_op op_fdiv (pe_var (i := 7) (x := "_law_number") rfl (vis_of v_Lcells__law_number) d__law_number e__law_number) pe_int) pe_int) pe_int (nomark _)))))
 (pss_one (ps_expr (pe_bm PySem.F.plainAttrs_list PySem.F.slot_list_append PySem.F.type_list_append mt_append (pe_var (i := 4) (x := "_law_cells_here") rfl (vis_of v_Lcells__law_cells_here) d__law_cells_here e__law_cells_here) (pa_cons (pe_ix ix_list (pe_op op_cat (pe_var (i := 8) (x := "_law_near") rfl (vis_of v_Lcells__law_near) d__law_near e__law_near) (pe_lst (pa_cons (pe_ix ix_list (pe_var (i := 4) (x := "_law_cells_here") rfl (vis_of v_Lcells__law_cells_here) d__law_cells_here e__law_cells_here) (pe_un un_neg pe_int) (fun _ _ => rfl)) pa_nil (stp rfl)))) (pe_op op_mod (pe_op op_fdiv (pe_var (i := 7) (x := "_law_number") rfl (vis_of v_Lcells__law_number) d__law_number e__law_number) pe_int) (pe_op op_add pe_int (pe_callB call_len_seq (gl_of g_Lcells_len) T.b_len PyProof.Rows.Boot.«len» (pa_cons (pe_var (i := 8) (x := "_law_near") rfl (vis_of v_Lcells__law_near) d__law_near e__law_near) pa_nil (stp rfl)) (hn := n_len) (hdb := d_len) (he := stp rfl) (hpl := anp rfl)))) (fun _ _ => rfl)) pa_nil (stp rfl)))))
 (pss_one (ps_if (PW.pt (pw_and (pt_cmpR op_gt (pe_op op_mod (pe_op op_fdiv (pe_var (i := 7) (x := "_law_number") rfl (vis_of v_Lcells__law_number) d__law_number e__law_number) pe_int) pe_int) pe_int (nomark _)) (pw_and1 (pt_cmpR (op_neD HU) (pe_var (i := 9) (x := "_law_good") rfl (vis_of v_Lcells__law_good) d__law_good e__law_good) (pe_lst pa_nil) (nomark _)))))
 (pss_one (ps_expr (pe_bm PySem.F.plainAttrs_list PySem.F.slot_list_append PySem.F.type_list_append mt_append (pe_var (i := 4) (x := "_law_cells_here") rfl (vis_of v_Lcells__law_cells_here) d__law_cells_here e__law_cells_here) (pa_cons (pe_ix ix_list (pe_var (i := 9) (x := "_law_good") rfl (vis_of v_Lcells__law_good) d__law_good e__law_good) (pe_op op_mod (pe_op op_fdiv (pe_var (i := 7) (x := "_law_number") rfl (vis_of v_Lcells__law_number) d__law_number e__law_number) pe_int) (pe_callB call_len_seq (gl_of g_Lcells_len) T.b_len PyProof.Rows.Boot.«len» (pa_cons (pe_var (i := 9) (x := "_law_good") rfl (vis_of v_Lcells__law_good) d__law_good e__law_good) pa_nil (stp rfl)) (hn := n_len) (hdb := d_len) (he := stp rfl) (hpl := anp rfl))) (fun _ _ => rfl)) pa_nil (stp rfl)))))
 (pss_one (ps_expr (pe_bm PySem.F.plainAttrs_list PySem.F.slot_list_append PySem.F.type_list_append mt_append (pe_var (i := 4) (x := "_law_cells_here") rfl (vis_of v_Lcells__law_cells_here) d__law_cells_here e__law_cells_here) (pa_cons (pe_ix ix_list (pe_var (i := 4) (x := "_law_cells_here") rfl (vis_of v_Lcells__law_cells_here) d__law_cells_here e__law_cells_here) (pe_un un_neg pe_int) (fun _ _ => rfl)) pa_nil (stp rfl)))))))))))))))
 (pss_cons (ps_if (pt_cmpR op_eq (pe_op op_mod (pe_op op_fdiv (pe_call G_Lcell_at (HR.mono (by decide)) (gl_of g_Lcells__law_cell_at) T.mg_Lcell_at T.k_Lcell_at B_Lcell_at .nil pass0 (pa_cons (pe_var (i := 0) (x := "_law_script") rfl (vis_of v_Lcells__law_script) d__law_script e__law_script) (pa_cons pe_int pa_nil (stp rfl)) (stp rfl)) (hdb := d__law_cell_at) (he := stp rfl) (hpl := anp rfl)) pe_int) pe_int) pe_int (nomark _))
 (pss_one (ps_asg (pe_op op_mod (pe_call G_Lcell_at (HR.mono (by decide)) (gl_of g_Lcells__law_cell_at) T.mg_Lcell_at T.k_Lcell_at B_Lcell_at .nil pass0 (pa_cons (pe_var (i := 0) (x := "_law_script") rfl (vis_of v_Lcells__law_script) d__law_script e__law_script) (pa_cons pe_int pa_nil (stp rfl)) (stp rfl)) (hdb := d__law_cell_at) (he := stp rfl) (hpl := anp rfl)) (pe_op op_add (pe_op op_mul (pe_callB call_len_seq (gl_of g_Lcells_len) T.b_len PyProof.Rows.Boot.«len» (pa_cons (pe_var (i := 1) (x := "_law_rows") rfl (vis_of v_Lcells__law_rows) d__law_rows e__law_rows) pa_nil (stp rfl)) (hn := n_len) (hdb := d_len) (he := stp rfl) (hpl := anp rfl)) (pe_callB call_len_str (gl_of g_Lcells_len) T.b_len PyProof.Rows.Boot.«len» (pa_cons (pe_ix ix_list (pe_var (i := 1) (x := "_law_rows") rfl (vis_of v_Lcells__law_rows) d__law_rows e__law_rows) pe_int (fun _ _ => rfl)) pa_nil (stp rfl)) (hn := n_len) (hdb := d_len) (he := stp rfl) (hpl := anp rfl))) pe_int)) (pg_sub (pe_var (i := 4) (x := "_law_cells_here") rfl (vis_of v_Lcells__law_cells_here) d__law_cells_here e__law_cells_here) pe_int set_list)))
 pss_nil)
 (pss_one (ps_ret (pe_var (i := 4) (x := "_law_cells_here") rfl (vis_of v_Lcells__law_cells_here) d__law_cells_here e__law_cells_here))))))))), ?_⟩
    have w0 := g.w0
    have w1 := g.w1
    have h0 := g.h0
    have h1 := g.h1
    have len := g.len
    have l100 := len100 g
    have e0 : atI ((Fl.linesOf w h sg).map V.str) 0 = some (V.str (lineOf w sg 0)) := atI_nat (j := 0) (by rw [List.getElem?_map, lines_get (by omega)]; rfl)
    have eL := line_len g (show 0 < h by omega)
    have lh : ((Fl.linesOf w h sg).map V.str).length = h := by rw [List.length_map, lines_len]
    have em : ((w : Int) * (h : Int)) = ((sg.length : Nat) : Int) := by rw [len]; simp
    obtain ⟨k1, k2, k3⟩ := kx i x hi
    have em2 : ((h : Int) * (w : Int)) = ((sg.length : Nat) : Int) := by rw [len, Nat.mul_comm]; simp
    refine tSeq_cut (fun σ H' => ∃ (p : Addr) (xs : List Int), H p = none ∧ Same H H' ∧ H' p = some (.lst (xs.map V.int)) ∧ xs.length ≤ 100 ∧ σ = [some (V.ref a), some (V.ref l), some (V.str x), some (V.ref p), none, none, none, none, none, none]) (fun nx hk => ?_) ?_
    · walk_at "RD"
      refine ⟨_, .inl (SqL.of hL), _, SqL.of hL, _, e0, _, rfl, by rw [eL]; omega, ?_⟩
      rw [eL, lh, em2]
      refine ⟨.inl ⟨by omega, by omega⟩, by omega, by omega, ?_⟩
      rw [Int.toNat_natCast]
      refine comp_pure src_range (stV i sg) (fun v => v) (fun y hy Q hh => ?_) (fun y hy _ Q hh => by walk_at "RD"; exact hh) (by rw [List.length_map, List.length_range]; omega) ?_
      · obtain ⟨o, ho, rfl⟩ := List.mem_map.mp hy
        walk_at "RD"
        exact ⟨l, w, h, sg, _, rfl, hL, g, i, _, x, rfl, hi, _, rfl, hh⟩
      · intro D nD
        have ef : ((((List.range sg.length).map fun i => V.int (0 + ((i : Nat) : Int))).filter (stV i sg)).map fun v => v) = (((List.range sg.length).map fun i => (0 + ((i : Nat) : Int))).filter fun o => stands i (sgI sg o)).map V.int := by
          have e2 : ((List.range sg.length).map fun i => V.int (0 + ((i : Nat) : Int))) = ((List.range sg.length).map fun i => (0 + ((i : Nat) : Int))).map V.int := by rw [List.map_map]; rfl
          rw [List.map_id', e2, List.filter_map]
          rfl
        rw [ef]
        refine hk _ _ ⟨D, _, nD, same_new nD, upd_same, ?_, rfl⟩
        refine Nat.le_trans (List.length_filter_le _ _) ?_
        rw [List.length_map, List.length_range]
        omega
    rintro σ H1 ⟨p, xs, np, s1, hp1, lx, rfl⟩
    refine tSeq_cut (fun σ H' => ∃ (r : Addr) (c : Int), H r = none ∧ Same H H' ∧ H' r = some (.lst ([c].map V.int)) ∧ σ = [some (V.ref a), some (V.ref l), some (V.str x), some (V.ref p), some (V.ref r), none, none, none, none, none]) (fun nx hk => ?_) ?_
    · walk_at "RD"
      refine ⟨by omega, fun u nu => ?_⟩
      refine ⟨_, (same_new nu) _ _ hp1, _, upd_same, by simp; omega, fun v nv => ?_⟩
      have S := (same_new (o := HO.lst [V.int 0]) nu).trans (same_new (o := HO.lst (xs.map V.int ++ [V.int 0])) nv)
      refine ⟨a, ns, _, rfl, (s1.trans S).seq hS, hb, by decide, fun c cb => ⟨c, _, rfl, cb, by decide, by decide, fun m m0 m1 => ⟨_, rfl, ⟨by decide, by decide⟩, _, .inl (SqL.of (S _ _ hp1)), ?_⟩⟩⟩
      have e1 : (0 : Int) < (if ((xs.map V.int).length : Int) > 1 then ((xs.map V.int).length : Int) else 1) := by split <;> omega
      have e2 : (if ((xs.map V.int).length : Int) > 1 then ((xs.map V.int).length : Int) else 1) ≤ ((xs ++ [0]).length : Int) := by
        rw [List.length_map, List.length_append, List.length_cons, List.length_nil]
        split <;> omega
      obtain ⟨y, hy⟩ := pickI (xs ++ [0]) (Int.emod_nonneg (m / 8) (by omega)) (Int.lt_of_lt_of_le (Int.emod_lt_of_pos (m / 8) e1) e2)
      rw [List.map_append] at hy
      exact ⟨e1, _, SqL.of upd_same, _, hy, by omega, fun r nr => hk _ _ ⟨r, y, (s1.trans S).free nr, (s1.trans S).trans (same_new nr), upd_same, rfl⟩⟩
    rintro σ H2 ⟨r, c, nr, s2, hr2, rfl⟩
    refine tSeq_cut (fun σ H' => ∃ n : Nat, 1 ≤ n ∧ n ≤ 11 ∧ H' = H2 ∧ σ = [some (V.ref a), some (V.ref l), some (V.str x), some (V.ref p), some (V.ref r), some (V.int (n : Int)), none, none, none, none]) (fun nx hk => ?_) ?_
    · walk_at "RD"
      refine ⟨a, ns, _, rfl, s2.seq hS, hb, by decide, fun c cb => ⟨_, rfl, by decide, hk _ _ ⟨(1 + c % 11).toNat, by omega, by omega, rfl, ?_⟩⟩⟩
      rw [Int.toNat_of_nonneg (by omega)]
    rintro σ H3 ⟨n1, n10, n11, rfl, rfl⟩
    refine tSeq_cut (fun σ H' => ∃ n : Nat, 1 ≤ n ∧ n ≤ 25 ∧ H' = H3 ∧ σ = [some (V.ref a), some (V.ref l), some (V.str x), some (V.ref p), some (V.ref r), some (V.int (n : Int)), none, none, none, none]) (fun nx hk => ?_) ?_
    · walk_at "RD"
      refine ⟨a, ns, _, rfl, s2.seq hS, hb, by decide, fun c cb => ⟨_, rfl, ⟨by decide, by decide⟩, by decide, ?_⟩⟩
      split
      · exact hk _ _ ⟨25, by decide, by decide, rfl, rfl⟩
      · exact hk _ _ ⟨n1, by omega, by omega, rfl, rfl⟩
    rintro σ H4 ⟨n, n0, n25, rfl, rfl⟩
    refine tSeq_cut (fun σ H' => ∃ (x6 : Option V) (x7 : Option V) (x8 : Option V) (x9 : Option V) (cs : List Int), Same H H' ∧ H' r = some (.lst (cs.map V.int)) ∧ cs ≠ [] ∧ cs.length ≤ 25 ∧ σ = [some (V.ref a), some (V.ref l), some (V.str x), some (V.ref p), some (V.ref r), some (V.int (n : Int)), x6, x7, x8, x9]) (fun nx hk => ?_) ?_
    · walk_at "RD"
      refine ⟨by omega, by omega, by omega, by omega, ?_⟩
      refine for_range (lo := 1) (fun j σ H' => ∃ (x6 : Option V) (x7 : Option V) (x8 : Option V) (x9 : Option V) (cs : List Int) (cl : Int), Same H H' ∧ H' r = some (.lst ((cs ++ [cl]).map V.int)) ∧ cs.length = j ∧ σ = [some (V.ref a), some (V.ref l), some (V.str x), some (V.ref p), some (V.ref r), some (V.int (n : Int)), x6, x7, x8, x9]) ⟨none, none, none, none, [], c, s2, hr2, rfl, rfl⟩ ?_ ?_
      · rintro j σ H' hj ⟨x6, x7, x8, x9, cs, cl, s5, hr5, lc, rfl⟩
        have last : atI ((cs ++ [cl]).map V.int) (-1) = some (V.int cl) := by rw [List.map_append]; exact atI_last _ _
        refine tSeq_cut (fun σ H'' => ∃ m : Int, 0 ≤ m ∧ H'' = H' ∧ σ = [some (V.ref a), some (V.ref l), some (V.str x), some (V.ref p), some (V.ref r), some (V.int (n : Int)), some (V.int (1 + (j : Int))), some (V.int m), x8, x9]) (fun nx hk => ?_) ?_
        · walk_at "RD"
          refine ⟨by decide, a, ns, _, rfl, s5.seq hS, hb, by omega, fun c cb => ⟨c, _, rfl, cb, by omega, by omega, fun m m0 m1 => hk _ _ ⟨m, m0, rfl, rfl⟩⟩⟩
        rintro σ H6 ⟨m, m0, rfl, rfl⟩
        refine tSeq_cut (fun σ H'' => ∃ b, H6 b = none ∧ Same H6 H'' ∧ H'' b = some (.lst ((aroundOf w sg.length cl).map V.int)) ∧ σ = [some (V.ref a), some (V.ref l), some (V.str x), some (V.ref p), some (V.ref r), some (V.int (n : Int)), some (V.int (1 + (j : Int))), some (V.int m), some (V.ref b), x9]) (fun nx hk => ?_) ?_
        · walk_at "RD"
          exact ⟨_, SqL.of hr5, _, last, l, w, h, sg, cl, rfl, s5 _ _ hL, g, fun b H7 nb s7 hb7 => hk _ _ ⟨b, nb, s7, hb7, rfl⟩⟩
        rintro σ H7 ⟨b, nb, s7, hb7, rfl⟩
        refine tSeq_cut (fun σ H'' => ∃ (d : Addr) (ds : List Int), Same H7 H'' ∧ H'' d = some (.lst (ds.map V.int)) ∧ ds.length ≤ 4 ∧ σ = [some (V.ref a), some (V.ref l), some (V.str x), some (V.ref p), some (V.ref r), some (V.int (n : Int)), some (V.int (1 + (j : Int))), some (V.int m), some (V.ref b), some (V.ref d)]) (fun nx hk => ?_) ?_
        · walk_at "RD"
          refine ⟨⟨_, SqL.of hb7⟩, comp_list (K := K) (a := b) (xs := (aroundOf w sg.length cl).map V.int) (fun j ys H' => Same H7 H' ∧ ∃ zs : List Int, ys = zs.map V.int ∧ zs.length ≤ j) ⟨Same.refl _, [], rfl, Nat.le_refl _⟩ ?_ ?_ ?_⟩
          · rintro j ys H' _ ⟨s, _⟩
            exact SqL.of (s _ _ hb7)
          · rintro j y ys H' hy ⟨s, zs, rfl, lz⟩
            rw [List.getElem?_map] at hy
            obtain ⟨o, ho, rfl⟩ := Option.map_eq_some_iff.mp hy
            have ja : j < (aroundOf w sg.length cl).length := (List.getElem?_eq_some_iff.mp ho).1
            have al := around_len (w := w) (n := sg.length) (c := cl)
            walk_at "RD"
            refine ⟨_, SqL.of (s _ _ (s7 _ _ hr5)), _, last, l, x, i, w, h, sg, cl, o, rfl, hi, s _ _ (s7 _ _ (s5 _ _ hL)), g, fun H9 s9 => ?_⟩
            show if ¬ optV (lawC i w sg cl o) = V.non then _ else _
            split
            · exact ⟨by rw [List.length_map]; omega, s.trans s9, zs ++ [o], by simp, by simp; omega⟩
            · exact ⟨s.trans s9, zs, rfl, by omega⟩
          · rintro ys H' ⟨s, zs, rfl, lz⟩
            have al := around_len (w := w) (n := sg.length) (c := cl)
            rw [List.length_map] at lz
            exact ⟨by rw [List.length_map]; omega, fun D nD => hk _ _ ⟨D, zs, s.trans (same_new nD), upd_same, by omega, rfl⟩⟩
        rintro σ H8 ⟨d, ds, s8, hd8, ld, rfl⟩
        have hr8 := s8 _ _ (s7 _ _ hr5)
        have hb8 := s8 _ _ hb7
        have s08 := s5.trans (s7.trans s8)
        have al := around_len (w := w) (n := sg.length) (c := cl)
        have fin : ∀ (H9 : Hp) (y : Int), Same H8 H9 → Same H (upd H9 r (HO.lst ((cs ++ [cl]).map V.int ++ [V.int y]))) ∧ ∃ (x_4 x_5 x_6 x_7 : Option V) (x_8 : List Int) (x_9 : Int), upd H9 r (HO.lst ((cs ++ [cl]).map V.int ++ [V.int y])) r = some (HO.lst ((x_8 ++ [x_9]).map V.int)) ∧ x_8.length = j + 1 ∧ some (V.int (1 + (j : Int))) = x_4 ∧ some (V.int m) = x_5 ∧ some (V.ref b) = x_6 ∧ some (V.ref d) = x_7 := fun H9 y s9 =>
          ⟨same_upd (s08.trans s9) nr, _, _, _, _, cs ++ [cl], y, by rw [upd_same, List.map_append (l₁ := cs ++ [cl])]; rfl, by simp [lc], rfl, rfl, rfl, rfl⟩
        have lcs : ((cs ++ [cl]).map V.int).length < sizeLine := by simp; omega
        have hL8 : LinesAt H8 l w h sg := s08 _ _ hL
        have ty8 : tyV K "list" (V.ref r) H8 := .inl ⟨rfl, _, SqL.of hr8⟩
        walk_at "RD"
        have leafD : tyV K "list" (V.ref r) H8 ∧ ∃ x, SqL K H8 r x ∧ ∃ x_1, atI x (-1) = some x_1 ∧ ∃ x, H8 r = some (HO.lst x) ∧ x.length < sizeLine ∧ Same H (upd H8 r (HO.lst (x ++ [x_1]))) ∧ ∃ (x_2 x_3 x_4 x_5 : Option V) (x_6 : List Int) (x_7 : Int), upd H8 r (HO.lst (x ++ [x_1])) r = some (HO.lst ((x_6 ++ [x_7]).map V.int)) ∧ x_6.length = j + 1 ∧ some (V.int (1 + (j : Int))) = x_2 ∧ some (V.int m) = x_3 ∧ some (V.ref b) = x_4 ∧ some (V.ref d) = x_5 :=
          ⟨ty8, _, SqL.of hr8, _, last, _, hr8, lcs, fin _ _ (Same.refl _)⟩
        have hd9 : ∀ p, H8 p = none → upd H8 p (HO.lst []) d = some (HO.lst (ds.map V.int)) := fun p np => (same_new np) _ _ hd8
        have hr9 : ∀ p, H8 p = none → upd H8 p (HO.lst []) r = some (HO.lst ((cs ++ [cl]).map V.int)) := fun p np => (same_new np) _ _ hr8
        have leafB := fun (u : Addr) (nu : H8 u = none) (v : Addr) (nv : upd H8 u (HO.lst [V.int cl]) v = none) => (same_new (o := HO.lst [V.int cl]) nu).trans (same_new (o := HO.lst ((aroundOf w sg.length cl).map V.int ++ [V.int cl])) nv)
        obtain ⟨yB, hyB⟩ := pickI (aroundOf w sg.length cl ++ [cl]) (q := m / 36 % (1 + (((aroundOf w sg.length cl).map V.int).length : Int))) (Int.emod_nonneg _ (by omega)) (by
          have := Int.emod_lt_of_pos (m / 36) (show (0 : Int) < 1 + (((aroundOf w sg.length cl).map V.int).length : Int) by omega)
          rw [List.length_append, List.length_cons, List.length_nil]
          rw [List.length_map] at this ⊢
          omega)
        rw [List.map_append] at hyB
        have em9 : (((((Fl.linesOf w h sg).map V.str).length : Nat) : Int) * ((lineOf w sg 0).length : Int)) = ((sg.length : Nat) : Int) := by rw [eL, lh, em2]
        repeat' split
        all_goals repeat (refine ⟨by first | decide | exact Nat.zero_le _ | exact ⟨by decide, by decide⟩, ?_⟩)
        all_goals first
          | exact leafD
          | exact ⟨ty8, ⟨by decide, by decide⟩, _, .inl (SqL.of hL8), _, SqL.of hL8, _, e0, _, rfl, by rw [eL]; omega, .inl ⟨by rw [lh]; omega, by rw [lh]; omega⟩, by rw [em9]; omega, _, hr8, lcs, fin _ _ (Same.refl _)⟩
          | exact ⟨ty8, _, SqL.of hr8, _, last, by omega, fun u nu => ⟨_, (same_new nu) _ _ hb8, _, upd_same, by simp; omega, fun v nv => ⟨⟨by decide, by decide⟩, _, .inl (SqL.of (leafB u nu v nv _ _ hb8)), by omega, _, SqL.of upd_same, _, hyB, _, leafB u nu v nv _ _ hr8, lcs, fin _ _ (leafB u nu v nv)⟩⟩⟩
          | (intro p np
             refine ⟨_, den_ints (SqL.of (hd9 p np)), _, .lst (SqL.of upd_same) .nil, shaped_ints ds, rfl, ?_⟩
             split
             · rename_i hne
               have d0 : 0 < ds.length := List.length_pos_iff.mpr (by intro e; rw [e] at hne; simp [PyData.eqv, PyData.eqvAll] at hne)
               obtain ⟨y, hy⟩ := pickI ds (q := m / 81 % ((ds.map V.int).length : Int)) (Int.emod_nonneg _ (by rw [List.length_map]; omega)) (by
                 have := Int.emod_lt_of_pos (m / 81) (show (0 : Int) < ((ds.map V.int).length : Int) by rw [List.length_map]; omega)
                 rw [List.length_map] at this ⊢
                 exact this)
               exact ⟨.inl ⟨rfl, _, SqL.of (hr9 p np)⟩, ⟨by decide, by decide⟩, _, .inl (SqL.of (hd9 p np)), by rw [List.length_map]; omega, _, SqL.of (hd9 p np), _, hy, _, hr9 p np, lcs, fin _ _ (same_new np)⟩
             · exact ⟨.inl ⟨rfl, _, SqL.of (hr9 p np)⟩, _, SqL.of (hr9 p np), _, last, _, hr9 p np, lcs, fin _ _ (same_new np)⟩)
      · rintro σ H' ⟨x6, x7, x8, x9, cs, cl, s5, hr5, lc, rfl⟩
        exact hk _ _ ⟨x6, x7, x8, x9, _, s5, hr5, by simp, by simp; omega, rfl⟩
    rintro σ H5 ⟨x6, x7, x8, x9, cs, s5, hr5, c0, c25, rfl⟩
    refine tSeq_cut (fun σ H' => ∃ (cs : List Int), Same H H' ∧ H' r = some (.lst (cs.map V.int)) ∧ cs ≠ [] ∧ cs.length ≤ 25 ∧ σ = [some (V.ref a), some (V.ref l), some (V.str x), some (V.ref p), some (V.ref r), some (V.int (n : Int)), x6, x7, x8, x9]) (fun nx hk => ?_) ?_
    · walk_at "RD"
      refine ⟨a, ns, _, rfl, s5.seq hS, hb, by decide, fun c cb => ⟨_, rfl, ⟨by decide, by decide⟩, by decide, ?_⟩⟩
      split
      · refine ⟨a, ns, _, rfl, s5.seq hS, hb, by decide, fun c cb => ⟨_, .inl (SqL.of (s5 _ _ hL)), _, SqL.of (s5 _ _ hL), _, e0, _, rfl, by rw [eL]; omega, ?_⟩⟩
        rw [eL, lh, em2]
        obtain ⟨c1, cr, rfl⟩ : ∃ c1 cr, cs = c1 :: cr := by cases cs with | nil => exact absurd rfl c0 | cons c r => exact ⟨c, r, rfl⟩
        exact ⟨.inl ⟨by omega, by omega⟩, _, rfl, by omega, _, hr5, 0, by simp [ixN], hk _ _ ⟨_ :: cr, same_upd s5 nr, by rw [upd_same]; rfl, by simp, by simpa using c25, rfl⟩⟩
      · exact hk _ _ ⟨cs, s5, hr5, c0, c25, rfl⟩
    rintro σ H6 ⟨cs, s6, hr6, c0, c25, rfl⟩
    walk_at "RD"
    exact hq r H6 cs nr s6 hr6 c0 c25
theorem sc_Lis_bad_way : FnScope ["_law_error", "_law_found"] ["_law_error"] (defScope s_Lis_bad_way) := ⟨rfl, rfl, rfl, by decide +kernel, rfl, by decide +kernel, by decide +kernel⟩
set_option maxHeartbeats 4000000 in
theorem okM_Lis_bad_way {fd : FuncData} (F : Fun K "_law_is_bad_way" "_law_is_bad_way" s_Lis_bad_way ad.Lis_bad_way fd) (T : Txt K mg ad) {ea C : Addr} {dx : Option Addr} {ob : Obj} (mk : MkO C dx ob) : FnOkM P w K mg base ea ob 1 ad.Lis_bad_way fd ["_law_error"] (spBadWay ad K ea C dx) := by
  refine F.okM mk sc_Lis_bad_way (fun vs H Q E h => ?_) (fun cdv A outer s H vs Q HRM CM HH h => ?_)
  · obtain ⟨rfl, _⟩ := h
    rfl
  · obtain ⟨rfl, rfl, ⟨er, si, fe, ve⟩, hq⟩ := h
    have ND := sc_Lis_bad_way.nd
    have HU0 := HRM.units0
    have HU := HRM.units
    have hz : (100000 : Nat) ≤ sizeLine := by rw [sizeLine_eq]; decide
    refine ⟨_, (pss_cons (ps_set (i := 1) ND rfl (loc_of (Or.inl l_Lis_bad_way__law_found)) (pe_lst (pa_cons (pe_callB (call_isinstE (mkd_m HH) mk er) (gl_of g_Lis_bad_way_isinstance) T.b_isinstance PyProof.Rows.Boot.«isinstance» (pa_cons (pe_var (i := 0) (x := "_law_error") rfl (vis_of v_Lis_bad_way__law_error) d__law_error e__law_error) (pa_cons (pe_glob (v := .ref ad.C_BadFloor) (gl_of g_Lis_bad_way_BadFloor) T.mg_BadFloor rfl (hd := d_BadFloor)) pa_nil (stp rfl)) (stp rfl)) (hn := n_isinstance) (hdb := d_isinstance) (he := stp rfl) (hpl := anp rfl)) (pa_cons (pe_callB (call_isinstE (mkd_m HH) mk er) (gl_of g_Lis_bad_way_isinstance) T.b_isinstance PyProof.Rows.Boot.«isinstance» (pa_cons (pe_var (i := 0) (x := "_law_error") rfl (vis_of v_Lis_bad_way__law_error) d__law_error e__law_error) (pa_cons (pe_glob (v := .ref ad.C_BadKind) (gl_of g_Lis_bad_way_BadKind) T.mg_BadKind rfl (hd := d_BadKind)) pa_nil (stp rfl)) (stp rfl)) (hn := n_isinstance) (hdb := d_isinstance) (he := stp rfl) (hpl := anp rfl)) (pa_cons (pe_callB (call_isinstE (mkd_m HH) mk er) (gl_of g_Lis_bad_way_isinstance) T.b_isinstance PyProof.Rows.Boot.«isinstance» (pa_cons (pe_var (i := 0) (x := "_law_error") rfl (vis_of v_Lis_bad_way__law_error) d__law_error e__law_error) (pa_cons (pe_glob (v := .ref ad.C_BadCell) (gl_of g_Lis_bad_way_BadCell) T.mg_BadCell rfl (hd := d_BadCell)) pa_nil (stp rfl)) (stp rfl)) (hn := n_isinstance) (hdb := d_isinstance) (he := stp rfl) (hpl := anp rfl)) pa_nil (stp rfl)) (stp rfl)) (stp rfl))))
 (pss_cons (ps_set (i := 1) ND rfl (loc_of (Or.inl l_Lis_bad_way__law_found)) (pe_op op_cat (pe_var (i := 1) (x := "_law_found") rfl (vis_of v_Lis_bad_way__law_found) d__law_found e__law_found) (pe_lst (pa_cons (pe_callB (call_isinstE (mkd_m HH) mk er) (gl_of g_Lis_bad_way_isinstance) T.b_isinstance PyProof.Rows.Boot.«isinstance» (pa_cons (pe_var (i := 0) (x := "_law_error") rfl (vis_of v_Lis_bad_way__law_error) d__law_error e__law_error) (pa_cons (pe_glob (v := .ref ad.C_BadCharge) (gl_of g_Lis_bad_way_BadCharge) T.mg_BadCharge rfl (hd := d_BadCharge)) pa_nil (stp rfl)) (stp rfl)) (hn := n_isinstance) (hdb := d_isinstance) (he := stp rfl) (hpl := anp rfl)) (pa_cons (pe_callB (call_isinstE (mkd_m HH) mk er) (gl_of g_Lis_bad_way_isinstance) T.b_isinstance PyProof.Rows.Boot.«isinstance» (pa_cons (pe_var (i := 0) (x := "_law_error") rfl (vis_of v_Lis_bad_way__law_error) d__law_error e__law_error) (pa_cons (pe_glob (v := .ref ad.C_BadStops) (gl_of g_Lis_bad_way_BadStops) T.mg_BadStops rfl (hd := d_BadStops)) pa_nil (stp rfl)) (stp rfl)) (hn := n_isinstance) (hdb := d_isinstance) (he := stp rfl) (hpl := anp rfl)) (pa_cons (pe_callB (call_isinstE (mkd_m HH) mk er) (gl_of g_Lis_bad_way_isinstance) T.b_isinstance PyProof.Rows.Boot.«isinstance» (pa_cons (pe_var (i := 0) (x := "_law_error") rfl (vis_of v_Lis_bad_way__law_error) d__law_error e__law_error) (pa_cons (pe_glob (v := .ref ad.C_Empty) (gl_of g_Lis_bad_way_Empty) T.mg_Empty rfl (hd := d_Empty)) pa_nil (stp rfl)) (stp rfl)) (hn := n_isinstance) (hdb := d_isinstance) (he := stp rfl) (hpl := anp rfl)) pa_nil (stp rfl)) (stp rfl)) (stp rfl)))))
 (pss_cons (ps_set (i := 1) ND rfl (loc_of (Or.inl l_Lis_bad_way__law_found)) (pe_op op_cat (pe_var (i := 1) (x := "_law_found") rfl (vis_of v_Lis_bad_way__law_found) d__law_found e__law_found) (pe_lst (pa_cons (pe_callB (call_isinstE (mkd_m HH) mk er) (gl_of g_Lis_bad_way_isinstance) T.b_isinstance PyProof.Rows.Boot.«isinstance» (pa_cons (pe_var (i := 0) (x := "_law_error") rfl (vis_of v_Lis_bad_way__law_error) d__law_error e__law_error) (pa_cons (pe_glob (v := .ref ad.C_NoCarrier) (gl_of g_Lis_bad_way_NoCarrier) T.mg_NoCarrier rfl (hd := d_NoCarrier)) pa_nil (stp rfl)) (stp rfl)) (hn := n_isinstance) (hdb := d_isinstance) (he := stp rfl) (hpl := anp rfl)) (pa_cons (pe_callB (call_isinstE (mkd_m HH) mk er) (gl_of g_Lis_bad_way_isinstance) T.b_isinstance PyProof.Rows.Boot.«isinstance» (pa_cons (pe_var (i := 0) (x := "_law_error") rfl (vis_of v_Lis_bad_way__law_error) d__law_error e__law_error) (pa_cons (pe_glob (v := .ref ad.C_NoTask) (gl_of g_Lis_bad_way_NoTask) T.mg_NoTask rfl (hd := d_NoTask)) pa_nil (stp rfl)) (stp rfl)) (hn := n_isinstance) (hdb := d_isinstance) (he := stp rfl) (hpl := anp rfl)) (pa_cons (pe_callB (call_isinstE (mkd_m HH) mk er) (gl_of g_Lis_bad_way_isinstance) T.b_isinstance PyProof.Rows.Boot.«isinstance» (pa_cons (pe_var (i := 0) (x := "_law_error") rfl (vis_of v_Lis_bad_way__law_error) d__law_error e__law_error) (pa_cons (pe_glob (v := .ref ad.C_Meets) (gl_of g_Lis_bad_way_Meets) T.mg_Meets rfl (hd := d_Meets)) pa_nil (stp rfl)) (stp rfl)) (hn := n_isinstance) (hdb := d_isinstance) (he := stp rfl) (hpl := anp rfl)) pa_nil (stp rfl)) (stp rfl)) (stp rfl)))))
 (pss_cons (ps_set (i := 1) ND rfl (loc_of (Or.inl l_Lis_bad_way__law_found)) (pe_op op_cat (pe_var (i := 1) (x := "_law_found") rfl (vis_of v_Lis_bad_way__law_found) d__law_found e__law_found) (pe_lst (pa_cons (pe_callB (call_isinstE (mkd_m HH) mk er) (gl_of g_Lis_bad_way_isinstance) T.b_isinstance PyProof.Rows.Boot.«isinstance» (pa_cons (pe_var (i := 0) (x := "_law_error") rfl (vis_of v_Lis_bad_way__law_error) d__law_error e__law_error) (pa_cons (pe_glob (v := .ref ad.C_Taken) (gl_of g_Lis_bad_way_Taken) T.mg_Taken rfl (hd := d_Taken)) pa_nil (stp rfl)) (stp rfl)) (hn := n_isinstance) (hdb := d_isinstance) (he := stp rfl) (hpl := anp rfl)) (pa_cons (pe_callB (call_isinstE (mkd_m HH) mk er) (gl_of g_Lis_bad_way_isinstance) T.b_isinstance PyProof.Rows.Boot.«isinstance» (pa_cons (pe_var (i := 0) (x := "_law_error") rfl (vis_of v_Lis_bad_way__law_error) d__law_error e__law_error) (pa_cons (pe_glob (v := .ref ad.C_Busy) (gl_of g_Lis_bad_way_Busy) T.mg_Busy rfl (hd := d_Busy)) pa_nil (stp rfl)) (stp rfl)) (hn := n_isinstance) (hdb := d_isinstance) (he := stp rfl) (hpl := anp rfl)) (pa_cons (pe_callB (call_isinstE (mkd_m HH) mk er) (gl_of g_Lis_bad_way_isinstance) T.b_isinstance PyProof.Rows.Boot.«isinstance» (pa_cons (pe_var (i := 0) (x := "_law_error") rfl (vis_of v_Lis_bad_way__law_error) d__law_error e__law_error) (pa_cons (pe_glob (v := .ref ad.C_NoReserve) (gl_of g_Lis_bad_way_NoReserve) T.mg_NoReserve rfl (hd := d_NoReserve)) pa_nil (stp rfl)) (stp rfl)) (hn := n_isinstance) (hdb := d_isinstance) (he := stp rfl) (hpl := anp rfl)) pa_nil (stp rfl)) (stp rfl)) (stp rfl)))))
 (pss_cons (ps_set (i := 1) ND rfl (loc_of (Or.inl l_Lis_bad_way__law_found)) (pe_op op_cat (pe_var (i := 1) (x := "_law_found") rfl (vis_of v_Lis_bad_way__law_found) d__law_found e__law_found) (pe_lst (pa_cons (pe_callB (call_isinstE (mkd_m HH) mk er) (gl_of g_Lis_bad_way_isinstance) T.b_isinstance PyProof.Rows.Boot.«isinstance» (pa_cons (pe_var (i := 0) (x := "_law_error") rfl (vis_of v_Lis_bad_way__law_error) d__law_error e__law_error) (pa_cons (pe_glob (v := .ref ad.C_Closed) (gl_of g_Lis_bad_way_Closed) T.mg_Closed rfl (hd := d_Closed)) pa_nil (stp rfl)) (stp rfl)) (hn := n_isinstance) (hdb := d_isinstance) (he := stp rfl) (hpl := anp rfl)) (pa_cons (pe_callB (call_isinstE (mkd_m HH) mk er) (gl_of g_Lis_bad_way_isinstance) T.b_isinstance PyProof.Rows.Boot.«isinstance» (pa_cons (pe_var (i := 0) (x := "_law_error") rfl (vis_of v_Lis_bad_way__law_error) d__law_error e__law_error) (pa_cons (pe_glob (v := .ref ad.C_Jammed) (gl_of g_Lis_bad_way_Jammed) T.mg_Jammed rfl (hd := d_Jammed)) pa_nil (stp rfl)) (stp rfl)) (hn := n_isinstance) (hdb := d_isinstance) (he := stp rfl) (hpl := anp rfl)) pa_nil (stp rfl)) (stp rfl)))))
 (pss_one (ps_ret (pe_and (pe_cmpR op_notIn_seq pe_bl (pe_var (i := 1) (x := "_law_found") rfl (vis_of v_Lis_bad_way__law_found) d__law_found e__law_found) (by with_unfolding_all rfl)) (pe_and (pe_callB (call_isinstE (mkd_m HH) mk er) (gl_of g_Lis_bad_way_isinstance) T.b_isinstance PyProof.Rows.Boot.«isinstance» (pa_cons (pe_var (i := 0) (x := "_law_error") rfl (vis_of v_Lis_bad_way__law_error) d__law_error e__law_error) (pa_cons (pe_glob (v := .ref ad.C_BadWay) (gl_of g_Lis_bad_way_BadWay) T.mg_BadWay rfl (hd := d_BadWay)) pa_nil (stp rfl)) (stp rfl)) (hn := n_isinstance) (hdb := d_isinstance) (he := stp rfl) (hpl := anp rfl)) (pe_one (pe_callB (call_isinstE (mkd_m HH) mk er) (gl_of g_Lis_bad_way_isinstance) T.b_isinstance PyProof.Rows.Boot.«isinstance» (pa_cons (pe_var (i := 0) (x := "_law_error") rfl (vis_of v_Lis_bad_way__law_error) d__law_error e__law_error) (pa_cons (pe_bltn (v := .ty "ValueError") (gl_of g_Lis_bad_way_ValueError) T.b_ValueError PyProof.Rows.Boot.«ValueError» rfl (hn := n_ValueError) (hd := d_ValueError)) pa_nil (stp rfl)) (stp rfl)) (hn := n_isinstance) (hdb := d_isinstance) (he := stp rfl) (hpl := anp rfl)))))))))))), ?_⟩
    refine tSeq_cut (fun σ H' => ∃ l, Same H H' ∧ H' l = some (.lst (List.replicate 3 (V.bl false))) ∧ σ = [some (.ref ea), some (.ref l)]) (fun nx hk => ?_) ?_
    · walk_at "RD"
      refine ⟨_, rfl, _, si 0 _ rfl, _, rfl, _, si 1 _ rfl, _, rfl, _, si 2 _ rfl, by omega, fun c nc => hk _ _ ⟨c, same_new nc, upd_same, rfl⟩⟩
    rintro σ H1 ⟨l, s1, p1, rfl⟩
    refine tSeq_cut (fun σ H' => ∃ l, Same H H' ∧ H' l = some (.lst (List.replicate 6 (V.bl false))) ∧ σ = [some (.ref ea), some (.ref l)]) (fun nx hk => ?_) ?_
    · walk_at "RD"
      refine ⟨_, rfl, _, si 3 _ rfl, _, rfl, _, si 4 _ rfl, _, rfl, _, si 6 _ rfl, by omega, fun c nc => ?_⟩
      refine ⟨_, (same_new nc) _ _ p1, _, upd_same, by simp; omega, fun d nd => hk _ _ ⟨d, (s1.trans (same_new nc)).trans (same_new nd), upd_same, rfl⟩⟩
    rintro σ H1 ⟨l, s1, p1, rfl⟩
    refine tSeq_cut (fun σ H' => ∃ l, Same H H' ∧ H' l = some (.lst (List.replicate 9 (V.bl false))) ∧ σ = [some (.ref ea), some (.ref l)]) (fun nx hk => ?_) ?_
    · walk_at "RD"
      refine ⟨_, rfl, _, si 7 _ rfl, _, rfl, _, si 8 _ rfl, _, rfl, _, si 9 _ rfl, by omega, fun c nc => ?_⟩
      refine ⟨_, (same_new nc) _ _ p1, _, upd_same, by simp; omega, fun d nd => hk _ _ ⟨d, (s1.trans (same_new nc)).trans (same_new nd), upd_same, rfl⟩⟩
    rintro σ H1 ⟨l, s1, p1, rfl⟩
    refine tSeq_cut (fun σ H' => ∃ l, Same H H' ∧ H' l = some (.lst (List.replicate 12 (V.bl false))) ∧ σ = [some (.ref ea), some (.ref l)]) (fun nx hk => ?_) ?_
    · walk_at "RD"
      refine ⟨_, rfl, _, si 10 _ rfl, _, rfl, _, si 11 _ rfl, _, rfl, _, si 12 _ rfl, by omega, fun c nc => ?_⟩
      refine ⟨_, (same_new nc) _ _ p1, _, upd_same, by simp; omega, fun d nd => hk _ _ ⟨d, (s1.trans (same_new nc)).trans (same_new nd), upd_same, rfl⟩⟩
    rintro σ H1 ⟨l, s1, p1, rfl⟩
    refine tSeq_cut (fun σ H' => ∃ l, Same H H' ∧ H' l = some (.lst (List.replicate 14 (V.bl false))) ∧ σ = [some (.ref ea), some (.ref l)]) (fun nx hk => ?_) ?_
    · walk_at "RD"
      refine ⟨_, rfl, _, si 13 _ rfl, _, rfl, _, si 14 _ rfl, by omega, fun c nc => ?_⟩
      refine ⟨_, (same_new nc) _ _ p1, _, upd_same, by simp; omega, fun d nd => hk _ _ ⟨d, (s1.trans (same_new nc)).trans (same_new nd), upd_same, rfl⟩⟩
    rintro σ H1 ⟨l, s1, p1, rfl⟩
    walk_at "RD"
    refine ⟨_, .inl (SqL.of p1), rfl, rfl, ?_⟩
    rw [if_pos (by rfl)]
    refine ⟨_, rfl, _, si 5 _ rfl, ?_⟩
    rw [if_pos (by decide)]
    exact ⟨_, rfl, _, ve, hq _ s1⟩
theorem sc_Ltold : FnScope ["_law_floor", "_law_carrier_here", "_law_way", "_law_charge", "_law_found", "_law_error", "_law_copy"] ["_law_floor", "_law_carrier_here", "_law_way", "_law_charge"] (defScope s_Ltold) := ⟨rfl, rfl, rfl, by decide +kernel, rfl, by decide +kernel, by decide +kernel⟩
set_option maxHeartbeats 4000000 in
theorem ok_Ltold {fd : FuncData} (F : Fun K "_law_told" "_law_told" s_Ltold ad.Ltold fd) (T : Txt K mg ad) {fd_walked : FuncData} (B_walked : Binds K fd_walked ["floor", "carrier", "way", "charge"] []) (G_walked : FnOk P w K mg base (CXE P w) 8 ad.walked fd_walked ["floor", "carrier", "way", "charge"] (spWalked ad)) {fd_Lis_bad_way : FuncData} (B_Lis_bad_way : Binds K fd_Lis_bad_way ["_law_error"] []) (GM_Lis_bad_way : ∀ {ea C : Addr} {dx : Option Addr} {ob : Obj}, MkO C dx ob → FnOkM P w K mg base ea ob 1 ad.Lis_bad_way fd_Lis_bad_way ["_law_error"] (spBadWay ad K ea C dx)) {fd_Lwhole : FuncData} (B_Lwhole : Binds K fd_Lwhole ["_law_found"] []) (G_Lwhole : FnOk P w K mg base CX0 1 ad.Lwhole fd_Lwhole ["_law_found"] (spWhole K)) : FnOk P w K mg base CX0 9 ad.Ltold fd ["_law_floor", "_law_carrier_here", "_law_way", "_law_charge"] (spTold ad) := by
  refine F.ok sc_Ltold (fun vs H Q E h => ?_) (fun cdv A outer s H vs Q E HR h => ?_)
  · obtain ⟨p, fl, wy, q, i, n, w, h, sg, b, k, cs, rfl, _⟩ := h
    rfl
  · obtain ⟨p, fl, wy, q, i, n, w, h, sg, b, k, cs, rfl, hc, hi, F0, g, hw, hq0, c0, cl, hq⟩ := h
    have ND := sc_Ltold.nd
    have HU0 := HR.units0
    have HU := HR.units
    have hA := HR.hd
    have hz : (100000 : Nat) ≤ sizeLine := by rw [sizeLine_eq]; decide
    refine ⟨_, (pss_cons (ps_tryAs (i := 5) ND rfl l_Ltold__law_error rfl rfl (gl_of g_Ltold_FloorError) T.mg_FloorError d_FloorError (fun pins EE WE XB => (pss_one (ps_set (i := 4) ND rfl (loc_of (Or.inl l_Ltold__law_found)) (pe_callX G_walked (HR.mono (by decide)) (gl_of g_Ltold_walked) T.mg_walked T.k_walked B_walked .nil XB (pa_cons (pe_var (i := 0) (x := "_law_floor") rfl (vis_of v_Ltold__law_floor) d__law_floor e__law_floor) (pa_cons (pe_var (i := 1) (x := "_law_carrier_here") rfl (vis_of v_Ltold__law_carrier_here) d__law_carrier_here e__law_carrier_here) (pa_cons (pe_var (i := 2) (x := "_law_way") rfl (vis_of v_Ltold__law_way) d__law_way e__law_way) (pa_cons (pe_var (i := 3) (x := "_law_charge") rfl (vis_of v_Ltold__law_charge) d__law_charge e__law_charge) pa_nil (stp rfl)) (stp rfl)) (stp rfl)) (stp rfl)) (hdb := d_walked) (he := stp rfl) (hpl := anp rfl)))))
 (fun pins ea C' dx ob mk => (pss_one (ps_ret (pe_ifExp (pt_val (pe_callM (GM_Lis_bad_way mk) mkd_suite (HR.m.mono (by decide)) (gl_of g_Ltold__law_is_bad_way) T.mg_Lis_bad_way T.k_Lis_bad_way B_Lis_bad_way (pa_cons (pe_var (i := 5) (x := "_law_error") rfl (vis_of v_Ltold__law_error) d__law_error e__law_error) pa_nil (stp rfl)) (hdb := d__law_is_bad_way) (he := stp rfl) (hpl := anp rfl))) pe_str pe_str)))))
 (pss_cons (ps_if (PW.pt (pw_or (pt_not (pt_val (pe_callB call_isinst (gl_of g_Ltold_isinstance) T.b_isinstance PyProof.Rows.Boot.«isinstance» (pa_cons (pe_var (i := 4) (x := "_law_found") rfl (vis_of v_Ltold__law_found) d__law_found e__law_found) (pa_cons (pe_bltn (v := .ty "list") (gl_of g_Ltold_list) T.b_list PyProof.Rows.Boot.«list» rfl (hn := n_list) (hd := d_list)) pa_nil (stp rfl)) (stp rfl)) (hn := n_isinstance) (hdb := d_isinstance) (he := stp rfl) (hpl := anp rfl)))) (pw_or1 (pt_not (pt_val (pe_callB call_all_list (gl_of g_Ltold_all) T.b_all PyProof.Rows.Boot.«all» (pa_cons (pe_comp (CompScope.of (osc := defScope s_Ltold) (tn := ["_law_one"]) (cn := []) (caps := []) rfl rfl (by decide +kernel) (by decide +kernel) (by decide +kernel) (by decide +kernel) rfl) (calm0 rfl)  (pi_list (pe_var (i := 4) (x := "_law_found") rfl (vis_of v_Ltold__law_found) d__law_found e__law_found))
 (fun _ _ _ _ _ => (pg_name (i := 0) (show (["_law_one"] : List Str).Nodup by decide +kernel) rfl (Or.inl rfl))) (fun _ _ _ _ _ => pts_nil) (fun _ _ _ _ _ => (pe_call G_Lwhole (HR.mono (by decide)) (by rfl) T.mg_Lwhole T.k_Lwhole B_Lwhole .nil pass0 (pa_cons (pv 0) pa_nil (stp rfl)) (hdb := d__law_whole) (he := stp rfl) (hpl := anp rfl)))) pa_nil (stp rfl)) (hn := n_all) (hdb := d_all) (he := stp rfl) (hpl := anp rfl)))))))
 (pss_one (ps_ret pe_str))
 pss_nil)
 (pss_cons (ps_set (i := 6) ND rfl (loc_of (Or.inl l_Ltold__law_copy)) (pe_callTy call_list_of (gl_of g_Ltold_list) T.b_list PyProof.Rows.Boot.«list» (pa_cons (pe_var (i := 4) (x := "_law_found") rfl (vis_of v_Ltold__law_found) d__law_found e__law_found) pa_nil (stp rfl)) (hn := n_list) (hdb := d_list) (he := stp rfl) (hpl := anp rfl)))
 (pss_cons (ps_expr (pe_bm PySem.F.plainAttrs_list PySem.F.slot_list_append PySem.F.type_list_append mt_append (pe_var (i := 4) (x := "_law_found") rfl (vis_of v_Ltold__law_found) d__law_found e__law_found) (pa_cons pe_int pa_nil (stp rfl))))
 (pss_one (ps_ret (pe_var (i := 6) (x := "_law_copy") rfl (vis_of v_Ltold__law_copy) d__law_copy e__law_copy))))))), ?_⟩
    walk_at "RD"
    refine ⟨fun σ cls dx H' => σ = [some (V.ref fl), some (V.ref p), some (V.ref wy), some (V.int k), none, none, none] ∧ cls = .ref ad.C_BadWay ∧ dx = none ∧ Same H H' ∧ walkedOf i w sg n k cs = none, ⟨p, fl, wy, q, i, n, w, h, sg, b, k, cs, rfl, hc, hi, F0, g, hw, hq0, c0, cl, fun H' s => ?_⟩, ?_⟩
    · cases hwk : walkedOf i w sg n k cs with
      | none => exact ⟨rfl, rfl, rfl, s, rfl⟩
      | some ks =>
        intro r nr hr
        have lk : ks.length ≤ 100 := by
          have := walked_len hwk
          omega
        refine ⟨_, .lst hr, true, rfl, ?_⟩
        rw [if_neg (by decide)]
        refine ⟨r, rfl, ⟨_, SqL.of hr⟩, comp_pure (src_list (SqL.of hr)) (fun _ => true) (fun _ => V.bl true) (fun y hy Q hh => by first | exact hh | (walk_at "RD"; exact hh)) (fun y hy _ Q hh => ?_) (by rw [List.length_map]; omega) ?_⟩
        · obtain ⟨z, _, rfl⟩ := List.mem_map.mp hy
          walk_at "RD"
          exact ⟨_, rfl, ⟨_, .int _⟩, hh⟩
        · intro D nD
          have eM : (List.filter (fun _ => true) (ks.map V.int)).map (fun _ => V.bl true) = (List.replicate ks.length true).map V.bl := by
            rw [List.filter_eq_self.mpr (fun _ _ => rfl), List.map_map, List.map_replicate]
            exact List.eq_replicate_iff.mpr ⟨by simp, fun b hb => by simp at hb; exact hb.2.symm⟩
          rw [eM]
          refine ⟨hA, _, SqL.of upd_same, ?_⟩
          rw [if_neg (by simp)]
          refine ⟨r, rfl, _, .inl (SqL.of ((same_new nD) _ _ hr)), fun l nl => ?_⟩
          have S := (same_new (o := HO.lst ((List.replicate ks.length true).map V.bl)) nD).trans (same_new (o := HO.lst (ks.map V.int)) nl)
          have hr2 := S _ _ hr
          have lr : l ≠ r := fun e => by rw [e, (same_new nD) _ _ hr] at nl; cases nl
          refine ⟨.inl ⟨rfl, _, SqL.of hr2⟩, r, rfl, _, hr2, by simp; omega, ?_⟩
          have z := hq _ (same_upd (o := HO.lst (ks.map V.int ++ [V.int 0])) (s.trans S) nr)
          rw [hwk] at z
          exact z l (s.free ((same_new nD).free nl)) (by rw [upd_ne lr]; exact upd_same)
    · rintro σ cls dx H' ⟨rfl, rfl, rfl, s, hwk⟩
      refine ⟨_, rfl, T.xm_BadWay_FloorError, fun ea _ => ⟨_, rfl, rfl, rfl, says_BadWay T, fun H2 s2 => ⟨_, rfl, ?_⟩⟩⟩
      rw [if_pos rfl]
      have z := hq H2 (s.trans s2)
      rw [hwk] at z
      exact z
theorem sc_Lcarrier : FnScope ["_law_which", "_law_full"] ["_law_which", "_law_full"] (defScope s_Lcarrier) := ⟨rfl, rfl, rfl, by decide +kernel, rfl, by decide +kernel, by decide +kernel⟩
set_option maxHeartbeats 4000000 in
theorem ok_Lcarrier {fd : FuncData} (F : Fun K "_law_carrier" "_law_carrier" s_Lcarrier ad.Lcarrier fd) (T : Txt K mg ad) {fd_Carrier_init : FuncData} (B_Carrier_init : Binds K fd_Carrier_init ["self", "full"] []) (G_Carrier_init : FnOk P w K mg base CX0 1 ad.Carrier_init fd_Carrier_init ["self", "full"] (spCInit ad)) : FnOk P w K mg base CX0 3 ad.Lcarrier fd ["_law_which", "_law_full"] (spCarrier ad) := by
  refine F.ok sc_Lcarrier (fun vs H Q E h => ?_) (fun cdv A outer s H vs Q E HR h => ?_)
  · obtain ⟨j, n, rfl, _⟩ := h
    rfl
  · obtain ⟨j, n, rfl, hj, hq⟩ := h
    have ND := sc_Lcarrier.nd
    have HU0 := HR.units0
    have HU := HR.units
    have hA := HR.hd
    have hz : (100000 : Nat) ≤ sizeLine := by rw [sizeLine_eq]; decide
    refine ⟨_, (pss_cons (ps_if (pt_cmpR op_eq (pe_var (i := 0) (x := "_law_which") rfl (vis_of v_Lcarrier__law_which) d__law_which e__law_which) pe_int (nomark _))
 (pss_one (ps_ret (pe_make T.mk_Carrier G_Carrier_init (HR.mono (by decide)) (gl_of g_Lcarrier_Carrier) T.mg_Carrier B_Carrier_init .nil pass0 (pa_cons (pe_var (i := 1) (x := "_law_full") rfl (vis_of v_Lcarrier__law_full) d__law_full e__law_full) pa_nil (stp rfl)) (hdb := d_Carrier) (he := stp rfl) (hpl := anp rfl))))
 pss_nil)
 (pss_cons (ps_if (pt_cmpR op_eq (pe_var (i := 0) (x := "_law_which") rfl (vis_of v_Lcarrier__law_which) d__law_which e__law_which) pe_int (nomark _))
 (pss_one (ps_ret (pe_make T.mk_Cart G_Carrier_init (HR.mono (by decide)) (gl_of g_Lcarrier_Cart) T.mg_Cart B_Carrier_init .nil pass0 (pa_cons (pe_var (i := 1) (x := "_law_full") rfl (vis_of v_Lcarrier__law_full) d__law_full e__law_full) pa_nil (stp rfl)) (hdb := d_Cart) (he := stp rfl) (hpl := anp rfl))))
 pss_nil)
 (pss_cons (ps_if (pt_cmpR op_eq (pe_var (i := 0) (x := "_law_which") rfl (vis_of v_Lcarrier__law_which) d__law_which e__law_which) pe_int (nomark _))
 (pss_one (ps_ret (pe_make T.mk_Crawler G_Carrier_init (HR.mono (by decide)) (gl_of g_Lcarrier_Crawler) T.mg_Crawler B_Carrier_init .nil pass0 (pa_cons (pe_var (i := 1) (x := "_law_full") rfl (vis_of v_Lcarrier__law_full) d__law_full e__law_full) pa_nil (stp rfl)) (hdb := d_Crawler) (he := stp rfl) (hpl := anp rfl))))
 pss_nil)
 (pss_one (ps_ret (pe_make T.mk_Runner G_Carrier_init (HR.mono (by decide)) (gl_of g_Lcarrier_Runner) T.mg_Runner B_Carrier_init .nil pass0 (pa_cons (pe_var (i := 1) (x := "_law_full") rfl (vis_of v_Lcarrier__law_full) d__law_full e__law_full) pa_nil (stp rfl)) (hdb := d_Runner) (he := stp rfl) (hpl := anp rfl))))))), ?_⟩
    have mk : ∀ (C : Addr), C = clsOf ad (kindNo j) → ∀ (x dx : Addr), H x = none → H dx = none → dx ≠ x → spCInit ad [V.ref x, V.int n] (upd (upd H dx (HO.own x)) x (HO.ins C dx [])) (fun v H2 => v = V.non ∧ Q (V.ref x) H2) E0 := fun C e x dx n1 n2 n3 => cinit e n1 n2 n3 fun H' s' c' => ⟨rfl, hq x H' s' n1 c'⟩
    walk_at "RD"
    match j, hj, mk with
    | 0, _, mk => rw [if_pos (by decide)]; exact mk _ rfl
    | 1, _, mk => rw [if_neg (by decide), if_pos (by decide)]; exact mk _ rfl
    | 2, _, mk => rw [if_neg (by decide), if_neg (by decide), if_pos (by decide)]; exact mk _ rfl
    | 3, _, mk => rw [if_neg (by decide), if_neg (by decide), if_neg (by decide)]; exact mk _ rfl
    | (j + 4), h, _ => omega
theorem sc_law : FnScope ["_law_script", "_law_rows", "_law_which", "_law_kind", "_law_full", "_law_carrier_here", "_law_other", "_law_floor", "_law_cells_here", "_law_charge", "_law_begin", "_law_due_here", "_law_other_kind", "_law_turn", "_law_told_here", "_law_due_other"] ["_law_script"] (defScope s_law) := ⟨rfl, rfl, rfl, by decide +kernel, rfl, by decide +kernel, by decide +kernel⟩
set_option maxHeartbeats 4000000 in
theorem ok_law {fd : FuncData} (F : Fun K "law" "law" s_law ad.law fd) (T : Txt K mg ad) {fd_Llines : FuncData} (B_Llines : Binds K fd_Llines ["_law_script"] []) (G_Llines : FnOk P w K mg base CX0 2 ad.Llines fd_Llines ["_law_script"] (spLinesW K)) {fd_Lcell_at : FuncData} (B_Lcell_at : Binds K fd_Lcell_at ["_law_script", "_law_k"] []) (G_Lcell_at : FnOk P w K mg base CX0 1 ad.Lcell_at fd_Lcell_at ["_law_script", "_law_k"] (spCell K)) {fd_Lcarrier : FuncData} (B_Lcarrier : Binds K fd_Lcarrier ["_law_which", "_law_full"] []) (G_Lcarrier : FnOk P w K mg base CX0 3 ad.Lcarrier fd_Lcarrier ["_law_which", "_law_full"] (spCarrier ad)) {fd_Floor_init : FuncData} (B_Floor_init : Binds K fd_Floor_init ["self", "lines"] []) (G_Floor_init : FnOk P w K mg base CX0 4 ad.Floor_init fd_Floor_init ["self", "lines"] (spInit ad.C_Floor)) {fd_Lcells : FuncData} (B_Lcells : Binds K fd_Lcells ["_law_script", "_law_rows", "_law_kind"] []) (G_Lcells : FnOk P w K mg base CX0 3 ad.Lcells fd_Lcells ["_law_script", "_law_rows", "_law_kind"] (spCellsW K)) {fd_Ldue : FuncData} (B_Ldue : Binds K fd_Ldue ["_law_rows", "_law_kind", "_law_full", "_law_cells_here", "_law_charge"] []) (G_Ldue : FnOk P w K mg base CX0 3 ad.Ldue fd_Ldue ["_law_rows", "_law_kind", "_law_full", "_law_cells_here", "_law_charge"] (spDue)) {fd_Ltold : FuncData} (B_Ltold : Binds K fd_Ltold ["_law_floor", "_law_carrier_here", "_law_way", "_law_charge"] []) (G_Ltold : FnOk P w K mg base CX0 9 ad.Ltold fd_Ltold ["_law_floor", "_law_carrier_here", "_law_way", "_law_charge"] (spTold ad)) : FnOk P w K mg base CX0 12 ad.law fd ["_law_script"] (spLaw K) := by
  refine F.ok sc_law (fun vs H Q E h => ?_) (fun cdv A outer s H vs Q E HR h => ?_)
  · obtain ⟨a, ns, rfl, _⟩ := h
    rfl
  · obtain ⟨a, ns, rfl, hS, hl, hb, hq⟩ := h
    have ND := sc_law.nd
    have HU0 := HR.units0
    have HU := HR.units
    have hA := HR.hd
    have hz : (100000 : Nat) ≤ sizeLine := by rw [sizeLine_eq]; decide
    refine ⟨_, (pss_cons (ps_set (i := 1) ND rfl (loc_of (Or.inl l_law__law_rows)) (pe_call G_Llines (HR.mono (by decide)) (gl_of g_law__law_lines) T.mg_Llines T.k_Llines B_Llines .nil pass0 (pa_cons (pe_var (i := 0) (x := "_law_script") rfl (vis_of v_law__law_script) d__law_script e__law_script) pa_nil (stp rfl)) (hdb := d__law_lines) (he := stp rfl) (hpl := anp rfl)))
 (pss_cons (ps_if (pt_cmpR (op_eqD HU) (pe_comp (CompScope.of (osc := defScope s_law) (tn := ["_law_line"]) (cn := []) (caps := []) rfl rfl (by decide +kernel) (by decide +kernel) (by decide +kernel) (by decide +kernel) rfl) (calm0 rfl)  (pi_list (pe_var (i := 1) (x := "_law_rows") rfl (vis_of v_law__law_rows) d__law_rows e__law_rows))
 (fun _ _ _ _ _ => (pg_name (i := 0) (show (["_law_line"] : List Str).Nodup by decide +kernel) rfl (Or.inl rfl))) (fun _ _ _ _ _ => (pts_one (pt_cmpR op_ne (pv 0) (pe_op op_mul_str pe_str (pe_callB call_len_str (by rfl) T.b_len PyProof.Rows.Boot.«len» (pa_cons (pv 0) pa_nil (stp rfl)) (hn := n_len) (hdb := d_len) (he := stp rfl) (hpl := anp rfl))) (nomark _)))) (fun _ _ _ _ _ => (pv 0))) (pe_lst pa_nil) (nomark _))
 (pss_one (ps_asg (pe_op op_add_str pe_str (pe_sliceS (pe_ix ix_list (pe_var (i := 1) (x := "_law_rows") rfl (vis_of v_law__law_rows) d__law_rows e__law_rows) pe_int (fun _ _ => rfl)) (po_some pe_int) po_none)) (pg_sub (pe_var (i := 1) (x := "_law_rows") rfl (vis_of v_law__law_rows) d__law_rows e__law_rows) pe_int set_list)))
 pss_nil)
 (pss_cons (ps_set (i := 2) ND rfl (loc_of (Or.inl l_law__law_which)) (pe_op op_mod (pe_call G_Lcell_at (HR.mono (by decide)) (gl_of g_law__law_cell_at) T.mg_Lcell_at T.k_Lcell_at B_Lcell_at .nil pass0 (pa_cons (pe_var (i := 0) (x := "_law_script") rfl (vis_of v_law__law_script) d__law_script e__law_script) (pa_cons pe_int pa_nil (stp rfl)) (stp rfl)) (hdb := d__law_cell_at) (he := stp rfl) (hpl := anp rfl)) pe_int))
 (pss_cons (ps_set (i := 3) ND rfl (loc_of (Or.inl l_law__law_kind)) (pe_ix ix_list (pe_lst (pa_cons pe_str (pa_cons pe_str (pa_cons pe_str (pa_cons pe_str pa_nil (stp rfl)) (stp rfl)) (stp rfl)) (stp rfl))) (pe_var (i := 2) (x := "_law_which") rfl (vis_of v_law__law_which) d__law_which e__law_which) (fun _ _ => rfl)))
 (pss_cons (ps_set (i := 4) ND rfl (loc_of (Or.inl l_law__law_full)) (pe_op op_add pe_int (pe_op op_mod (pe_op op_fdiv (pe_call G_Lcell_at (HR.mono (by decide)) (gl_of g_law__law_cell_at) T.mg_Lcell_at T.k_Lcell_at B_Lcell_at .nil pass0 (pa_cons (pe_var (i := 0) (x := "_law_script") rfl (vis_of v_law__law_script) d__law_script e__law_script) (pa_cons pe_int pa_nil (stp rfl)) (stp rfl)) (hdb := d__law_cell_at) (he := stp rfl) (hpl := anp rfl)) pe_int) pe_int)))
 (pss_cons (ps_if (pt_cmpR op_eq (pe_op op_mod (pe_op op_fdiv (pe_call G_Lcell_at (HR.mono (by decide)) (gl_of g_law__law_cell_at) T.mg_Lcell_at T.k_Lcell_at B_Lcell_at .nil pass0 (pa_cons (pe_var (i := 0) (x := "_law_script") rfl (vis_of v_law__law_script) d__law_script e__law_script) (pa_cons pe_int pa_nil (stp rfl)) (stp rfl)) (hdb := d__law_cell_at) (he := stp rfl) (hpl := anp rfl)) pe_int) pe_int) pe_int (nomark _))
 (pss_one (ps_set (i := 4) ND rfl (loc_of (Or.inl l_law__law_full)) (pe_op op_add pe_int (pe_op op_mod (pe_op op_fdiv (pe_call G_Lcell_at (HR.mono (by decide)) (gl_of g_law__law_cell_at) T.mg_Lcell_at T.k_Lcell_at B_Lcell_at .nil pass0 (pa_cons (pe_var (i := 0) (x := "_law_script") rfl (vis_of v_law__law_script) d__law_script e__law_script) (pa_cons pe_int pa_nil (stp rfl)) (stp rfl)) (hdb := d__law_cell_at) (he := stp rfl) (hpl := anp rfl)) pe_int) pe_int))))
 pss_nil)
 (pss_cons (ps_set (i := 5) ND rfl (loc_of (Or.inl l_law__law_carrier_here)) (pe_call G_Lcarrier (HR.mono (by decide)) (gl_of g_law__law_carrier) T.mg_Lcarrier T.k_Lcarrier B_Lcarrier .nil pass0 (pa_cons (pe_var (i := 2) (x := "_law_which") rfl (vis_of v_law__law_which) d__law_which e__law_which) (pa_cons (pe_var (i := 4) (x := "_law_full") rfl (vis_of v_law__law_full) d__law_full e__law_full) pa_nil (stp rfl)) (stp rfl)) (hdb := d__law_carrier) (he := stp rfl) (hpl := anp rfl)))
 (pss_cons (ps_set (i := 6) ND rfl (loc_of (Or.inl l_law__law_other)) (pe_call G_Lcarrier (HR.mono (by decide)) (gl_of g_law__law_carrier) T.mg_Lcarrier T.k_Lcarrier B_Lcarrier .nil pass0 (pa_cons (pe_op op_sub pe_int (pe_var (i := 2) (x := "_law_which") rfl (vis_of v_law__law_which) d__law_which e__law_which)) (pa_cons pe_int pa_nil (stp rfl)) (stp rfl)) (hdb := d__law_carrier) (he := stp rfl) (hpl := anp rfl)))
 (pss_cons (ps_set (i := 7) ND rfl (loc_of (Or.inl l_law__law_floor)) (pe_make T.mk_Floor G_Floor_init (HR.mono (by decide)) (gl_of g_law_Floor) T.mg_Floor B_Floor_init .nil pass0 (pa_cons (pe_callTy call_list_of (gl_of g_law_list) T.b_list PyProof.Rows.Boot.«list» (pa_cons (pe_var (i := 1) (x := "_law_rows") rfl (vis_of v_law__law_rows) d__law_rows e__law_rows) pa_nil (stp rfl)) (hn := n_list) (hdb := d_list) (he := stp rfl) (hpl := anp rfl)) pa_nil (stp rfl)) (hdb := d_Floor) (he := stp rfl) (hpl := anp rfl)))
 (pss_cons (ps_set (i := 8) ND rfl (loc_of (Or.inl l_law__law_cells_here)) (pe_callTy call_tuple_of (gl_of g_law_tuple) T.b_tuple PyProof.Rows.Boot.«tuple» (pa_cons (pe_call G_Lcells (HR.mono (by decide)) (gl_of g_law__law_cells) T.mg_Lcells T.k_Lcells B_Lcells .nil pass0 (pa_cons (pe_var (i := 0) (x := "_law_script") rfl (vis_of v_law__law_script) d__law_script e__law_script) (pa_cons (pe_var (i := 1) (x := "_law_rows") rfl (vis_of v_law__law_rows) d__law_rows e__law_rows) (pa_cons (pe_var (i := 3) (x := "_law_kind") rfl (vis_of v_law__law_kind) d__law_kind e__law_kind) pa_nil (stp rfl)) (stp rfl)) (stp rfl)) (hdb := d__law_cells) (he := stp rfl) (hpl := anp rfl)) pa_nil (stp rfl)) (hn := n_tuple) (hdb := d_tuple) (he := stp rfl) (hpl := anp rfl)))
 (pss_cons (ps_set (i := 9) ND rfl (loc_of (Or.inl l_law__law_charge)) (pe_op op_mod (pe_call G_Lcell_at (HR.mono (by decide)) (gl_of g_law__law_cell_at) T.mg_Lcell_at T.k_Lcell_at B_Lcell_at .nil pass0 (pa_cons (pe_var (i := 0) (x := "_law_script") rfl (vis_of v_law__law_script) d__law_script e__law_script) (pa_cons pe_int pa_nil (stp rfl)) (stp rfl)) (hdb := d__law_cell_at) (he := stp rfl) (hpl := anp rfl)) (pe_op op_add (pe_var (i := 4) (x := "_law_full") rfl (vis_of v_law__law_full) d__law_full e__law_full) pe_int)))
 (pss_cons (ps_if (pt_cmpR op_eq (pe_op op_mod (pe_op op_fdiv (pe_call G_Lcell_at (HR.mono (by decide)) (gl_of g_law__law_cell_at) T.mg_Lcell_at T.k_Lcell_at B_Lcell_at .nil pass0 (pa_cons (pe_var (i := 0) (x := "_law_script") rfl (vis_of v_law__law_script) d__law_script e__law_script) (pa_cons pe_int pa_nil (stp rfl)) (stp rfl)) (hdb := d__law_cell_at) (he := stp rfl) (hpl := anp rfl)) pe_int) pe_int) pe_int (nomark _))
 (pss_one (ps_set (i := 9) ND rfl (loc_of (Or.inl l_law__law_charge)) (pe_var (i := 4) (x := "_law_full") rfl (vis_of v_law__law_full) d__law_full e__law_full)))
 pss_nil)
 (pss_cons (ps_set (i := 10) ND rfl (loc_of (Or.inl l_law__law_begin)) (pe_op op_mod (pe_call G_Lcell_at (HR.mono (by decide)) (gl_of g_law__law_cell_at) T.mg_Lcell_at T.k_Lcell_at B_Lcell_at .nil pass0 (pa_cons (pe_var (i := 0) (x := "_law_script") rfl (vis_of v_law__law_script) d__law_script e__law_script) (pa_cons pe_int pa_nil (stp rfl)) (stp rfl)) (hdb := d__law_cell_at) (he := stp rfl) (hpl := anp rfl)) pe_int))
 (pss_cons (ps_set (i := 11) ND rfl (loc_of (Or.inl l_law__law_due_here)) (pe_call G_Ldue (HR.mono (by decide)) (gl_of g_law__law_due) T.mg_Ldue T.k_Ldue B_Ldue .nil pass0 (pa_cons (pe_var (i := 1) (x := "_law_rows") rfl (vis_of v_law__law_rows) d__law_rows e__law_rows) (pa_cons (pe_var (i := 3) (x := "_law_kind") rfl (vis_of v_law__law_kind) d__law_kind e__law_kind) (pa_cons (pe_var (i := 4) (x := "_law_full") rfl (vis_of v_law__law_full) d__law_full e__law_full) (pa_cons (pe_var (i := 8) (x := "_law_cells_here") rfl (vis_of v_law__law_cells_here) d__law_cells_here e__law_cells_here) (pa_cons (pe_var (i := 9) (x := "_law_charge") rfl (vis_of v_law__law_charge) d__law_charge e__law_charge) pa_nil (stp rfl)) (stp rfl)) (stp rfl)) (stp rfl)) (stp rfl)) (hdb := d__law_due) (he := stp rfl) (hpl := anp rfl)))
 (pss_cons (ps_set (i := 12) ND rfl (loc_of (Or.inl l_law__law_other_kind)) (pe_ix ix_list (pe_lst (pa_cons pe_str (pa_cons pe_str (pa_cons pe_str (pa_cons pe_str pa_nil (stp rfl)) (stp rfl)) (stp rfl)) (stp rfl))) (pe_var (i := 2) (x := "_law_which") rfl (vis_of v_law__law_which) d__law_which e__law_which) (fun _ _ => rfl)))
 (pss_cons (ps_for PassesOwn.never (calm0 rfl) (pi_range1 (gl_of g_law_range) T.b_range (pa_cons pe_int pa_nil (stp rfl)) (st1 rfl)) (pg_name (i := 13) ND rfl (loc_of (Or.inl l_law__law_turn)))
 (pss_cons (ps_set (i := 14) ND rfl (loc_of (Or.inl l_law__law_told_here)) (pe_call G_Ltold (HR.mono (by decide)) (gl_of g_law__law_told) T.mg_Ltold T.k_Ltold B_Ltold .nil pass0 (pa_cons (pe_var (i := 7) (x := "_law_floor") rfl (vis_of v_law__law_floor) d__law_floor e__law_floor) (pa_cons (pe_var (i := 5) (x := "_law_carrier_here") rfl (vis_of v_law__law_carrier_here) d__law_carrier_here e__law_carrier_here) (pa_cons (pe_tup (pa_cons (pe_var (i := 10) (x := "_law_begin") rfl (vis_of v_law__law_begin) d__law_begin e__law_begin) (pa_cons (pe_var (i := 8) (x := "_law_cells_here") rfl (vis_of v_law__law_cells_here) d__law_cells_here e__law_cells_here) pa_nil (stp rfl)) (stp rfl))) (pa_cons (pe_var (i := 9) (x := "_law_charge") rfl (vis_of v_law__law_charge) d__law_charge e__law_charge) pa_nil (stp rfl)) (stp rfl)) (stp rfl)) (stp rfl)) (hdb := d__law_told) (he := stp rfl) (hpl := anp rfl)))
 (pss_cons (ps_if (pt_cmpR (op_neD HU) (pe_var (i := 14) (x := "_law_told_here") rfl (vis_of v_law__law_told_here) d__law_told_here e__law_told_here) (pe_ifExp (pt_cmpR op_isN (pe_var (i := 11) (x := "_law_due_here") rfl (vis_of v_law__law_due_here) d__law_due_here e__law_due_here) pe_non (nomark _)) pe_str (pe_var (i := 11) (x := "_law_due_here") rfl (vis_of v_law__law_due_here) d__law_due_here e__law_due_here)) (nomark _))
 (pss_one (ps_ret pe_bl))
 pss_nil)
 (pss_cons (ps_set (i := 15) ND rfl (loc_of (Or.inl l_law__law_due_other)) (pe_call G_Ldue (HR.mono (by decide)) (gl_of g_law__law_due) T.mg_Ldue T.k_Ldue B_Ldue .nil pass0 (pa_cons (pe_var (i := 1) (x := "_law_rows") rfl (vis_of v_law__law_rows) d__law_rows e__law_rows) (pa_cons (pe_var (i := 12) (x := "_law_other_kind") rfl (vis_of v_law__law_other_kind) d__law_other_kind e__law_other_kind) (pa_cons pe_int (pa_cons (pe_var (i := 8) (x := "_law_cells_here") rfl (vis_of v_law__law_cells_here) d__law_cells_here e__law_cells_here) (pa_cons pe_int pa_nil (stp rfl)) (stp rfl)) (stp rfl)) (stp rfl)) (stp rfl)) (hdb := d__law_due) (he := stp rfl) (hpl := anp rfl)))
 (pss_one (ps_if (pt_cmpR (op_neD HU) (pe_call G_Ltold (HR.mono (by decide)) (gl_of g_law__law_told) T.mg_Ltold T.k_Ltold B_Ltold .nil pass0 (pa_cons (pe_var (i := 7) (x := "_law_floor") rfl (vis_of v_law__law_floor) d__law_floor e__law_floor) (pa_cons (pe_var (i := 6) (x := "_law_other") rfl (vis_of v_law__law_other) d__law_other e__law_other) (pa_cons (pe_tup (pa_cons (pe_var (i := 10) (x := "_law_begin") rfl (vis_of v_law__law_begin) d__law_begin e__law_begin) (pa_cons (pe_var (i := 8) (x := "_law_cells_here") rfl (vis_of v_law__law_cells_here) d__law_cells_here e__law_cells_here) pa_nil (stp rfl)) (stp rfl))) (pa_cons pe_int pa_nil (stp rfl)) (stp rfl)) (stp rfl)) (stp rfl)) (hdb := d__law_told) (he := stp rfl) (hpl := anp rfl)) (pe_ifExp (pt_cmpR op_isN (pe_var (i := 15) (x := "_law_due_other") rfl (vis_of v_law__law_due_other) d__law_due_other e__law_due_other) pe_non (nomark _)) pe_str (pe_var (i := 15) (x := "_law_due_other") rfl (vis_of v_law__law_due_other) d__law_due_other e__law_due_other)) (nomark _))
 (pss_one (ps_ret pe_bl))
 pss_nil))))))
 (pss_one (ps_ret (pe_cmpR (op_eqD HU) (pe_fld (pe_var (i := 7) (x := "_law_floor") rfl (vis_of v_law__law_floor) d__law_floor e__law_floor) (by rfl)) (pe_var (i := 1) (x := "_law_rows") rfl (vis_of v_law__law_rows) d__law_rows e__law_rows) (nomark _)))))))))))))))))))), ?_⟩
    refine tSeq_cut (fun σ H' => ∃ (l : Addr) (w h : Nat) (sg : List Nat), H l = none ∧ Same H H' ∧ LinesAt H' l w h sg ∧ G0 w h sg ∧ σ = [some (V.ref a), some (V.ref l), none, none, none, none, none, none, none, none, none, none, none, none, none, none]) (fun nx hk => ?_) ?_
    · walk_at "RD"
      exact ⟨a, ns, rfl, hS, hb, fun l H' w h sg nl s hL g => hk _ _ ⟨l, w, h, sg, nl, s, hL, g, rfl⟩⟩
    rintro σ H1 ⟨l, w, h, sg0, nl, s1, hL0, g0, rfl⟩
    refine tSeq_cut (fun σ H' => ∃ (sg : List Nat), Same H H' ∧ LinesAt H' l w h sg ∧ Good w h sg ∧ σ = [some (V.ref a), some (V.ref l), none, none, none, none, none, none, none, none, none, none, none, none, none, none]) (fun nx hk => ?_) ?_
    · have w0 := g0.w0
      have w1 := g0.w1
      have h0 := g0.h0
      have h1 := g0.h1
      have len := g0.len
      have e0 : atI ((Fl.linesOf w h sg0).map V.str) 0 = some (V.str (lineOf w sg0 0)) := atI_nat (j := 0) (by rw [List.getElem?_map, lines_get (by omega)]; rfl)
      have eL := line_len0 len (show 0 < h by omega)
      have l1 : (Str.ofString "#").length = 1 := by decide +kernel
      walk_at "RD"
      refine ⟨⟨_, SqL.of hL0⟩, comp_pure (src_list (SqL.of hL0)) noHashV (fun v => v) (fun y hy Q hh => ?_) (fun y hy _ Q hh => by walk_at "RD"; exact hh) (by rw [List.length_map, lines_len]; omega) ?_⟩
      · obtain ⟨z, hz, rfl⟩ := List.mem_map.mp hy
        have lz : z.length = w := by
          obtain ⟨i, hi, rfl⟩ := List.mem_map.mp hz
          exact line_len0 len (List.mem_range.mp hi)
        walk_at "RD"
        exact ⟨by omega, mul_ok _ _ (by omega) (by rw [l1, Nat.one_mul]; omega), hh⟩
      · intro D nD
        have ez : ((((Fl.linesOf w h sg0).map V.str).filter noHashV).map fun v => v) = ((Fl.linesOf w h sg0).filter noHash).map V.str := by
          rw [List.map_id', List.filter_map]
          rfl
        rw [ez]
        have hs : SeqAt.shaped (.list (((Fl.linesOf w h sg0).filter noHash).map PyData.str)) = true := shaped_strs _ (fun x hx => by
          obtain ⟨j, _, rfl⟩ := List.mem_map.mp (List.mem_filter.mp hx).1
          refine strOk_of fun c hc => ?_
          unfold lineOf at hc
          rw [txt_list] at hc
          rcases g0.ok c (List.mem_of_mem_drop (List.mem_of_mem_take hc)) with z | z | z | z | z <;> omega)
        refine ⟨Nat.zero_le _, fun p np => ?_⟩
        have S := (same_new (o := HO.lst (((Fl.linesOf w h sg0).filter noHash).map V.str)) nD).trans (same_new (o := HO.lst []) np)
        have Dp : upd (upd H1 D (HO.lst (((Fl.linesOf w h sg0).filter noHash).map V.str))) p (HO.lst []) D = some (HO.lst (((Fl.linesOf w h sg0).filter noHash).map V.str)) := (same_new np) _ _ upd_same
        refine ⟨_, .lst (SqL.of Dp) (denAll_strs _), _, .lst (SqL.of upd_same) .nil, hs, rfl, ?_⟩
        split
        · have sl := Txt.slice_le (lineOf w sg0 0) (some 1) none
          have ld : (Str.ofString ".").length = 1 := by decide +kernel
          have wh : w ≤ w * h := by
            have := Nat.mul_le_mul_left w h0
            rwa [Nat.mul_one] at this
          refine ⟨_, SqL.of (S _ _ hL0), _, e0, _, rfl, by rw [eL]; omega, by omega, _, S _ _ hL0, 0, by simp [ixN, lines_len]; omega, hk _ _ ⟨46 :: sg0.drop 1, same_upd (s1.trans S) nl, ?_, ⟨w0, w1, h0, h1, ?_, ?_, 46, by simp, by decide⟩, rfl⟩⟩
          · have : Str.ofString "." ++ Txt.slice (lineOf w sg0 0) (some 1) none = txt (46 :: ((sg0.take w).drop 1)) := by
              refine str_ext ?_
              unfold lineOf
              rw [Nat.mul_zero, List.drop_zero, str_app_list, slice_from1, txt_list]
              have e : (Str.ofString ".").cps.toList = [46] := by decide +kernel
              rw [e]
              rfl
            show upd _ _ _ l = some (HO.lst ((Fl.linesOf w h (46 :: sg0.drop 1)).map V.str))
            rw [this, lines_fix w0 len h0, upd_same, List.map_set]
          · rw [List.length_cons, List.length_drop]; omega
          · intro c hc
            rcases List.mem_cons.mp hc with y | y
            · exact .inl y
            · exact g0.ok c (List.mem_of_mem_drop y)
        · rename_i hne
          refine hk _ _ ⟨sg0, s1.trans S, S _ _ hL0, ⟨w0, w1, h0, h1, len, g0.ok, ?_⟩, rfl⟩
          apply Classical.byContradiction
          intro hno
          refine hne ?_
          have : (Fl.linesOf w h sg0).filter noHash = [] := List.filter_eq_nil_iff.mpr fun z hz => by
            obtain ⟨j, _, rfl⟩ := List.mem_map.mp hz
            rw [show lineOf w sg0 j = txt ((sg0.drop (w * j)).take w) from rfl, hash_line (fun c hc => Classical.byContradiction fun h35 => hno ⟨c, List.mem_of_mem_drop (List.mem_of_mem_take hc), h35⟩)]
            decide
          rw [this]
          simp [PyData.eqv, PyData.eqvAll]
    rintro σ H2 ⟨sg, s2, hL2, g, rfl⟩
    refine tSeq_cut (fun σ H' => ∃ j : Nat, j ≤ 3 ∧ H' = H2 ∧ σ = [some (V.ref a), some (V.ref l), some (V.int (j : Int)), none, none, none, none, none, none, none, none, none, none, none, none, none]) (fun nx hk => ?_) ?_
    · walk_at "RD"
      refine ⟨a, ns, _, rfl, s2.seq hS, hb, by decide, fun c cb => ⟨_, rfl, by decide, hk _ _ ⟨(c % 4).toNat, by omega, rfl, ?_⟩⟩⟩
      rw [Int.toNat_of_nonneg (by omega)]
    rintro σ H3 ⟨j, j3, rfl, rfl⟩
    refine tSeq_cut (fun σ H' => ∃ x, kindsL[kindNo j]? = some x ∧ Same H3 H' ∧ σ = [some (V.ref a), some (V.ref l), some (V.int (j : Int)), some (V.str x), none, none, none, none, none, none, none, none, none, none, none, none]) (fun nx hk => ?_) ?_
    · walk_at "RD"
      refine ⟨by omega, fun p np => ?_⟩
      match j, j3 with
      | 0, _ => exact ⟨_, SqL.of upd_same, _, rfl, hk _ _ ⟨_, rfl, same_new np, rfl⟩⟩
      | 1, _ => exact ⟨_, SqL.of upd_same, _, rfl, hk _ _ ⟨_, rfl, same_new np, rfl⟩⟩
      | 2, _ => exact ⟨_, SqL.of upd_same, _, rfl, hk _ _ ⟨_, rfl, same_new np, rfl⟩⟩
      | 3, _ => exact ⟨_, SqL.of upd_same, _, rfl, hk _ _ ⟨_, rfl, same_new np, rfl⟩⟩
      | (j + 4), z => omega
    rintro σ H4 ⟨x, hx, s4, rfl⟩
    refine tSeq_cut (fun σ H' => ∃ n : Int, 1 ≤ n ∧ n ≤ 60 ∧ H' = H4 ∧ σ = [some (V.ref a), some (V.ref l), some (V.int (j : Int)), some (V.str x), some (V.int n), none, none, none, none, none, none, none, none, none, none, none]) (fun nx hk => ?_) ?_
    · walk_at "RD"
      exact ⟨a, ns, _, rfl, (s2.trans s4).seq hS, hb, by decide, fun c cb => ⟨_, rfl, ⟨by decide, by decide⟩, by decide, hk _ _ ⟨_, by omega, by omega, rfl, rfl⟩⟩⟩
    rintro σ H5 ⟨n1, n10, n11, rfl, rfl⟩
    refine tSeq_cut (fun σ H' => ∃ n : Int, 1 ≤ n ∧ n ≤ 60 ∧ H' = H5 ∧ σ = [some (V.ref a), some (V.ref l), some (V.int (j : Int)), some (V.str x), some (V.int n), none, none, none, none, none, none, none, none, none, none, none]) (fun nx hk => ?_) ?_
    · walk_at "RD"
      refine ⟨a, ns, _, rfl, (s2.trans s4).seq hS, hb, by decide, fun c cb => ⟨_, rfl, ⟨by decide, by decide⟩, by decide, ?_⟩⟩
      split
      · exact ⟨a, ns, _, rfl, (s2.trans s4).seq hS, hb, by decide, fun c cb => ⟨_, rfl, ⟨by decide, by decide⟩, by decide, hk _ _ ⟨_, by omega, by omega, rfl, rfl⟩⟩⟩
      · exact hk _ _ ⟨n1, n10, n11, rfl, rfl⟩
    rintro σ H6 ⟨n, n0, n60, rfl, rfl⟩
    refine tSeq_cut (fun σ H' => ∃ p, Same H6 H' ∧ CarAt ad H' p (kindNo j) n ∧ σ = [some (V.ref a), some (V.ref l), some (V.int (j : Int)), some (V.str x), some (V.int n), some (V.ref p), none, none, none, none, none, none, none, none, none, none]) (fun nx hk => ?_) ?_
    · walk_at "RD"
      exact ⟨j, n, rfl, j3, fun p H' s np c => hk _ _ ⟨p, s, c, rfl⟩⟩
    rintro σ H7 ⟨p, s7, hp, rfl⟩
    refine tSeq_cut (fun σ H' => ∃ p2, Same H7 H' ∧ CarAt ad H' p2 (kindNo (3 - j)) 60 ∧ σ = [some (V.ref a), some (V.ref l), some (V.int (j : Int)), some (V.str x), some (V.int n), some (V.ref p), some (V.ref p2), none, none, none, none, none, none, none, none, none]) (fun nx hk => ?_) ?_
    · walk_at "RD"
      rw [show (3 : Int) - (j : Int) = ((3 - j : Nat) : Int) by omega]
      exact ⟨3 - j, 60, rfl, by omega, fun p H' s np c => hk _ _ ⟨p, s, c, rfl⟩⟩
    rintro σ H8 ⟨p2, s8, hp2, rfl⟩
    have s08 : Same H3 H8 := s4.trans (s7.trans s8)
    refine tSeq_cut (fun σ H' => ∃ fl, Same H8 H' ∧ FloorAt ad.C_Floor H' fl w h sg ∧ σ = [some (V.ref a), some (V.ref l), some (V.int (j : Int)), some (V.str x), some (V.int n), some (V.ref p), some (V.ref p2), some (V.ref fl), none, none, none, none, none, none, none, none]) (fun nx hk => ?_) ?_
    · walk_at "RD"
      refine ⟨_, .inl (SqL.of (s08 _ _ hL2)), fun cp ncp p dx np nd nn => ⟨p, dx, cp, w, h, sg, rfl, upd_same, ?_, g, fun H' dx' l2 n2 e1 e2 fr => ⟨rfl, ?_⟩⟩⟩
      · have c1 : cp ≠ p := fun z => by rw [z, upd_same] at np; cases np
        have c2 : cp ≠ dx := fun z => by rw [z, upd_same] at nd; cases nd
        show upd _ _ _ cp = _
        rw [upd_ne c1, upd_ne c2, upd_same]
      · refine hk _ _ ⟨p, fun b o e => ?_, ⟨⟨dx', l2, e1, e2⟩⟩, rfl⟩
        have e' : upd H8 cp (HO.lst ((Fl.linesOf w h sg).map V.str)) b = some o := (same_new ncp) _ _ e
        exact fr b o (by rw [upd_ne (ne_of_none e' np), upd_ne (ne_of_none e' nd)]; exact e') (ne_of_none e' np)
    rintro σ H9 ⟨fl, s9, F0, rfl⟩
    have s09 : Same H3 H9 := s08.trans s9
    refine tSeq_cut (fun σ H' => ∃ (q : Addr) (cs : List Int), Same H9 H' ∧ H' q = some (.tup (cs.map V.int)) ∧ cs ≠ [] ∧ cs.length ≤ 25 ∧ σ = [some (V.ref a), some (V.ref l), some (V.int (j : Int)), some (V.str x), some (V.int n), some (V.ref p), some (V.ref p2), some (V.ref fl), some (V.ref q), none, none, none, none, none, none, none]) (fun nx hk => ?_) ?_
    · walk_at "RD"
      refine ⟨a, l, ns, x, kindNo j, w, h, sg, rfl, (s2.trans s09).seq hS, hb, hx, s09 _ _ hL2, g, fun r H' cs nr s hr c0 cl => ⟨r, rfl, _, .inl ⟨SqL.of hr, fun q nq => hk _ _ ⟨q, cs, s.trans (same_new nq), upd_same, c0, cl, rfl⟩⟩⟩⟩
    rintro σ H10 ⟨q, cs, s10, hq10, c0, cl, rfl⟩
    have s010 : Same H3 H10 := s09.trans s10
    refine tSeq_cut (fun σ H' => ∃ k : Int, 0 ≤ k ∧ k ≤ n ∧ H' = H10 ∧ σ = [some (V.ref a), some (V.ref l), some (V.int (j : Int)), some (V.str x), some (V.int n), some (V.ref p), some (V.ref p2), some (V.ref fl), some (V.ref q), some (V.int k), none, none, none, none, none, none]) (fun nx hk => ?_) ?_
    · walk_at "RD"
      refine ⟨a, ns, _, rfl, (s2.trans s010).seq hS, hb, by decide, fun c cb => ⟨_, rfl, by omega, hk _ _ ⟨_, Int.emod_nonneg _ (by omega), ?_, rfl, rfl⟩⟩⟩
      have := Int.emod_lt_of_pos c (show 0 < n + 1 by omega)
      omega
    rintro σ H11 ⟨k1, k10, k11, rfl, rfl⟩
    refine tSeq_cut (fun σ H' => ∃ k : Int, 0 ≤ k ∧ k ≤ n ∧ H' = H11 ∧ σ = [some (V.ref a), some (V.ref l), some (V.int (j : Int)), some (V.str x), some (V.int n), some (V.ref p), some (V.ref p2), some (V.ref fl), some (V.ref q), some (V.int k), none, none, none, none, none, none]) (fun nx hk => ?_) ?_
    · walk_at "RD"
      refine ⟨a, ns, _, rfl, (s2.trans s010).seq hS, hb, by decide, fun c cb => ⟨_, rfl, ⟨by decide, by decide⟩, by decide, ?_⟩⟩
      split
      · exact hk _ _ ⟨n, by omega, by omega, rfl, rfl⟩
      · exact hk _ _ ⟨k1, k10, k11, rfl, rfl⟩
    rintro σ H12 ⟨k, k0, kn, rfl, rfl⟩
    refine tSeq_cut (fun σ H' => ∃ b : Int, H' = H12 ∧ σ = [some (V.ref a), some (V.ref l), some (V.int (j : Int)), some (V.str x), some (V.int n), some (V.ref p), some (V.ref p2), some (V.ref fl), some (V.ref q), some (V.int k), some (V.int b), none, none, none, none, none]) (fun nx hk => ?_) ?_
    · walk_at "RD"
      exact ⟨a, ns, _, rfl, (s2.trans s010).seq hS, hb, by decide, fun c cb => ⟨_, rfl, by decide, hk _ _ ⟨_, rfl, rfl⟩⟩⟩
    rintro σ H13 ⟨b, rfl, rfl⟩
    refine tSeq_cut (fun σ H' => ∃ v, Same H13 H' ∧ DueV H' v (dueOf (kindNo j) w sg n k cs) ∧ σ = [some (V.ref a), some (V.ref l), some (V.int (j : Int)), some (V.str x), some (V.int n), some (V.ref p), some (V.ref p2), some (V.ref fl), some (V.ref q), some (V.int k), some (V.int b), some v, none, none, none, none]) (fun nx hk => ?_) ?_
    · walk_at "RD"
      refine ⟨l, q, x, kindNo j, w, h, sg, n, k, cs, rfl, hx, s010 _ _ hL2, g, hq10, c0, by omega, fun H' s => ?_⟩
      cases hd : dueOf (kindNo j) w sg n k cs with
      | none => exact hk _ _ ⟨_, s, by rw [hd]; rfl, rfl⟩
      | some ks => exact fun r nr hr => hk _ _ ⟨_, s, by rw [hd]; exact ⟨r, rfl, hr⟩, rfl⟩
    rintro σ H14 ⟨v, s14, hv, rfl⟩
    have s014 : Same H3 H14 := s010.trans s14
    refine tSeq_cut (fun σ H' => ∃ x2, kindsL[kindNo (3 - j)]? = some x2 ∧ Same H14 H' ∧ σ = [some (V.ref a), some (V.ref l), some (V.int (j : Int)), some (V.str x), some (V.int n), some (V.ref p), some (V.ref p2), some (V.ref fl), some (V.ref q), some (V.int k), some (V.int b), some v, some (V.str x2), none, none, none]) (fun nx hk => ?_) ?_
    · walk_at "RD"
      refine ⟨by omega, fun p np => ?_⟩
      match j, j3 with
      | 0, _ => exact ⟨_, SqL.of upd_same, _, rfl, hk _ _ ⟨_, rfl, same_new np, rfl⟩⟩
      | 1, _ => exact ⟨_, SqL.of upd_same, _, rfl, hk _ _ ⟨_, rfl, same_new np, rfl⟩⟩
      | 2, _ => exact ⟨_, SqL.of upd_same, _, rfl, hk _ _ ⟨_, rfl, same_new np, rfl⟩⟩
      | 3, _ => exact ⟨_, SqL.of upd_same, _, rfl, hk _ _ ⟨_, rfl, same_new np, rfl⟩⟩
      | (j + 4), z => omega
    rintro σ H15 ⟨x2, hx2, s15, rfl⟩
    refine tSeq_cut (fun σ H' => ∃ (y1 y2 y3 : Option V), Same H15 H' ∧ σ = [some (V.ref a), some (V.ref l), some (V.int (j : Int)), some (V.str x), some (V.int n), some (V.ref p), some (V.ref p2), some (V.ref fl), some (V.ref q), some (V.int k), some (V.int b), some v, some (V.str x2), y1, y2, y3]) (fun nx hk => ?_) ?_
    · walk_at "RD"
      refine ⟨by decide, by decide, for_range (fun i σ H' => ∃ (y1 y2 y3 : Option V), Same H15 H' ∧ σ = [some (V.ref a), some (V.ref l), some (V.int (j : Int)), some (V.str x), some (V.int n), some (V.ref p), some (V.ref p2), some (V.ref fl), some (V.ref q), some (V.int k), some (V.int b), some v, some (V.str x2), y1, y2, y3]) ⟨none, none, none, Same.refl _, rfl⟩ ?_ ?_⟩
      · rintro i σ H' hi ⟨y1, y2, y3, s16, rfl⟩
        have s10_16 : Same H13 H' := (s14.trans s15).trans s16
        have s03 : Same H3 H' := s010.trans s10_16
        have hq16 := s10_16 _ _ hq10
        have F16 : FloorAt ad.C_Floor H' fl w h sg := F0.same (s10.trans s10_16)
        have P16 : CarAt ad H' p (kindNo j) n := hp.same (s8.trans (s9.trans (s10.trans s10_16)))
        have P26 : CarAt ad H' p2 (kindNo (3 - j)) 60 := hp2.same (s9.trans (s10.trans s10_16))
        have kj : ∀ j, kindNo j ≤ 3 ∨ 4 < j := fun j => by
          match j with
          | 0 => exact .inl (by decide)
          | 1 => exact .inl (by decide)
          | 2 => exact .inl (by decide)
          | 3 => exact .inl (by decide)
          | 4 => exact .inl (by decide)
          | (j + 5) => exact .inr (by omega)
        have kj1 : kindNo j ≤ 3 := by have := kj j; omega
        have kj2 : kindNo (3 - j) ≤ 3 := by have := kj (3 - j); omega
        refine tSeq_cut (fun σ H'' => ∃ t y3, Same H' H'' ∧ ToldV H'' t (dueOf (kindNo j) w sg n k cs) ∧ σ = [some (V.ref a), some (V.ref l), some (V.int (j : Int)), some (V.str x), some (V.int n), some (V.ref p), some (V.ref p2), some (V.ref fl), some (V.ref q), some (V.int k), some (V.int b), some v, some (V.str x2), some (V.int (0 + (i : Int))), some t, y3]) (fun nx hk => ?_) ?_
        · walk_at "RD"
          refine ⟨by omega, fun wy nw => ⟨p, fl, wy, q, kindNo j, n, w, h, sg, b, k, cs, rfl, P16.same (same_new nw), kj1, F16.same (same_new nw), g, upd_same, (same_new nw) _ _ hq16, c0, by omega, fun H'' s => ?_⟩⟩
          rw [walked_due (by omega) k0]
          cases hd : dueOf (kindNo j) w sg n k cs with
          | none => exact hk _ _ ⟨_, _, (same_new nw).trans s, by rw [hd]; rfl, rfl⟩
          | some ks => exact fun r nr hr => hk _ _ ⟨_, _, (same_new nw).trans s, by rw [hd]; exact ⟨r, rfl, hr⟩, rfl⟩
        rintro σ H17 ⟨tv, y4, s17, ht, rfl⟩
        refine tSeq_cut (fun σ H'' => H'' = H17 ∧ σ = [some (V.ref a), some (V.ref l), some (V.int (j : Int)), some (V.str x), some (V.int n), some (V.ref p), some (V.ref p2), some (V.ref fl), some (V.ref q), some (V.int k), some (V.int b), some v, some (V.str x2), some (V.int (0 + (i : Int))), some tv, y4]) (fun nx hk => ?_) ?_
        · walk_at "RD"
          exact told_due ht (hv.same ((s15.trans s16).trans s17)) (hk _ _ ⟨rfl, rfl⟩)
        rintro σ H18 ⟨rfl, rfl⟩
        have sx := s10_16.trans s17
        refine tSeq_cut (fun σ H'' => ∃ v2, Same H18 H'' ∧ DueV H'' v2 (dueOf (kindNo (3 - j)) w sg 60 60 cs) ∧ σ = [some (V.ref a), some (V.ref l), some (V.int (j : Int)), some (V.str x), some (V.int n), some (V.ref p), some (V.ref p2), some (V.ref fl), some (V.ref q), some (V.int k), some (V.int b), some v, some (V.str x2), some (V.int (0 + (i : Int))), some tv, some v2]) (fun nx hk => ?_) ?_
        · walk_at "RD"
          refine ⟨l, q, x2, kindNo (3 - j), w, h, sg, 60, 60, cs, rfl, hx2, (s03.trans s17) _ _ hL2, g, s17 _ _ hq16, c0, by omega, fun H' s => ?_⟩
          cases hd : dueOf (kindNo (3 - j)) w sg 60 60 cs with
          | none => exact hk _ _ ⟨_, s, by rw [hd]; rfl, rfl⟩
          | some ks => exact fun r nr hr => hk _ _ ⟨_, s, by rw [hd]; exact ⟨r, rfl, hr⟩, rfl⟩
        rintro σ H19 ⟨v2, s19, hv2, rfl⟩
        have s1719 := s17.trans s19
        walk_at "RD"
        refine ⟨by omega, fun wy nw => ⟨p2, fl, wy, q, kindNo (3 - j), 60, w, h, sg, b, 60, cs, rfl, (P26.same s1719).same (same_new nw), kj2, (F16.same s1719).same (same_new nw), g, upd_same, (same_new nw) _ _ (s1719 _ _ hq16), c0, by omega, fun H'' s => ?_⟩⟩
        rw [walked_due (by decide) (by decide)]
        have sf := (same_new (o := HO.tup [V.int b, V.ref q]) nw).trans s
        have fin : ∀ u, ToldV H'' u (dueOf (kindNo (3 - j)) w sg 60 60 cs) → _ := fun u hu => told_due (K := K) (A := Q (V.bl false) H'') (B := Same H15 H'' ∧ ∃ x, some v2 = x) hu (hv2.same sf) ⟨s16.trans (s1719.trans sf), _, rfl⟩
        cases hd : dueOf (kindNo (3 - j)) w sg 60 60 cs with
        | none => exact fin _ (by rw [hd]; rfl)
        | some ks => exact fun r nr hr => fin _ (by rw [hd]; exact ⟨r, rfl, hr⟩)
      · rintro σ H' ⟨y1, y2, y3, s16, rfl⟩
        exact hk _ _ ⟨y1, y2, y3, s16, rfl⟩
    rintro σ H16 ⟨y1, y2, y3, s16, rfl⟩
    walk_at "RD"
    have sz : Same H9 H16 := s10.trans (s14.trans (s15.trans s16))
    obtain ⟨dx, lf, f1, f2⟩ := (F0.same sz).ob
    have hs : SeqAt.shaped (.list ((Fl.linesOf w h sg).map PyData.str)) = true := shaped_strs _ (fun x hx => by
      obtain ⟨j, _, rfl⟩ := List.mem_map.mp hx
      refine strOk_of fun c hc => ?_
      rcases line_ok g c hc with z | z | z | z | z <;> omega)
    refine ⟨_, _, _, f1, T.cl_Floor, T.n_Floor_lines, _, f_lines _ _ _ _, _, .lst (SqL.of f2) (denAll_strs _), _, .lst (SqL.of (sz _ _ (s09 _ _ hL2))) (denAll_strs _), hs, hs, ?_⟩
    rw [eqv_self _ (SeqAt.canLay_of_shaped hs)]
    exact hq _
end

set_option maxHeartbeats 4000000 in
theorem all_mk {l : PySem.W.OpenLaw} {w : World} {K : PySem.W.Frag} {h : Heap} {mg : Str → Option Value} {fa : Addr} (X : K.In h) (G : h.Ns mainGlobals mg) (hfa : mg "law" = some (.ref fa))
    {C_Floor : Addr}
    {C_Cart : Addr}
    {C_Crawler : Addr}
    {C_Runner : Addr}
    {C_Carrier : Addr}
    {C_BadWay : Addr}
    {C_FloorError : Addr}
    {C_BadFloor : Addr}
    {C_BadKind : Addr}
    {C_BadCell : Addr}
    {C_BadCharge : Addr}
    {C_BadStops : Addr}
    {C_Empty : Addr}
    {C_NoCarrier : Addr}
    {C_NoTask : Addr}
    {C_Meets : Addr}
    {C_Taken : Addr}
    {C_Busy : Addr}
    {C_NoReserve : Addr}
    {C_Closed : Addr}
    {C_Jammed : Addr}
    {K_COMMON_SIGNS : Addr} {kc_COMMON_SIGNS : Option Addr} {kn_COMMON_SIGNS : Nat} {ks_COMMON_SIGNS : Array (Option Value)} {kk_COMMON_SIGNS0 : Tok} {kk_COMMON_SIGNS1 : Tok} {kk_COMMON_SIGNS2 : Tok}
    {f_is_whole : Addr} {od_is_whole an_is_whole : Option Addr} {sl_is_whole : Array (Option Value)} {oc_is_whole kV_is_whole dc_is_whole pm_is_whole cd_is_whole ct_is_whole : Value}
    {f_is_among : Addr} {od_is_among an_is_among : Option Addr} {sl_is_among : Array (Option Value)} {oc_is_among kV_is_among dc_is_among pm_is_among cd_is_among ct_is_among : Value}
    {f_check_row : Addr} {od_check_row an_check_row : Option Addr} {sl_check_row : Array (Option Value)} {oc_check_row kV_check_row dc_check_row pm_check_row cd_check_row ct_check_row : Value}
    {f_check_floor : Addr} {od_check_floor an_check_floor : Option Addr} {sl_check_floor : Array (Option Value)} {oc_check_floor kV_check_floor dc_check_floor pm_check_floor cd_check_floor ct_check_floor : Value}
    {f_Floor_init : Addr} {od_Floor_init an_Floor_init : Option Addr} {sl_Floor_init : Array (Option Value)} {oc_Floor_init kV_Floor_init dc_Floor_init pm_Floor_init cd_Floor_init ct_Floor_init : Value}
    {f_Floor_has : Addr} {od_Floor_has an_Floor_has : Option Addr} {sl_Floor_has : Array (Option Value)} {oc_Floor_has kV_Floor_has dc_Floor_has pm_Floor_has cd_Floor_has ct_Floor_has : Value}
    {f_Floor_sign : Addr} {od_Floor_sign an_Floor_sign : Option Addr} {sl_Floor_sign : Array (Option Value)} {oc_Floor_sign kV_Floor_sign dc_Floor_sign pm_Floor_sign cd_Floor_sign ct_Floor_sign : Value}
    {f_Floor_column : Addr} {od_Floor_column an_Floor_column : Option Addr} {sl_Floor_column : Array (Option Value)} {oc_Floor_column kV_Floor_column dc_Floor_column pm_Floor_column cd_Floor_column ct_Floor_column : Value}
    {f_Floor_row : Addr} {od_Floor_row an_Floor_row : Option Addr} {sl_Floor_row : Array (Option Value)} {oc_Floor_row kV_Floor_row dc_Floor_row pm_Floor_row cd_Floor_row ct_Floor_row : Value}
    {f_Floor_beside : Addr} {od_Floor_beside an_Floor_beside : Option Addr} {sl_Floor_beside : Array (Option Value)} {oc_Floor_beside kV_Floor_beside dc_Floor_beside pm_Floor_beside cd_Floor_beside ct_Floor_beside : Value}
    {f_Carrier_init : Addr} {od_Carrier_init an_Carrier_init : Option Addr} {sl_Carrier_init : Array (Option Value)} {oc_Carrier_init kV_Carrier_init dc_Carrier_init pm_Carrier_init cd_Carrier_init ct_Carrier_init : Value}
    {f_Carrier_may_stand : Addr} {od_Carrier_may_stand an_Carrier_may_stand : Option Addr} {sl_Carrier_may_stand : Array (Option Value)} {oc_Carrier_may_stand kV_Carrier_may_stand dc_Carrier_may_stand pm_Carrier_may_stand cd_Carrier_may_stand ct_Carrier_may_stand : Value}
    {f_Carrier_gain : Addr} {od_Carrier_gain an_Carrier_gain : Option Addr} {sl_Carrier_gain : Array (Option Value)} {oc_Carrier_gain kV_Carrier_gain dc_Carrier_gain pm_Carrier_gain cd_Carrier_gain ct_Carrier_gain : Value}
    {f_Carrier_fare : Addr} {od_Carrier_fare an_Carrier_fare : Option Addr} {sl_Carrier_fare : Array (Option Value)} {oc_Carrier_fare kV_Carrier_fare dc_Carrier_fare pm_Carrier_fare cd_Carrier_fare ct_Carrier_fare : Value}
    {f_Carrier_cost : Addr} {od_Carrier_cost an_Carrier_cost : Option Addr} {sl_Carrier_cost : Array (Option Value)} {oc_Carrier_cost kV_Carrier_cost dc_Carrier_cost pm_Carrier_cost cd_Carrier_cost ct_Carrier_cost : Value}
    {f_Carrier_steps : Addr} {od_Carrier_steps an_Carrier_steps : Option Addr} {sl_Carrier_steps : Array (Option Value)} {oc_Carrier_steps kV_Carrier_steps dc_Carrier_steps pm_Carrier_steps cd_Carrier_steps ct_Carrier_steps : Value}
    {f_Carrier_stayed : Addr} {od_Carrier_stayed an_Carrier_stayed : Option Addr} {sl_Carrier_stayed : Array (Option Value)} {oc_Carrier_stayed kV_Carrier_stayed dc_Carrier_stayed pm_Carrier_stayed cd_Carrier_stayed ct_Carrier_stayed : Value}
    {f_Carrier_fare_if_standing : Addr} {od_Carrier_fare_if_standing an_Carrier_fare_if_standing : Option Addr} {sl_Carrier_fare_if_standing : Array (Option Value)} {oc_Carrier_fare_if_standing kV_Carrier_fare_if_standing dc_Carrier_fare_if_standing pm_Carrier_fare_if_standing cd_Carrier_fare_if_standing ct_Carrier_fare_if_standing : Value}
    {f_Crawler_may_stand : Addr} {od_Crawler_may_stand an_Crawler_may_stand : Option Addr} {sl_Crawler_may_stand : Array (Option Value)} {oc_Crawler_may_stand kV_Crawler_may_stand dc_Crawler_may_stand pm_Crawler_may_stand cd_Crawler_may_stand ct_Crawler_may_stand : Value}
    {f_Crawler_gain : Addr} {od_Crawler_gain an_Crawler_gain : Option Addr} {sl_Crawler_gain : Array (Option Value)} {oc_Crawler_gain kV_Crawler_gain dc_Crawler_gain pm_Crawler_gain cd_Crawler_gain ct_Crawler_gain : Value}
    {f_Crawler_fare : Addr} {od_Crawler_fare an_Crawler_fare : Option Addr} {sl_Crawler_fare : Array (Option Value)} {oc_Crawler_fare kV_Crawler_fare dc_Crawler_fare pm_Crawler_fare cd_Crawler_fare ct_Crawler_fare : Value}
    {f_Runner_gain : Addr} {od_Runner_gain an_Runner_gain : Option Addr} {sl_Runner_gain : Array (Option Value)} {oc_Runner_gain kV_Runner_gain dc_Runner_gain pm_Runner_gain cd_Runner_gain ct_Runner_gain : Value}
    {f_Runner_fare : Addr} {od_Runner_fare an_Runner_fare : Option Addr} {sl_Runner_fare : Array (Option Value)} {oc_Runner_fare kV_Runner_fare dc_Runner_fare pm_Runner_fare cd_Runner_fare ct_Runner_fare : Value}
    {f_stands_at : Addr} {od_stands_at an_stands_at : Option Addr} {sl_stands_at : Array (Option Value)} {oc_stands_at kV_stands_at dc_stands_at pm_stands_at cd_stands_at ct_stands_at : Value}
    {f_walked : Addr} {od_walked an_walked : Option Addr} {sl_walked : Array (Option Value)} {oc_walked kV_walked dc_walked pm_walked cd_walked ct_walked : Value}
    {f_next_charge : Addr} {od_next_charge an_next_charge : Option Addr} {sl_next_charge : Array (Option Value)} {oc_next_charge kV_next_charge dc_next_charge pm_next_charge cd_next_charge ct_next_charge : Value}
    {f_Lcell_at : Addr} {od_Lcell_at an_Lcell_at : Option Addr} {sl_Lcell_at : Array (Option Value)} {oc_Lcell_at kV_Lcell_at dc_Lcell_at pm_Lcell_at cd_Lcell_at ct_Lcell_at : Value}
    {f_Lmixed : Addr} {od_Lmixed an_Lmixed : Option Addr} {sl_Lmixed : Array (Option Value)} {oc_Lmixed kV_Lmixed dc_Lmixed pm_Lmixed cd_Lmixed ct_Lmixed : Value}
    {f_Lwhole : Addr} {od_Lwhole an_Lwhole : Option Addr} {sl_Lwhole : Array (Option Value)} {oc_Lwhole kV_Lwhole dc_Lwhole pm_Lwhole cd_Lwhole ct_Lwhole : Value}
    {f_Llines : Addr} {od_Llines an_Llines : Option Addr} {sl_Llines : Array (Option Value)} {oc_Llines kV_Llines dc_Llines pm_Llines cd_Llines ct_Llines : Value}
    {f_Lsign : Addr} {od_Lsign an_Lsign : Option Addr} {sl_Lsign : Array (Option Value)} {oc_Lsign kV_Lsign dc_Lsign pm_Lsign cd_Lsign ct_Lsign : Value}
    {f_Laround : Addr} {od_Laround an_Laround : Option Addr} {sl_Laround : Array (Option Value)} {oc_Laround kV_Laround dc_Laround pm_Laround cd_Laround ct_Laround : Value}
    {f_Lstands : Addr} {od_Lstands an_Lstands : Option Addr} {sl_Lstands : Array (Option Value)} {oc_Lstands kV_Lstands dc_Lstands pm_Lstands cd_Lstands ct_Lstands : Value}
    {f_Lcost : Addr} {od_Lcost an_Lcost : Option Addr} {sl_Lcost : Array (Option Value)} {oc_Lcost kV_Lcost dc_Lcost pm_Lcost cd_Lcost ct_Lcost : Value}
    {f_Ldue : Addr} {od_Ldue an_Ldue : Option Addr} {sl_Ldue : Array (Option Value)} {oc_Ldue kV_Ldue dc_Ldue pm_Ldue cd_Ldue ct_Ldue : Value}
    {f_Lcells : Addr} {od_Lcells an_Lcells : Option Addr} {sl_Lcells : Array (Option Value)} {oc_Lcells kV_Lcells dc_Lcells pm_Lcells cd_Lcells ct_Lcells : Value}
    {f_Lis_bad_way : Addr} {od_Lis_bad_way an_Lis_bad_way : Option Addr} {sl_Lis_bad_way : Array (Option Value)} {oc_Lis_bad_way kV_Lis_bad_way dc_Lis_bad_way pm_Lis_bad_way cd_Lis_bad_way ct_Lis_bad_way : Value}
    {f_Ltold : Addr} {od_Ltold an_Ltold : Option Addr} {sl_Ltold : Array (Option Value)} {oc_Ltold kV_Ltold dc_Ltold pm_Ltold cd_Ltold ct_Ltold : Value}
    {f_Lcarrier : Addr} {od_Lcarrier an_Lcarrier : Option Addr} {sl_Lcarrier : Array (Option Value)} {oc_Lcarrier kV_Lcarrier dc_Lcarrier pm_Lcarrier cd_Lcarrier ct_Lcarrier : Value}
    {f_law : Addr} {od_law an_law : Option Addr} {sl_law : Array (Option Value)} {oc_law kV_law dc_law pm_law cd_law ct_law : Value}
    {t_WALL : Tok}
    {t_CHARGER : Tok}
    {t_SIGNS : Tok}
    {t_MOST_ROWS : Tok}
    {t_MOST_SIGNS : Tok}
    {t_ROUGH : Tok}
    {t_LANE : Tok}
    (aC_Floor : PySem.W.nsIn K mainGlobals "Floor" = some (some (.ref C_Floor)))
    (pg_Floor : PySem.W.plainGet K C_Floor Str.empty = true) (hd_Floor : PySem.W.hasDictIn K C_Floor = true) (po_Floor : PySem.W.plainOver K C_Floor = true) (sa_Floor : PySem.W.findIn K (.ref C_Floor) "__setattr__" = some (some (.builtin "object.__setattr__"))) (kc_Floor : PySem.W.keepIn K (.ref C_Floor) = true)
    (mk_Floor : PySem.W.makesIn K C_Floor = true)
    (n_Floor_wide : PySem.W.findIn K (.ref C_Floor) "wide" = some none)
    (n_Floor_high : PySem.W.findIn K (.ref C_Floor) "high" = some none)
    (n_Floor_lines : PySem.W.findIn K (.ref C_Floor) "lines" = some none)
    (n_Floor_signs : PySem.W.findIn K (.ref C_Floor) "signs" = some none)
    (aC_Cart : PySem.W.nsIn K mainGlobals "Cart" = some (some (.ref C_Cart)))
    (pg_Cart : PySem.W.plainGet K C_Cart Str.empty = true) (hd_Cart : PySem.W.hasDictIn K C_Cart = true) (po_Cart : PySem.W.plainOver K C_Cart = true) (sa_Cart : PySem.W.findIn K (.ref C_Cart) "__setattr__" = some (some (.builtin "object.__setattr__"))) (kc_Cart : PySem.W.keepIn K (.ref C_Cart) = true)
    (mk_Cart : PySem.W.makesIn K C_Cart = true)
    (n_Cart_full : PySem.W.findIn K (.ref C_Cart) "full" = some none)
    (aC_Crawler : PySem.W.nsIn K mainGlobals "Crawler" = some (some (.ref C_Crawler)))
    (pg_Crawler : PySem.W.plainGet K C_Crawler Str.empty = true) (hd_Crawler : PySem.W.hasDictIn K C_Crawler = true) (po_Crawler : PySem.W.plainOver K C_Crawler = true) (sa_Crawler : PySem.W.findIn K (.ref C_Crawler) "__setattr__" = some (some (.builtin "object.__setattr__"))) (kc_Crawler : PySem.W.keepIn K (.ref C_Crawler) = true)
    (mk_Crawler : PySem.W.makesIn K C_Crawler = true)
    (n_Crawler_full : PySem.W.findIn K (.ref C_Crawler) "full" = some none)
    (aC_Runner : PySem.W.nsIn K mainGlobals "Runner" = some (some (.ref C_Runner)))
    (pg_Runner : PySem.W.plainGet K C_Runner Str.empty = true) (hd_Runner : PySem.W.hasDictIn K C_Runner = true) (po_Runner : PySem.W.plainOver K C_Runner = true) (sa_Runner : PySem.W.findIn K (.ref C_Runner) "__setattr__" = some (some (.builtin "object.__setattr__"))) (kc_Runner : PySem.W.keepIn K (.ref C_Runner) = true)
    (mk_Runner : PySem.W.makesIn K C_Runner = true)
    (n_Runner_full : PySem.W.findIn K (.ref C_Runner) "full" = some none)
    (aC_Carrier : PySem.W.nsIn K mainGlobals "Carrier" = some (some (.ref C_Carrier)))
    (pg_Carrier : PySem.W.plainGet K C_Carrier Str.empty = true) (hd_Carrier : PySem.W.hasDictIn K C_Carrier = true) (po_Carrier : PySem.W.plainOver K C_Carrier = true) (sa_Carrier : PySem.W.findIn K (.ref C_Carrier) "__setattr__" = some (some (.builtin "object.__setattr__"))) (kc_Carrier : PySem.W.keepIn K (.ref C_Carrier) = true)
    (mk_Carrier : PySem.W.makesIn K C_Carrier = true)
    (n_Carrier_full : PySem.W.findIn K (.ref C_Carrier) "full" = some none)
    (aC_BadWay : PySem.W.nsIn K mainGlobals "BadWay" = some (some (.ref C_BadWay))) (er_BadWay : PySem.W.excIn K C_BadWay [.type "ValueError", .type "Exception", .type "BaseException", .type "object"] "ValueError.__new__" = true)
    (aC_FloorError : PySem.W.nsIn K mainGlobals "FloorError" = some (some (.ref C_FloorError)))
    (aC_BadFloor : PySem.W.nsIn K mainGlobals "BadFloor" = some (some (.ref C_BadFloor)))
    (aC_BadKind : PySem.W.nsIn K mainGlobals "BadKind" = some (some (.ref C_BadKind)))
    (aC_BadCell : PySem.W.nsIn K mainGlobals "BadCell" = some (some (.ref C_BadCell)))
    (aC_BadCharge : PySem.W.nsIn K mainGlobals "BadCharge" = some (some (.ref C_BadCharge)))
    (aC_BadStops : PySem.W.nsIn K mainGlobals "BadStops" = some (some (.ref C_BadStops)))
    (aC_Empty : PySem.W.nsIn K mainGlobals "Empty" = some (some (.ref C_Empty)))
    (aC_NoCarrier : PySem.W.nsIn K mainGlobals "NoCarrier" = some (some (.ref C_NoCarrier)))
    (aC_NoTask : PySem.W.nsIn K mainGlobals "NoTask" = some (some (.ref C_NoTask)))
    (aC_Meets : PySem.W.nsIn K mainGlobals "Meets" = some (some (.ref C_Meets)))
    (aC_Taken : PySem.W.nsIn K mainGlobals "Taken" = some (some (.ref C_Taken)))
    (aC_Busy : PySem.W.nsIn K mainGlobals "Busy" = some (some (.ref C_Busy)))
    (aC_NoReserve : PySem.W.nsIn K mainGlobals "NoReserve" = some (some (.ref C_NoReserve)))
    (aC_Closed : PySem.W.nsIn K mainGlobals "Closed" = some (some (.ref C_Closed)))
    (aC_Jammed : PySem.W.nsIn K mainGlobals "Jammed" = some (some (.ref C_Jammed)))
    (xm_BadWay_FloorError : PySem.W.exmOne K (.ref C_BadWay) (.ref C_FloorError) = some true)
    (x_COMMON_SIGNS : PySem.W.nsIn K mainGlobals "COMMON_SIGNS" = some (some (.ref K_COMMON_SIGNS))) (lk_COMMON_SIGNS : K.lookup K_COMMON_SIGNS = some ⟨.type "tuple", kc_COMMON_SIGNS, .seq #[.str (Str.ofString ".") kk_COMMON_SIGNS0, .str (Str.ofString "+") kk_COMMON_SIGNS1, .str (Str.ofString "|") kk_COMMON_SIGNS2] kn_COMMON_SIGNS, ks_COMMON_SIGNS⟩)
    (cgx : PySem.W.specialIn K (.builtin "object.__class__") "__get__" = some (some (.builtin "getset_descriptor.__get__")))
    (ctx : PySem.W.takesIn K (.builtin "object.__class__") = some true)
    (ca_Cart : PySem.W.findIn K (.ref C_Cart) "__class__" = some (some (.builtin "object.__class__")))
    (cm_Cart : PySem.W.mroIn K C_Cart (.type "object") = some true)
    (is_Cart_Carrier : PySem.W.kitOne K (.ref C_Cart) (.ref C_Carrier) = some true)
    (is_Cart_Cart : PySem.W.kitOne K (.ref C_Cart) (.ref C_Cart) = some true)
    (is_Cart_Crawler : PySem.W.kitOne K (.ref C_Cart) (.ref C_Crawler) = some false)
    (is_Cart_Runner : PySem.W.kitOne K (.ref C_Cart) (.ref C_Runner) = some false)
    (ca_Crawler : PySem.W.findIn K (.ref C_Crawler) "__class__" = some (some (.builtin "object.__class__")))
    (cm_Crawler : PySem.W.mroIn K C_Crawler (.type "object") = some true)
    (is_Crawler_Carrier : PySem.W.kitOne K (.ref C_Crawler) (.ref C_Carrier) = some true)
    (is_Crawler_Cart : PySem.W.kitOne K (.ref C_Crawler) (.ref C_Cart) = some false)
    (is_Crawler_Crawler : PySem.W.kitOne K (.ref C_Crawler) (.ref C_Crawler) = some true)
    (is_Crawler_Runner : PySem.W.kitOne K (.ref C_Crawler) (.ref C_Runner) = some false)
    (ca_Runner : PySem.W.findIn K (.ref C_Runner) "__class__" = some (some (.builtin "object.__class__")))
    (cm_Runner : PySem.W.mroIn K C_Runner (.type "object") = some true)
    (is_Runner_Carrier : PySem.W.kitOne K (.ref C_Runner) (.ref C_Carrier) = some true)
    (is_Runner_Cart : PySem.W.kitOne K (.ref C_Runner) (.ref C_Cart) = some false)
    (is_Runner_Crawler : PySem.W.kitOne K (.ref C_Runner) (.ref C_Crawler) = some false)
    (is_Runner_Runner : PySem.W.kitOne K (.ref C_Runner) (.ref C_Runner) = some true)
    (ca_Carrier : PySem.W.findIn K (.ref C_Carrier) "__class__" = some (some (.builtin "object.__class__")))
    (cm_Carrier : PySem.W.mroIn K C_Carrier (.type "object") = some true)
    (is_Carrier_Carrier : PySem.W.kitOne K (.ref C_Carrier) (.ref C_Carrier) = some true)
    (is_Carrier_Cart : PySem.W.kitOne K (.ref C_Carrier) (.ref C_Cart) = some false)
    (is_Carrier_Crawler : PySem.W.kitOne K (.ref C_Carrier) (.ref C_Crawler) = some false)
    (is_Carrier_Runner : PySem.W.kitOne K (.ref C_Carrier) (.ref C_Runner) = some false)
    (is_BadWay_BadFloor : PySem.W.kitOne K (.ref C_BadWay) (.ref C_BadFloor) = some false)
    (is_BadWay_BadKind : PySem.W.kitOne K (.ref C_BadWay) (.ref C_BadKind) = some false)
    (is_BadWay_BadCell : PySem.W.kitOne K (.ref C_BadWay) (.ref C_BadCell) = some false)
    (is_BadWay_BadCharge : PySem.W.kitOne K (.ref C_BadWay) (.ref C_BadCharge) = some false)
    (is_BadWay_BadStops : PySem.W.kitOne K (.ref C_BadWay) (.ref C_BadStops) = some false)
    (is_BadWay_BadWay : PySem.W.kitOne K (.ref C_BadWay) (.ref C_BadWay) = some true)
    (is_BadWay_Empty : PySem.W.kitOne K (.ref C_BadWay) (.ref C_Empty) = some false)
    (is_BadWay_NoCarrier : PySem.W.kitOne K (.ref C_BadWay) (.ref C_NoCarrier) = some false)
    (is_BadWay_NoTask : PySem.W.kitOne K (.ref C_BadWay) (.ref C_NoTask) = some false)
    (is_BadWay_Meets : PySem.W.kitOne K (.ref C_BadWay) (.ref C_Meets) = some false)
    (is_BadWay_Taken : PySem.W.kitOne K (.ref C_BadWay) (.ref C_Taken) = some false)
    (is_BadWay_Busy : PySem.W.kitOne K (.ref C_BadWay) (.ref C_Busy) = some false)
    (is_BadWay_NoReserve : PySem.W.kitOne K (.ref C_BadWay) (.ref C_NoReserve) = some false)
    (is_BadWay_Closed : PySem.W.kitOne K (.ref C_BadWay) (.ref C_Closed) = some false)
    (is_BadWay_Jammed : PySem.W.kitOne K (.ref C_BadWay) (.ref C_Jammed) = some false)
    (is_BadWay_FloorError : PySem.W.kitOne K (.ref C_BadWay) (.ref C_FloorError) = some true)
    (is_BadWay_ValueError : PySem.W.kitOne K (.ref C_BadWay) (.type "ValueError") = some true)
    (ga_BadWay : PySem.W.findIn K (.ref C_BadWay) "__getattribute__" = some (some (.builtin "BaseException.__getattribute__")))
    (gn_BadWay : PySem.W.findIn K (.ref C_BadWay) "__getattr__" = some none)
    (bx_BadWay : PySem.W.mroIn K C_BadWay (.type "BaseException") = some true)
    (cl_BadWay : (PySem.W.clsIn K C_BadWay).isSome = true)
    (ca_BadWay : PySem.W.findIn K (.ref C_BadWay) "__class__" = some (some (.builtin "object.__class__")))
    (cm_BadWay : PySem.W.mroIn K C_BadWay (.type "object") = some true)
    (a_is_whole : PySem.W.nsIn K mainGlobals "is_whole" = some (some (.ref f_is_whole)))
    (l_is_whole : K.lookup f_is_whole = some ⟨oc_is_whole, od_is_whole, .func (PySem.W.fnOf "is_whole" "is_whole" (defArgs s_is_whole) (defBody s_is_whole) (defScope s_is_whole) .none kV_is_whole dc_is_whole pm_is_whole an_is_whole cd_is_whole ct_is_whole), sl_is_whole⟩) (c_is_whole : PySem.W.codeIn K cd_is_whole "is_whole" = true) (k_is_whole : PySem.W.keepIn K (.ref f_is_whole) = true)
    (a_is_among : PySem.W.nsIn K mainGlobals "is_among" = some (some (.ref f_is_among)))
    (l_is_among : K.lookup f_is_among = some ⟨oc_is_among, od_is_among, .func (PySem.W.fnOf "is_among" "is_among" (defArgs s_is_among) (defBody s_is_among) (defScope s_is_among) .none kV_is_among dc_is_among pm_is_among an_is_among cd_is_among ct_is_among), sl_is_among⟩) (c_is_among : PySem.W.codeIn K cd_is_among "is_among" = true) (k_is_among : PySem.W.keepIn K (.ref f_is_among) = true)
    (a_check_row : PySem.W.nsIn K mainGlobals "check_row" = some (some (.ref f_check_row)))
    (l_check_row : K.lookup f_check_row = some ⟨oc_check_row, od_check_row, .func (PySem.W.fnOf "check_row" "check_row" (defArgs s_check_row) (defBody s_check_row) (defScope s_check_row) .none kV_check_row dc_check_row pm_check_row an_check_row cd_check_row ct_check_row), sl_check_row⟩) (c_check_row : PySem.W.codeIn K cd_check_row "check_row" = true) (k_check_row : PySem.W.keepIn K (.ref f_check_row) = true)
    (a_check_floor : PySem.W.nsIn K mainGlobals "check_floor" = some (some (.ref f_check_floor)))
    (l_check_floor : K.lookup f_check_floor = some ⟨oc_check_floor, od_check_floor, .func (PySem.W.fnOf "check_floor" "check_floor" (defArgs s_check_floor) (defBody s_check_floor) (defScope s_check_floor) .none kV_check_floor dc_check_floor pm_check_floor an_check_floor cd_check_floor ct_check_floor), sl_check_floor⟩) (c_check_floor : PySem.W.codeIn K cd_check_floor "check_floor" = true) (k_check_floor : PySem.W.keepIn K (.ref f_check_floor) = true)
    (a_Floor_init : PySem.W.findIn K (.ref C_Floor) "__init__" = some (some (.ref f_Floor_init))) (i_Floor_init : PySem.W.isFn K (.ref f_Floor_init) = true)
    (l_Floor_init : K.lookup f_Floor_init = some ⟨oc_Floor_init, od_Floor_init, .func (PySem.W.fnOf "__init__" "Floor.__init__" (defArgs s_Floor_init) (defBody s_Floor_init) (defScope s_Floor_init) .none kV_Floor_init dc_Floor_init pm_Floor_init an_Floor_init cd_Floor_init ct_Floor_init), sl_Floor_init⟩) (c_Floor_init : PySem.W.codeIn K cd_Floor_init "Floor.__init__" = true) (k_Floor_init : PySem.W.keepIn K (.ref f_Floor_init) = true)
    (a_Floor_has : PySem.W.findIn K (.ref C_Floor) "has" = some (some (.ref f_Floor_has))) (i_Floor_has : PySem.W.isFn K (.ref f_Floor_has) = true)
    (l_Floor_has : K.lookup f_Floor_has = some ⟨oc_Floor_has, od_Floor_has, .func (PySem.W.fnOf "has" "Floor.has" (defArgs s_Floor_has) (defBody s_Floor_has) (defScope s_Floor_has) .none kV_Floor_has dc_Floor_has pm_Floor_has an_Floor_has cd_Floor_has ct_Floor_has), sl_Floor_has⟩) (c_Floor_has : PySem.W.codeIn K cd_Floor_has "Floor.has" = true) (k_Floor_has : PySem.W.keepIn K (.ref f_Floor_has) = true)
    (a_Floor_sign : PySem.W.findIn K (.ref C_Floor) "sign" = some (some (.ref f_Floor_sign))) (i_Floor_sign : PySem.W.isFn K (.ref f_Floor_sign) = true)
    (l_Floor_sign : K.lookup f_Floor_sign = some ⟨oc_Floor_sign, od_Floor_sign, .func (PySem.W.fnOf "sign" "Floor.sign" (defArgs s_Floor_sign) (defBody s_Floor_sign) (defScope s_Floor_sign) .none kV_Floor_sign dc_Floor_sign pm_Floor_sign an_Floor_sign cd_Floor_sign ct_Floor_sign), sl_Floor_sign⟩) (c_Floor_sign : PySem.W.codeIn K cd_Floor_sign "Floor.sign" = true) (k_Floor_sign : PySem.W.keepIn K (.ref f_Floor_sign) = true)
    (a_Floor_column : PySem.W.findIn K (.ref C_Floor) "column" = some (some (.ref f_Floor_column))) (i_Floor_column : PySem.W.isFn K (.ref f_Floor_column) = true)
    (l_Floor_column : K.lookup f_Floor_column = some ⟨oc_Floor_column, od_Floor_column, .func (PySem.W.fnOf "column" "Floor.column" (defArgs s_Floor_column) (defBody s_Floor_column) (defScope s_Floor_column) .none kV_Floor_column dc_Floor_column pm_Floor_column an_Floor_column cd_Floor_column ct_Floor_column), sl_Floor_column⟩) (c_Floor_column : PySem.W.codeIn K cd_Floor_column "Floor.column" = true) (k_Floor_column : PySem.W.keepIn K (.ref f_Floor_column) = true)
    (a_Floor_row : PySem.W.findIn K (.ref C_Floor) "row" = some (some (.ref f_Floor_row))) (i_Floor_row : PySem.W.isFn K (.ref f_Floor_row) = true)
    (l_Floor_row : K.lookup f_Floor_row = some ⟨oc_Floor_row, od_Floor_row, .func (PySem.W.fnOf "row" "Floor.row" (defArgs s_Floor_row) (defBody s_Floor_row) (defScope s_Floor_row) .none kV_Floor_row dc_Floor_row pm_Floor_row an_Floor_row cd_Floor_row ct_Floor_row), sl_Floor_row⟩) (c_Floor_row : PySem.W.codeIn K cd_Floor_row "Floor.row" = true) (k_Floor_row : PySem.W.keepIn K (.ref f_Floor_row) = true)
    (a_Floor_beside : PySem.W.findIn K (.ref C_Floor) "beside" = some (some (.ref f_Floor_beside))) (i_Floor_beside : PySem.W.isFn K (.ref f_Floor_beside) = true)
    (l_Floor_beside : K.lookup f_Floor_beside = some ⟨oc_Floor_beside, od_Floor_beside, .func (PySem.W.fnOf "beside" "Floor.beside" (defArgs s_Floor_beside) (defBody s_Floor_beside) (defScope s_Floor_beside) .none kV_Floor_beside dc_Floor_beside pm_Floor_beside an_Floor_beside cd_Floor_beside ct_Floor_beside), sl_Floor_beside⟩) (c_Floor_beside : PySem.W.codeIn K cd_Floor_beside "Floor.beside" = true) (k_Floor_beside : PySem.W.keepIn K (.ref f_Floor_beside) = true)
    (a_Carrier_init : PySem.W.findIn K (.ref C_Carrier) "__init__" = some (some (.ref f_Carrier_init))) (i_Carrier_init : PySem.W.isFn K (.ref f_Carrier_init) = true)
    (l_Carrier_init : K.lookup f_Carrier_init = some ⟨oc_Carrier_init, od_Carrier_init, .func (PySem.W.fnOf "__init__" "Carrier.__init__" (defArgs s_Carrier_init) (defBody s_Carrier_init) (defScope s_Carrier_init) .none kV_Carrier_init dc_Carrier_init pm_Carrier_init an_Carrier_init cd_Carrier_init ct_Carrier_init), sl_Carrier_init⟩) (c_Carrier_init : PySem.W.codeIn K cd_Carrier_init "Carrier.__init__" = true) (k_Carrier_init : PySem.W.keepIn K (.ref f_Carrier_init) = true)
    (a_Carrier_may_stand : PySem.W.findIn K (.ref C_Carrier) "may_stand" = some (some (.ref f_Carrier_may_stand))) (i_Carrier_may_stand : PySem.W.isFn K (.ref f_Carrier_may_stand) = true)
    (l_Carrier_may_stand : K.lookup f_Carrier_may_stand = some ⟨oc_Carrier_may_stand, od_Carrier_may_stand, .func (PySem.W.fnOf "may_stand" "Carrier.may_stand" (defArgs s_Carrier_may_stand) (defBody s_Carrier_may_stand) (defScope s_Carrier_may_stand) .none kV_Carrier_may_stand dc_Carrier_may_stand pm_Carrier_may_stand an_Carrier_may_stand cd_Carrier_may_stand ct_Carrier_may_stand), sl_Carrier_may_stand⟩) (c_Carrier_may_stand : PySem.W.codeIn K cd_Carrier_may_stand "Carrier.may_stand" = true) (k_Carrier_may_stand : PySem.W.keepIn K (.ref f_Carrier_may_stand) = true)
    (a_Carrier_gain : PySem.W.findIn K (.ref C_Carrier) "gain" = some (some (.ref f_Carrier_gain))) (i_Carrier_gain : PySem.W.isFn K (.ref f_Carrier_gain) = true)
    (l_Carrier_gain : K.lookup f_Carrier_gain = some ⟨oc_Carrier_gain, od_Carrier_gain, .func (PySem.W.fnOf "gain" "Carrier.gain" (defArgs s_Carrier_gain) (defBody s_Carrier_gain) (defScope s_Carrier_gain) .none kV_Carrier_gain dc_Carrier_gain pm_Carrier_gain an_Carrier_gain cd_Carrier_gain ct_Carrier_gain), sl_Carrier_gain⟩) (c_Carrier_gain : PySem.W.codeIn K cd_Carrier_gain "Carrier.gain" = true) (k_Carrier_gain : PySem.W.keepIn K (.ref f_Carrier_gain) = true)
    (a_Carrier_fare : PySem.W.findIn K (.ref C_Carrier) "fare" = some (some (.ref f_Carrier_fare))) (i_Carrier_fare : PySem.W.isFn K (.ref f_Carrier_fare) = true)
    (l_Carrier_fare : K.lookup f_Carrier_fare = some ⟨oc_Carrier_fare, od_Carrier_fare, .func (PySem.W.fnOf "fare" "Carrier.fare" (defArgs s_Carrier_fare) (defBody s_Carrier_fare) (defScope s_Carrier_fare) .none kV_Carrier_fare dc_Carrier_fare pm_Carrier_fare an_Carrier_fare cd_Carrier_fare ct_Carrier_fare), sl_Carrier_fare⟩) (c_Carrier_fare : PySem.W.codeIn K cd_Carrier_fare "Carrier.fare" = true) (k_Carrier_fare : PySem.W.keepIn K (.ref f_Carrier_fare) = true)
    (a_Carrier_cost : PySem.W.findIn K (.ref C_Carrier) "cost" = some (some (.ref f_Carrier_cost))) (i_Carrier_cost : PySem.W.isFn K (.ref f_Carrier_cost) = true)
    (l_Carrier_cost : K.lookup f_Carrier_cost = some ⟨oc_Carrier_cost, od_Carrier_cost, .func (PySem.W.fnOf "cost" "Carrier.cost" (defArgs s_Carrier_cost) (defBody s_Carrier_cost) (defScope s_Carrier_cost) .none kV_Carrier_cost dc_Carrier_cost pm_Carrier_cost an_Carrier_cost cd_Carrier_cost ct_Carrier_cost), sl_Carrier_cost⟩) (c_Carrier_cost : PySem.W.codeIn K cd_Carrier_cost "Carrier.cost" = true) (k_Carrier_cost : PySem.W.keepIn K (.ref f_Carrier_cost) = true)
    (a_Carrier_steps : PySem.W.findIn K (.ref C_Carrier) "steps" = some (some (.ref f_Carrier_steps))) (i_Carrier_steps : PySem.W.isFn K (.ref f_Carrier_steps) = true)
    (l_Carrier_steps : K.lookup f_Carrier_steps = some ⟨oc_Carrier_steps, od_Carrier_steps, .func (PySem.W.fnOf "steps" "Carrier.steps" (defArgs s_Carrier_steps) (defBody s_Carrier_steps) (defScope s_Carrier_steps) .none kV_Carrier_steps dc_Carrier_steps pm_Carrier_steps an_Carrier_steps cd_Carrier_steps ct_Carrier_steps), sl_Carrier_steps⟩) (c_Carrier_steps : PySem.W.codeIn K cd_Carrier_steps "Carrier.steps" = true) (k_Carrier_steps : PySem.W.keepIn K (.ref f_Carrier_steps) = true)
    (a_Carrier_stayed : PySem.W.findIn K (.ref C_Carrier) "stayed" = some (some (.ref f_Carrier_stayed))) (i_Carrier_stayed : PySem.W.isFn K (.ref f_Carrier_stayed) = true)
    (l_Carrier_stayed : K.lookup f_Carrier_stayed = some ⟨oc_Carrier_stayed, od_Carrier_stayed, .func (PySem.W.fnOf "stayed" "Carrier.stayed" (defArgs s_Carrier_stayed) (defBody s_Carrier_stayed) (defScope s_Carrier_stayed) .none kV_Carrier_stayed dc_Carrier_stayed pm_Carrier_stayed an_Carrier_stayed cd_Carrier_stayed ct_Carrier_stayed), sl_Carrier_stayed⟩) (c_Carrier_stayed : PySem.W.codeIn K cd_Carrier_stayed "Carrier.stayed" = true) (k_Carrier_stayed : PySem.W.keepIn K (.ref f_Carrier_stayed) = true)
    (a_Carrier_fare_if_standing : PySem.W.findIn K (.ref C_Carrier) "fare_if_standing" = some (some (.ref f_Carrier_fare_if_standing))) (i_Carrier_fare_if_standing : PySem.W.isFn K (.ref f_Carrier_fare_if_standing) = true)
    (l_Carrier_fare_if_standing : K.lookup f_Carrier_fare_if_standing = some ⟨oc_Carrier_fare_if_standing, od_Carrier_fare_if_standing, .func (PySem.W.fnOf "fare_if_standing" "Carrier.fare_if_standing" (defArgs s_Carrier_fare_if_standing) (defBody s_Carrier_fare_if_standing) (defScope s_Carrier_fare_if_standing) .none kV_Carrier_fare_if_standing dc_Carrier_fare_if_standing pm_Carrier_fare_if_standing an_Carrier_fare_if_standing cd_Carrier_fare_if_standing ct_Carrier_fare_if_standing), sl_Carrier_fare_if_standing⟩) (c_Carrier_fare_if_standing : PySem.W.codeIn K cd_Carrier_fare_if_standing "Carrier.fare_if_standing" = true) (k_Carrier_fare_if_standing : PySem.W.keepIn K (.ref f_Carrier_fare_if_standing) = true)
    (a_Crawler_may_stand : PySem.W.findIn K (.ref C_Crawler) "may_stand" = some (some (.ref f_Crawler_may_stand))) (i_Crawler_may_stand : PySem.W.isFn K (.ref f_Crawler_may_stand) = true)
    (l_Crawler_may_stand : K.lookup f_Crawler_may_stand = some ⟨oc_Crawler_may_stand, od_Crawler_may_stand, .func (PySem.W.fnOf "may_stand" "Crawler.may_stand" (defArgs s_Crawler_may_stand) (defBody s_Crawler_may_stand) (defScope s_Crawler_may_stand) .none kV_Crawler_may_stand dc_Crawler_may_stand pm_Crawler_may_stand an_Crawler_may_stand cd_Crawler_may_stand ct_Crawler_may_stand), sl_Crawler_may_stand⟩) (c_Crawler_may_stand : PySem.W.codeIn K cd_Crawler_may_stand "Crawler.may_stand" = true) (k_Crawler_may_stand : PySem.W.keepIn K (.ref f_Crawler_may_stand) = true)
    (a_Crawler_gain : PySem.W.findIn K (.ref C_Crawler) "gain" = some (some (.ref f_Crawler_gain))) (i_Crawler_gain : PySem.W.isFn K (.ref f_Crawler_gain) = true)
    (l_Crawler_gain : K.lookup f_Crawler_gain = some ⟨oc_Crawler_gain, od_Crawler_gain, .func (PySem.W.fnOf "gain" "Crawler.gain" (defArgs s_Crawler_gain) (defBody s_Crawler_gain) (defScope s_Crawler_gain) .none kV_Crawler_gain dc_Crawler_gain pm_Crawler_gain an_Crawler_gain cd_Crawler_gain ct_Crawler_gain), sl_Crawler_gain⟩) (c_Crawler_gain : PySem.W.codeIn K cd_Crawler_gain "Crawler.gain" = true) (k_Crawler_gain : PySem.W.keepIn K (.ref f_Crawler_gain) = true)
    (a_Crawler_fare : PySem.W.findIn K (.ref C_Crawler) "fare" = some (some (.ref f_Crawler_fare))) (i_Crawler_fare : PySem.W.isFn K (.ref f_Crawler_fare) = true)
    (l_Crawler_fare : K.lookup f_Crawler_fare = some ⟨oc_Crawler_fare, od_Crawler_fare, .func (PySem.W.fnOf "fare" "Crawler.fare" (defArgs s_Crawler_fare) (defBody s_Crawler_fare) (defScope s_Crawler_fare) .none kV_Crawler_fare dc_Crawler_fare pm_Crawler_fare an_Crawler_fare cd_Crawler_fare ct_Crawler_fare), sl_Crawler_fare⟩) (c_Crawler_fare : PySem.W.codeIn K cd_Crawler_fare "Crawler.fare" = true) (k_Crawler_fare : PySem.W.keepIn K (.ref f_Crawler_fare) = true)
    (a_Runner_gain : PySem.W.findIn K (.ref C_Runner) "gain" = some (some (.ref f_Runner_gain))) (i_Runner_gain : PySem.W.isFn K (.ref f_Runner_gain) = true)
    (l_Runner_gain : K.lookup f_Runner_gain = some ⟨oc_Runner_gain, od_Runner_gain, .func (PySem.W.fnOf "gain" "Runner.gain" (defArgs s_Runner_gain) (defBody s_Runner_gain) (defScope s_Runner_gain) .none kV_Runner_gain dc_Runner_gain pm_Runner_gain an_Runner_gain cd_Runner_gain ct_Runner_gain), sl_Runner_gain⟩) (c_Runner_gain : PySem.W.codeIn K cd_Runner_gain "Runner.gain" = true) (k_Runner_gain : PySem.W.keepIn K (.ref f_Runner_gain) = true)
    (a_Runner_fare : PySem.W.findIn K (.ref C_Runner) "fare" = some (some (.ref f_Runner_fare))) (i_Runner_fare : PySem.W.isFn K (.ref f_Runner_fare) = true)
    (l_Runner_fare : K.lookup f_Runner_fare = some ⟨oc_Runner_fare, od_Runner_fare, .func (PySem.W.fnOf "fare" "Runner.fare" (defArgs s_Runner_fare) (defBody s_Runner_fare) (defScope s_Runner_fare) .none kV_Runner_fare dc_Runner_fare pm_Runner_fare an_Runner_fare cd_Runner_fare ct_Runner_fare), sl_Runner_fare⟩) (c_Runner_fare : PySem.W.codeIn K cd_Runner_fare "Runner.fare" = true) (k_Runner_fare : PySem.W.keepIn K (.ref f_Runner_fare) = true)
    (a_stands_at : PySem.W.nsIn K mainGlobals "stands_at" = some (some (.ref f_stands_at)))
    (l_stands_at : K.lookup f_stands_at = some ⟨oc_stands_at, od_stands_at, .func (PySem.W.fnOf "stands_at" "stands_at" (defArgs s_stands_at) (defBody s_stands_at) (defScope s_stands_at) .none kV_stands_at dc_stands_at pm_stands_at an_stands_at cd_stands_at ct_stands_at), sl_stands_at⟩) (c_stands_at : PySem.W.codeIn K cd_stands_at "stands_at" = true) (k_stands_at : PySem.W.keepIn K (.ref f_stands_at) = true)
    (a_walked : PySem.W.nsIn K mainGlobals "walked" = some (some (.ref f_walked)))
    (l_walked : K.lookup f_walked = some ⟨oc_walked, od_walked, .func (PySem.W.fnOf "walked" "walked" (defArgs s_walked) (defBody s_walked) (defScope s_walked) .none kV_walked dc_walked pm_walked an_walked cd_walked ct_walked), sl_walked⟩) (c_walked : PySem.W.codeIn K cd_walked "walked" = true) (k_walked : PySem.W.keepIn K (.ref f_walked) = true)
    (a_next_charge : PySem.W.nsIn K mainGlobals "next_charge" = some (some (.ref f_next_charge)))
    (l_next_charge : K.lookup f_next_charge = some ⟨oc_next_charge, od_next_charge, .func (PySem.W.fnOf "next_charge" "next_charge" (defArgs s_next_charge) (defBody s_next_charge) (defScope s_next_charge) .none kV_next_charge dc_next_charge pm_next_charge an_next_charge cd_next_charge ct_next_charge), sl_next_charge⟩) (c_next_charge : PySem.W.codeIn K cd_next_charge "next_charge" = true) (k_next_charge : PySem.W.keepIn K (.ref f_next_charge) = true)
    (a_Lcell_at : PySem.W.nsIn K mainGlobals "_law_cell_at" = some (some (.ref f_Lcell_at)))
    (l_Lcell_at : K.lookup f_Lcell_at = some ⟨oc_Lcell_at, od_Lcell_at, .func (PySem.W.fnOf "_law_cell_at" "_law_cell_at" (defArgs s_Lcell_at) (defBody s_Lcell_at) (defScope s_Lcell_at) .none kV_Lcell_at dc_Lcell_at pm_Lcell_at an_Lcell_at cd_Lcell_at ct_Lcell_at), sl_Lcell_at⟩) (c_Lcell_at : PySem.W.codeIn K cd_Lcell_at "_law_cell_at" = true) (k_Lcell_at : PySem.W.keepIn K (.ref f_Lcell_at) = true)
    (a_Lmixed : PySem.W.nsIn K mainGlobals "_law_mixed" = some (some (.ref f_Lmixed)))
    (l_Lmixed : K.lookup f_Lmixed = some ⟨oc_Lmixed, od_Lmixed, .func (PySem.W.fnOf "_law_mixed" "_law_mixed" (defArgs s_Lmixed) (defBody s_Lmixed) (defScope s_Lmixed) .none kV_Lmixed dc_Lmixed pm_Lmixed an_Lmixed cd_Lmixed ct_Lmixed), sl_Lmixed⟩) (c_Lmixed : PySem.W.codeIn K cd_Lmixed "_law_mixed" = true) (k_Lmixed : PySem.W.keepIn K (.ref f_Lmixed) = true)
    (a_Lwhole : PySem.W.nsIn K mainGlobals "_law_whole" = some (some (.ref f_Lwhole)))
    (l_Lwhole : K.lookup f_Lwhole = some ⟨oc_Lwhole, od_Lwhole, .func (PySem.W.fnOf "_law_whole" "_law_whole" (defArgs s_Lwhole) (defBody s_Lwhole) (defScope s_Lwhole) .none kV_Lwhole dc_Lwhole pm_Lwhole an_Lwhole cd_Lwhole ct_Lwhole), sl_Lwhole⟩) (c_Lwhole : PySem.W.codeIn K cd_Lwhole "_law_whole" = true) (k_Lwhole : PySem.W.keepIn K (.ref f_Lwhole) = true)
    (a_Llines : PySem.W.nsIn K mainGlobals "_law_lines" = some (some (.ref f_Llines)))
    (l_Llines : K.lookup f_Llines = some ⟨oc_Llines, od_Llines, .func (PySem.W.fnOf "_law_lines" "_law_lines" (defArgs s_Llines) (defBody s_Llines) (defScope s_Llines) .none kV_Llines dc_Llines pm_Llines an_Llines cd_Llines ct_Llines), sl_Llines⟩) (c_Llines : PySem.W.codeIn K cd_Llines "_law_lines" = true) (k_Llines : PySem.W.keepIn K (.ref f_Llines) = true)
    (a_Lsign : PySem.W.nsIn K mainGlobals "_law_sign" = some (some (.ref f_Lsign)))
    (l_Lsign : K.lookup f_Lsign = some ⟨oc_Lsign, od_Lsign, .func (PySem.W.fnOf "_law_sign" "_law_sign" (defArgs s_Lsign) (defBody s_Lsign) (defScope s_Lsign) .none kV_Lsign dc_Lsign pm_Lsign an_Lsign cd_Lsign ct_Lsign), sl_Lsign⟩) (c_Lsign : PySem.W.codeIn K cd_Lsign "_law_sign" = true) (k_Lsign : PySem.W.keepIn K (.ref f_Lsign) = true)
    (a_Laround : PySem.W.nsIn K mainGlobals "_law_around" = some (some (.ref f_Laround)))
    (l_Laround : K.lookup f_Laround = some ⟨oc_Laround, od_Laround, .func (PySem.W.fnOf "_law_around" "_law_around" (defArgs s_Laround) (defBody s_Laround) (defScope s_Laround) .none kV_Laround dc_Laround pm_Laround an_Laround cd_Laround ct_Laround), sl_Laround⟩) (c_Laround : PySem.W.codeIn K cd_Laround "_law_around" = true) (k_Laround : PySem.W.keepIn K (.ref f_Laround) = true)
    (a_Lstands : PySem.W.nsIn K mainGlobals "_law_stands" = some (some (.ref f_Lstands)))
    (l_Lstands : K.lookup f_Lstands = some ⟨oc_Lstands, od_Lstands, .func (PySem.W.fnOf "_law_stands" "_law_stands" (defArgs s_Lstands) (defBody s_Lstands) (defScope s_Lstands) .none kV_Lstands dc_Lstands pm_Lstands an_Lstands cd_Lstands ct_Lstands), sl_Lstands⟩) (c_Lstands : PySem.W.codeIn K cd_Lstands "_law_stands" = true) (k_Lstands : PySem.W.keepIn K (.ref f_Lstands) = true)
    (a_Lcost : PySem.W.nsIn K mainGlobals "_law_cost" = some (some (.ref f_Lcost)))
    (l_Lcost : K.lookup f_Lcost = some ⟨oc_Lcost, od_Lcost, .func (PySem.W.fnOf "_law_cost" "_law_cost" (defArgs s_Lcost) (defBody s_Lcost) (defScope s_Lcost) .none kV_Lcost dc_Lcost pm_Lcost an_Lcost cd_Lcost ct_Lcost), sl_Lcost⟩) (c_Lcost : PySem.W.codeIn K cd_Lcost "_law_cost" = true) (k_Lcost : PySem.W.keepIn K (.ref f_Lcost) = true)
    (a_Ldue : PySem.W.nsIn K mainGlobals "_law_due" = some (some (.ref f_Ldue)))
    (l_Ldue : K.lookup f_Ldue = some ⟨oc_Ldue, od_Ldue, .func (PySem.W.fnOf "_law_due" "_law_due" (defArgs s_Ldue) (defBody s_Ldue) (defScope s_Ldue) .none kV_Ldue dc_Ldue pm_Ldue an_Ldue cd_Ldue ct_Ldue), sl_Ldue⟩) (c_Ldue : PySem.W.codeIn K cd_Ldue "_law_due" = true) (k_Ldue : PySem.W.keepIn K (.ref f_Ldue) = true)
    (a_Lcells : PySem.W.nsIn K mainGlobals "_law_cells" = some (some (.ref f_Lcells)))
    (l_Lcells : K.lookup f_Lcells = some ⟨oc_Lcells, od_Lcells, .func (PySem.W.fnOf "_law_cells" "_law_cells" (defArgs s_Lcells) (defBody s_Lcells) (defScope s_Lcells) .none kV_Lcells dc_Lcells pm_Lcells an_Lcells cd_Lcells ct_Lcells), sl_Lcells⟩) (c_Lcells : PySem.W.codeIn K cd_Lcells "_law_cells" = true) (k_Lcells : PySem.W.keepIn K (.ref f_Lcells) = true)
    (a_Lis_bad_way : PySem.W.nsIn K mainGlobals "_law_is_bad_way" = some (some (.ref f_Lis_bad_way)))
    (l_Lis_bad_way : K.lookup f_Lis_bad_way = some ⟨oc_Lis_bad_way, od_Lis_bad_way, .func (PySem.W.fnOf "_law_is_bad_way" "_law_is_bad_way" (defArgs s_Lis_bad_way) (defBody s_Lis_bad_way) (defScope s_Lis_bad_way) .none kV_Lis_bad_way dc_Lis_bad_way pm_Lis_bad_way an_Lis_bad_way cd_Lis_bad_way ct_Lis_bad_way), sl_Lis_bad_way⟩) (c_Lis_bad_way : PySem.W.codeIn K cd_Lis_bad_way "_law_is_bad_way" = true) (k_Lis_bad_way : PySem.W.keepIn K (.ref f_Lis_bad_way) = true)
    (a_Ltold : PySem.W.nsIn K mainGlobals "_law_told" = some (some (.ref f_Ltold)))
    (l_Ltold : K.lookup f_Ltold = some ⟨oc_Ltold, od_Ltold, .func (PySem.W.fnOf "_law_told" "_law_told" (defArgs s_Ltold) (defBody s_Ltold) (defScope s_Ltold) .none kV_Ltold dc_Ltold pm_Ltold an_Ltold cd_Ltold ct_Ltold), sl_Ltold⟩) (c_Ltold : PySem.W.codeIn K cd_Ltold "_law_told" = true) (k_Ltold : PySem.W.keepIn K (.ref f_Ltold) = true)
    (a_Lcarrier : PySem.W.nsIn K mainGlobals "_law_carrier" = some (some (.ref f_Lcarrier)))
    (l_Lcarrier : K.lookup f_Lcarrier = some ⟨oc_Lcarrier, od_Lcarrier, .func (PySem.W.fnOf "_law_carrier" "_law_carrier" (defArgs s_Lcarrier) (defBody s_Lcarrier) (defScope s_Lcarrier) .none kV_Lcarrier dc_Lcarrier pm_Lcarrier an_Lcarrier cd_Lcarrier ct_Lcarrier), sl_Lcarrier⟩) (c_Lcarrier : PySem.W.codeIn K cd_Lcarrier "_law_carrier" = true) (k_Lcarrier : PySem.W.keepIn K (.ref f_Lcarrier) = true)
    (a_law : PySem.W.nsIn K mainGlobals "law" = some (some (.ref f_law)))
    (l_law : K.lookup f_law = some ⟨oc_law, od_law, .func (PySem.W.fnOf "law" "law" (defArgs s_law) (defBody s_law) (defScope s_law) .none kV_law dc_law pm_law an_law cd_law ct_law), sl_law⟩) (c_law : PySem.W.codeIn K cd_law "law" = true) (k_law : PySem.W.keepIn K (.ref f_law) = true)
    (as_Cart_may_stand : PySem.W.findIn K (.ref C_Cart) "may_stand" = some (some (.ref f_Carrier_may_stand)))
    (as_Cart_gain : PySem.W.findIn K (.ref C_Cart) "gain" = some (some (.ref f_Carrier_gain)))
    (as_Cart_fare : PySem.W.findIn K (.ref C_Cart) "fare" = some (some (.ref f_Carrier_fare)))
    (as_Cart_cost : PySem.W.findIn K (.ref C_Cart) "cost" = some (some (.ref f_Carrier_cost)))
    (as_Cart_steps : PySem.W.findIn K (.ref C_Cart) "steps" = some (some (.ref f_Carrier_steps)))
    (as_Cart_stayed : PySem.W.findIn K (.ref C_Cart) "stayed" = some (some (.ref f_Carrier_stayed)))
    (as_Cart_fare_if_standing : PySem.W.findIn K (.ref C_Cart) "fare_if_standing" = some (some (.ref f_Carrier_fare_if_standing)))
    (as_Crawler_cost : PySem.W.findIn K (.ref C_Crawler) "cost" = some (some (.ref f_Carrier_cost)))
    (as_Crawler_steps : PySem.W.findIn K (.ref C_Crawler) "steps" = some (some (.ref f_Carrier_steps)))
    (as_Crawler_stayed : PySem.W.findIn K (.ref C_Crawler) "stayed" = some (some (.ref f_Carrier_stayed)))
    (as_Crawler_fare_if_standing : PySem.W.findIn K (.ref C_Crawler) "fare_if_standing" = some (some (.ref f_Carrier_fare_if_standing)))
    (as_Runner_may_stand : PySem.W.findIn K (.ref C_Runner) "may_stand" = some (some (.ref f_Carrier_may_stand)))
    (as_Runner_cost : PySem.W.findIn K (.ref C_Runner) "cost" = some (some (.ref f_Carrier_cost)))
    (as_Runner_steps : PySem.W.findIn K (.ref C_Runner) "steps" = some (some (.ref f_Carrier_steps)))
    (as_Runner_stayed : PySem.W.findIn K (.ref C_Runner) "stayed" = some (some (.ref f_Carrier_stayed)))
    (as_Runner_fare_if_standing : PySem.W.findIn K (.ref C_Runner) "fare_if_standing" = some (some (.ref f_Carrier_fare_if_standing)))
    (as_Cart_init : PySem.W.findIn K (.ref C_Cart) "__init__" = some (some (.ref f_Carrier_init)))
    (as_Crawler_init : PySem.W.findIn K (.ref C_Crawler) "__init__" = some (some (.ref f_Carrier_init)))
    (as_Runner_init : PySem.W.findIn K (.ref C_Runner) "__init__" = some (some (.ref f_Carrier_init)))
    (z_len : PySem.W.nsIn K mainGlobals "len" = some none)
    (z_range : PySem.W.nsIn K mainGlobals "range" = some none)
    (z_isinstance : PySem.W.nsIn K mainGlobals "isinstance" = some none)
    (z_all : PySem.W.nsIn K mainGlobals "all" = some none)
    (z_int : PySem.W.nsIn K mainGlobals "int" = some none)
    (z_bool : PySem.W.nsIn K mainGlobals "bool" = some none)
    (z_str : PySem.W.nsIn K mainGlobals "str" = some none)
    (z_list : PySem.W.nsIn K mainGlobals "list" = some none)
    (z_tuple : PySem.W.nsIn K mainGlobals "tuple" = some none)
    (z_dict : PySem.W.nsIn K mainGlobals "dict" = some none)
    (z_min : PySem.W.nsIn K mainGlobals "min" = some none)
    (z_max : PySem.W.nsIn K mainGlobals "max" = some none)
    (z_ValueError : PySem.W.nsIn K mainGlobals "ValueError" = some none)
    (x_WALL : PySem.W.nsIn K mainGlobals "WALL" = some (some (.str (Str.ofString "#") t_WALL)))
    (x_CHARGER : PySem.W.nsIn K mainGlobals "CHARGER" = some (some (.str (Str.ofString "+") t_CHARGER)))
    (x_SIGNS : PySem.W.nsIn K mainGlobals "SIGNS" = some (some (.str (Str.ofString ".#+~|") t_SIGNS)))
    (x_MOST_ROWS : PySem.W.nsIn K mainGlobals "MOST_ROWS" = some (some (.int 10 t_MOST_ROWS)))
    (x_MOST_SIGNS : PySem.W.nsIn K mainGlobals "MOST_SIGNS" = some (some (.int 10 t_MOST_SIGNS)))
    (x_ROUGH : PySem.W.nsIn K mainGlobals "ROUGH" = some (some (.str (Str.ofString "~") t_ROUGH)))
    (x_LANE : PySem.W.nsIn K mainGlobals "LANE" = some (some (.str (Str.ofString "|") t_LANE)))
    : ∃ fd : FuncData, (∀ (s : Shared) (v : Value), BindsTo s fd ⟨[v], []⟩ [("_law_script", v)]) ∧ ∀ base : Heap, K.In base → base.Ns mainGlobals mg → FnOk l.prog w K mg base CX0 12 fa fd ["_law_script"] (spLaw K) := by
  obtain rfl : f_law = fa := by
    have e := hfa.symm.trans (PySem.W.mg_of X G a_law)
    cases e
    rfl
  have T : Txt K mg ⟨f_is_whole, f_is_among, f_check_row, f_check_floor, f_Floor_init, f_Floor_has, f_Floor_sign, f_Floor_column, f_Floor_row, f_Floor_beside, f_Carrier_init, f_Carrier_may_stand, f_Carrier_gain, f_Carrier_fare, f_Carrier_cost, f_Carrier_steps, f_Carrier_stayed, f_Carrier_fare_if_standing, f_Crawler_may_stand, f_Crawler_gain, f_Crawler_fare, f_Runner_gain, f_Runner_fare, f_stands_at, f_walked, f_next_charge, f_Lcell_at, f_Lmixed, f_Lwhole, f_Llines, f_Lsign, f_Laround, f_Lstands, f_Lcost, f_Ldue, f_Lcells, f_Lis_bad_way, f_Ltold, f_Lcarrier, f_law, C_Floor, C_Cart, C_Crawler, C_Runner, C_Carrier, C_BadWay, C_FloorError, C_BadFloor, C_BadKind, C_BadCell, C_BadCharge, C_BadStops, C_Empty, C_NoCarrier, C_NoTask, C_Meets, C_Taken, C_Busy, C_NoReserve, C_Closed, C_Jammed, K_COMMON_SIGNS⟩ := by
    constructor
    · exact PySem.W.mg_none_of X G z_len
    · exact PySem.W.mg_none_of X G z_range
    · exact PySem.W.mg_none_of X G z_isinstance
    · exact PySem.W.mg_none_of X G z_all
    · exact PySem.W.mg_none_of X G z_int
    · exact PySem.W.mg_none_of X G z_bool
    · exact PySem.W.mg_none_of X G z_str
    · exact PySem.W.mg_none_of X G z_list
    · exact PySem.W.mg_none_of X G z_tuple
    · exact PySem.W.mg_none_of X G z_dict
    · exact PySem.W.mg_none_of X G z_min
    · exact PySem.W.mg_none_of X G z_max
    · exact PySem.W.mg_none_of X G z_ValueError
    · exact ⟨_, PySem.W.mg_of X G x_WALL, ⟨_, rfl⟩⟩
    · exact ⟨_, PySem.W.mg_of X G x_CHARGER, ⟨_, rfl⟩⟩
    · exact ⟨_, PySem.W.mg_of X G x_ROUGH, ⟨_, rfl⟩⟩
    · exact ⟨_, PySem.W.mg_of X G x_LANE, ⟨_, rfl⟩⟩
    · exact ⟨_, PySem.W.mg_of X G x_SIGNS, ⟨_, rfl⟩⟩
    · exact ⟨_, PySem.W.mg_of X G x_MOST_ROWS, ⟨_, rfl⟩⟩
    · exact ⟨_, PySem.W.mg_of X G x_MOST_SIGNS, ⟨_, rfl⟩⟩
    · exact ⟨_, PySem.W.mg_of X G x_COMMON_SIGNS, rfl⟩
    · exact PySem.W.mg_of X G a_is_whole
    · exact k_is_whole
    · exact PySem.W.mg_of X G a_is_among
    · exact k_is_among
    · exact PySem.W.mg_of X G a_check_row
    · exact k_check_row
    · exact PySem.W.mg_of X G a_check_floor
    · exact k_check_floor
    · exact ⟨a_Floor_has, i_Floor_has, k_Floor_has⟩
    · exact ⟨a_Floor_sign, i_Floor_sign, k_Floor_sign⟩
    · exact ⟨a_Floor_column, i_Floor_column, k_Floor_column⟩
    · exact ⟨a_Floor_row, i_Floor_row, k_Floor_row⟩
    · exact ⟨a_Floor_beside, i_Floor_beside, k_Floor_beside⟩
    · exact ⟨a_Carrier_may_stand, i_Carrier_may_stand, k_Carrier_may_stand⟩
    · exact ⟨a_Carrier_gain, i_Carrier_gain, k_Carrier_gain⟩
    · exact ⟨a_Carrier_fare, i_Carrier_fare, k_Carrier_fare⟩
    · exact ⟨a_Carrier_cost, i_Carrier_cost, k_Carrier_cost⟩
    · exact ⟨a_Carrier_steps, i_Carrier_steps, k_Carrier_steps⟩
    · exact ⟨a_Carrier_stayed, i_Carrier_stayed, k_Carrier_stayed⟩
    · exact ⟨a_Carrier_fare_if_standing, i_Carrier_fare_if_standing, k_Carrier_fare_if_standing⟩
    · exact ⟨a_Crawler_may_stand, i_Crawler_may_stand, k_Crawler_may_stand⟩
    · exact ⟨a_Crawler_gain, i_Crawler_gain, k_Crawler_gain⟩
    · exact ⟨a_Crawler_fare, i_Crawler_fare, k_Crawler_fare⟩
    · exact ⟨a_Runner_gain, i_Runner_gain, k_Runner_gain⟩
    · exact ⟨a_Runner_fare, i_Runner_fare, k_Runner_fare⟩
    · exact PySem.W.mg_of X G a_stands_at
    · exact k_stands_at
    · exact PySem.W.mg_of X G a_walked
    · exact k_walked
    · exact PySem.W.mg_of X G a_next_charge
    · exact k_next_charge
    · exact PySem.W.mg_of X G a_Lcell_at
    · exact k_Lcell_at
    · exact PySem.W.mg_of X G a_Lmixed
    · exact k_Lmixed
    · exact PySem.W.mg_of X G a_Lwhole
    · exact k_Lwhole
    · exact PySem.W.mg_of X G a_Llines
    · exact k_Llines
    · exact PySem.W.mg_of X G a_Lsign
    · exact k_Lsign
    · exact PySem.W.mg_of X G a_Laround
    · exact k_Laround
    · exact PySem.W.mg_of X G a_Lstands
    · exact k_Lstands
    · exact PySem.W.mg_of X G a_Lcost
    · exact k_Lcost
    · exact PySem.W.mg_of X G a_Ldue
    · exact k_Ldue
    · exact PySem.W.mg_of X G a_Lcells
    · exact k_Lcells
    · exact PySem.W.mg_of X G a_Lis_bad_way
    · exact k_Lis_bad_way
    · exact PySem.W.mg_of X G a_Ltold
    · exact k_Ltold
    · exact PySem.W.mg_of X G a_Lcarrier
    · exact k_Lcarrier
    · exact PySem.W.mg_of X G a_law
    · exact k_law
    · exact PySem.W.mg_of X G aC_Floor
    · exact ⟨pg_Floor, hd_Floor, po_Floor, sa_Floor⟩
    · exact n_Floor_wide
    · exact n_Floor_high
    · exact n_Floor_lines
    · exact n_Floor_signs
    · exact ⟨mk_Floor, a_Floor_init, i_Floor_init, kc_Floor⟩
    · exact PySem.W.mg_of X G aC_Cart
    · exact ⟨pg_Cart, hd_Cart, po_Cart, sa_Cart⟩
    · exact n_Cart_full
    · exact ⟨mk_Cart, as_Cart_init, i_Carrier_init, kc_Cart⟩
    · exact PySem.W.mg_of X G aC_Crawler
    · exact ⟨pg_Crawler, hd_Crawler, po_Crawler, sa_Crawler⟩
    · exact n_Crawler_full
    · exact ⟨mk_Crawler, as_Crawler_init, i_Carrier_init, kc_Crawler⟩
    · exact PySem.W.mg_of X G aC_Runner
    · exact ⟨pg_Runner, hd_Runner, po_Runner, sa_Runner⟩
    · exact n_Runner_full
    · exact ⟨mk_Runner, as_Runner_init, i_Carrier_init, kc_Runner⟩
    · exact PySem.W.mg_of X G aC_Carrier
    · exact ⟨pg_Carrier, hd_Carrier, po_Carrier, sa_Carrier⟩
    · exact n_Carrier_full
    · exact ⟨mk_Carrier, a_Carrier_init, i_Carrier_init, kc_Carrier⟩
    · exact ⟨as_Cart_may_stand, i_Carrier_may_stand, k_Carrier_may_stand⟩
    · exact ⟨as_Cart_gain, i_Carrier_gain, k_Carrier_gain⟩
    · exact ⟨as_Cart_fare, i_Carrier_fare, k_Carrier_fare⟩
    · exact ⟨as_Cart_cost, i_Carrier_cost, k_Carrier_cost⟩
    · exact ⟨as_Cart_steps, i_Carrier_steps, k_Carrier_steps⟩
    · exact ⟨as_Cart_stayed, i_Carrier_stayed, k_Carrier_stayed⟩
    · exact ⟨as_Cart_fare_if_standing, i_Carrier_fare_if_standing, k_Carrier_fare_if_standing⟩
    · exact ⟨as_Crawler_cost, i_Carrier_cost, k_Carrier_cost⟩
    · exact ⟨as_Crawler_steps, i_Carrier_steps, k_Carrier_steps⟩
    · exact ⟨as_Crawler_stayed, i_Carrier_stayed, k_Carrier_stayed⟩
    · exact ⟨as_Crawler_fare_if_standing, i_Carrier_fare_if_standing, k_Carrier_fare_if_standing⟩
    · exact ⟨as_Runner_may_stand, i_Carrier_may_stand, k_Carrier_may_stand⟩
    · exact ⟨as_Runner_cost, i_Carrier_cost, k_Carrier_cost⟩
    · exact ⟨as_Runner_steps, i_Carrier_steps, k_Carrier_steps⟩
    · exact ⟨as_Runner_stayed, i_Carrier_stayed, k_Carrier_stayed⟩
    · exact ⟨as_Runner_fare_if_standing, i_Carrier_fare_if_standing, k_Carrier_fare_if_standing⟩
    · exact PySem.W.mg_of X G aC_BadWay
    · exact ⟨er_BadWay⟩
    · exact PySem.W.mg_of X G aC_FloorError
    · exact PySem.W.mg_of X G aC_BadFloor
    · exact PySem.W.mg_of X G aC_BadKind
    · exact PySem.W.mg_of X G aC_BadCell
    · exact PySem.W.mg_of X G aC_BadCharge
    · exact PySem.W.mg_of X G aC_BadStops
    · exact PySem.W.mg_of X G aC_Empty
    · exact PySem.W.mg_of X G aC_NoCarrier
    · exact PySem.W.mg_of X G aC_NoTask
    · exact PySem.W.mg_of X G aC_Meets
    · exact PySem.W.mg_of X G aC_Taken
    · exact PySem.W.mg_of X G aC_Busy
    · exact PySem.W.mg_of X G aC_NoReserve
    · exact PySem.W.mg_of X G aC_Closed
    · exact PySem.W.mg_of X G aC_Jammed
    · exact xm_BadWay_FloorError
    · exact cgx
    · exact ctx
    · exact ca_Cart
    · exact cm_Cart
    · exact is_Cart_Carrier
    · exact is_Cart_Cart
    · exact is_Cart_Crawler
    · exact is_Cart_Runner
    · exact ca_Crawler
    · exact cm_Crawler
    · exact is_Crawler_Carrier
    · exact is_Crawler_Cart
    · exact is_Crawler_Crawler
    · exact is_Crawler_Runner
    · exact ca_Runner
    · exact cm_Runner
    · exact is_Runner_Carrier
    · exact is_Runner_Cart
    · exact is_Runner_Crawler
    · exact is_Runner_Runner
    · exact ca_Carrier
    · exact cm_Carrier
    · exact is_Carrier_Carrier
    · exact is_Carrier_Cart
    · exact is_Carrier_Crawler
    · exact is_Carrier_Runner
    · exact is_BadWay_BadFloor
    · exact is_BadWay_BadKind
    · exact is_BadWay_BadCell
    · exact is_BadWay_BadCharge
    · exact is_BadWay_BadStops
    · exact is_BadWay_BadWay
    · exact is_BadWay_Empty
    · exact is_BadWay_NoCarrier
    · exact is_BadWay_NoTask
    · exact is_BadWay_Meets
    · exact is_BadWay_Taken
    · exact is_BadWay_Busy
    · exact is_BadWay_NoReserve
    · exact is_BadWay_Closed
    · exact is_BadWay_Jammed
    · exact is_BadWay_FloorError
    · exact is_BadWay_ValueError
    · exact ga_BadWay
    · exact gn_BadWay
    · exact bx_BadWay
    · exact cl_BadWay
    · exact ca_BadWay
    · exact cm_BadWay
    · exact fun H => .inr ⟨_, _, _, lk_COMMON_SIGNS, rfl, rfl, (show (3 : Nat) ≤ sizeLine by rw [sizeLine_eq]; decide), .cons ⟨_, rfl⟩ (.cons ⟨_, rfl⟩ (.cons ⟨_, rfl⟩  .nil))⟩
  have F_is_whole := fun_mk (st := s_is_whole) l_is_whole c_is_whole k_is_whole
  have B_is_whole := F_is_whole.binds (ps := ["thing"]) fun _ _ _ _ _ _ us hl => match us, hl with | [_], _ => rfl
  have F_is_among := fun_mk (st := s_is_among) l_is_among c_is_among k_is_among
  have B_is_among := F_is_among.binds (ps := ["thing", "least", "most"]) fun _ _ _ _ _ _ us hl => match us, hl with | [_, _, _], _ => rfl
  have F_check_row := fun_mk (st := s_check_row) l_check_row c_check_row k_check_row
  have B_check_row := F_check_row.binds (ps := ["line", "wide"]) fun _ _ _ _ _ _ us hl => match us, hl with | [_, _], _ => rfl
  have F_check_floor := fun_mk (st := s_check_floor) l_check_floor c_check_floor k_check_floor
  have B_check_floor := F_check_floor.binds (ps := ["lines"]) fun _ _ _ _ _ _ us hl => match us, hl with | [_], _ => rfl
  have F_Floor_init := fun_mk (st := s_Floor_init) l_Floor_init c_Floor_init k_Floor_init
  have B_Floor_init := F_Floor_init.binds (ps := ["self", "lines"]) fun _ _ _ _ _ _ us hl => match us, hl with | [_, _], _ => rfl
  have F_Floor_has := fun_mk (st := s_Floor_has) l_Floor_has c_Floor_has k_Floor_has
  have B_Floor_has := F_Floor_has.binds (ps := ["self", "cell"]) fun _ _ _ _ _ _ us hl => match us, hl with | [_, _], _ => rfl
  have F_Floor_sign := fun_mk (st := s_Floor_sign) l_Floor_sign c_Floor_sign k_Floor_sign
  have B_Floor_sign := F_Floor_sign.binds (ps := ["self", "cell"]) fun _ _ _ _ _ _ us hl => match us, hl with | [_, _], _ => rfl
  have F_Floor_column := fun_mk (st := s_Floor_column) l_Floor_column c_Floor_column k_Floor_column
  have B_Floor_column := F_Floor_column.binds (ps := ["self", "cell"]) fun _ _ _ _ _ _ us hl => match us, hl with | [_, _], _ => rfl
  have F_Floor_row := fun_mk (st := s_Floor_row) l_Floor_row c_Floor_row k_Floor_row
  have B_Floor_row := F_Floor_row.binds (ps := ["self", "cell"]) fun _ _ _ _ _ _ us hl => match us, hl with | [_, _], _ => rfl
  have F_Floor_beside := fun_mk (st := s_Floor_beside) l_Floor_beside c_Floor_beside k_Floor_beside
  have B_Floor_beside := F_Floor_beside.binds (ps := ["self", "cell"]) fun _ _ _ _ _ _ us hl => match us, hl with | [_, _], _ => rfl
  have F_Carrier_init := fun_mk (st := s_Carrier_init) l_Carrier_init c_Carrier_init k_Carrier_init
  have B_Carrier_init := F_Carrier_init.binds (ps := ["self", "full"]) fun _ _ _ _ _ _ us hl => match us, hl with | [_, _], _ => rfl
  have F_Carrier_may_stand := fun_mk (st := s_Carrier_may_stand) l_Carrier_may_stand c_Carrier_may_stand k_Carrier_may_stand
  have B_Carrier_may_stand := F_Carrier_may_stand.binds (ps := ["self", "sign"]) fun _ _ _ _ _ _ us hl => match us, hl with | [_, _], _ => rfl
  have F_Carrier_gain := fun_mk (st := s_Carrier_gain) l_Carrier_gain c_Carrier_gain k_Carrier_gain
  have B_Carrier_gain := F_Carrier_gain.binds (ps := ["self", "sign"]) fun _ _ _ _ _ _ us hl => match us, hl with | [_, _], _ => rfl
  have F_Carrier_fare := fun_mk (st := s_Carrier_fare) l_Carrier_fare c_Carrier_fare k_Carrier_fare
  have B_Carrier_fare := F_Carrier_fare.binds (ps := ["self", "floor", "cell", "other"]) fun _ _ _ _ _ _ us hl => match us, hl with | [_, _, _, _], _ => rfl
  have F_Carrier_cost := fun_mk (st := s_Carrier_cost) l_Carrier_cost c_Carrier_cost k_Carrier_cost
  have B_Carrier_cost := F_Carrier_cost.binds (ps := ["self", "floor", "cell", "other"]) fun _ _ _ _ _ _ us hl => match us, hl with | [_, _, _, _], _ => rfl
  have F_Carrier_steps := fun_mk (st := s_Carrier_steps) l_Carrier_steps c_Carrier_steps k_Carrier_steps
  have B_Carrier_steps := F_Carrier_steps.binds (ps := ["self", "floor", "cell"]) fun _ _ _ _ _ _ us hl => match us, hl with | [_, _, _], _ => rfl
  have F_Carrier_stayed := fun_mk (st := s_Carrier_stayed) l_Carrier_stayed c_Carrier_stayed k_Carrier_stayed
  have B_Carrier_stayed := F_Carrier_stayed.binds (ps := ["self", "sign", "charge"]) fun _ _ _ _ _ _ us hl => match us, hl with | [_, _, _], _ => rfl
  have F_Carrier_fare_if_standing := fun_mk (st := s_Carrier_fare_if_standing) l_Carrier_fare_if_standing c_Carrier_fare_if_standing k_Carrier_fare_if_standing
  have B_Carrier_fare_if_standing := F_Carrier_fare_if_standing.binds (ps := ["self", "floor", "cell", "other"]) fun _ _ _ _ _ _ us hl => match us, hl with | [_, _, _, _], _ => rfl
  have F_Crawler_may_stand := fun_mk (st := s_Crawler_may_stand) l_Crawler_may_stand c_Crawler_may_stand k_Crawler_may_stand
  have B_Crawler_may_stand := F_Crawler_may_stand.binds (ps := ["self", "sign"]) fun _ _ _ _ _ _ us hl => match us, hl with | [_, _], _ => rfl
  have F_Crawler_gain := fun_mk (st := s_Crawler_gain) l_Crawler_gain c_Crawler_gain k_Crawler_gain
  have B_Crawler_gain := F_Crawler_gain.binds (ps := ["self", "sign"]) fun _ _ _ _ _ _ us hl => match us, hl with | [_, _], _ => rfl
  have F_Crawler_fare := fun_mk (st := s_Crawler_fare) l_Crawler_fare c_Crawler_fare k_Crawler_fare
  have B_Crawler_fare := F_Crawler_fare.binds (ps := ["self", "floor", "cell", "other"]) fun _ _ _ _ _ _ us hl => match us, hl with | [_, _, _, _], _ => rfl
  have F_Runner_gain := fun_mk (st := s_Runner_gain) l_Runner_gain c_Runner_gain k_Runner_gain
  have B_Runner_gain := F_Runner_gain.binds (ps := ["self", "sign"]) fun _ _ _ _ _ _ us hl => match us, hl with | [_, _], _ => rfl
  have F_Runner_fare := fun_mk (st := s_Runner_fare) l_Runner_fare c_Runner_fare k_Runner_fare
  have B_Runner_fare := F_Runner_fare.binds (ps := ["self", "floor", "cell", "other"]) fun _ _ _ _ _ _ us hl => match us, hl with | [_, _, _, _], _ => rfl
  have F_stands_at := fun_mk (st := s_stands_at) l_stands_at c_stands_at k_stands_at
  have B_stands_at := F_stands_at.binds (ps := ["floor", "carrier", "cell"]) fun _ _ _ _ _ _ us hl => match us, hl with | [_, _, _], _ => rfl
  have F_walked := fun_mk (st := s_walked) l_walked c_walked k_walked
  have B_walked := F_walked.binds (ps := ["floor", "carrier", "way", "charge"]) fun _ _ _ _ _ _ us hl => match us, hl with | [_, _, _, _], _ => rfl
  have F_next_charge := fun_mk (st := s_next_charge) l_next_charge c_next_charge k_next_charge
  have B_next_charge := F_next_charge.binds (ps := ["floor", "carrier", "cell", "other", "charge"]) fun _ _ _ _ _ _ us hl => match us, hl with | [_, _, _, _, _], _ => rfl
  have F_Lcell_at := fun_mk (st := s_Lcell_at) l_Lcell_at c_Lcell_at k_Lcell_at
  have B_Lcell_at := F_Lcell_at.binds (ps := ["_law_script", "_law_k"]) fun _ _ _ _ _ _ us hl => match us, hl with | [_, _], _ => rfl
  have F_Lmixed := fun_mk (st := s_Lmixed) l_Lmixed c_Lmixed k_Lmixed
  have B_Lmixed := F_Lmixed.binds (ps := ["_law_cell", "_law_k"]) fun _ _ _ _ _ _ us hl => match us, hl with | [_, _], _ => rfl
  have F_Lwhole := fun_mk (st := s_Lwhole) l_Lwhole c_Lwhole k_Lwhole
  have B_Lwhole := F_Lwhole.binds (ps := ["_law_found"]) fun _ _ _ _ _ _ us hl => match us, hl with | [_], _ => rfl
  have F_Llines := fun_mk (st := s_Llines) l_Llines c_Llines k_Llines
  have B_Llines := F_Llines.binds (ps := ["_law_script"]) fun _ _ _ _ _ _ us hl => match us, hl with | [_], _ => rfl
  have F_Lsign := fun_mk (st := s_Lsign) l_Lsign c_Lsign k_Lsign
  have B_Lsign := F_Lsign.binds (ps := ["_law_rows", "_law_place"]) fun _ _ _ _ _ _ us hl => match us, hl with | [_, _], _ => rfl
  have F_Laround := fun_mk (st := s_Laround) l_Laround c_Laround k_Laround
  have B_Laround := F_Laround.binds (ps := ["_law_rows", "_law_place"]) fun _ _ _ _ _ _ us hl => match us, hl with | [_, _], _ => rfl
  have F_Lstands := fun_mk (st := s_Lstands) l_Lstands c_Lstands k_Lstands
  have B_Lstands := F_Lstands.binds (ps := ["_law_kind", "_law_sign_here"]) fun _ _ _ _ _ _ us hl => match us, hl with | [_, _], _ => rfl
  have F_Lcost := fun_mk (st := s_Lcost) l_Lcost c_Lcost k_Lcost
  have B_Lcost := F_Lcost.binds (ps := ["_law_rows", "_law_kind", "_law_place", "_law_other"]) fun _ _ _ _ _ _ us hl => match us, hl with | [_, _, _, _], _ => rfl
  have F_Ldue := fun_mk (st := s_Ldue) l_Ldue c_Ldue k_Ldue
  have B_Ldue := F_Ldue.binds (ps := ["_law_rows", "_law_kind", "_law_full", "_law_cells_here", "_law_charge"]) fun _ _ _ _ _ _ us hl => match us, hl with | [_, _, _, _, _], _ => rfl
  have F_Lcells := fun_mk (st := s_Lcells) l_Lcells c_Lcells k_Lcells
  have B_Lcells := F_Lcells.binds (ps := ["_law_script", "_law_rows", "_law_kind"]) fun _ _ _ _ _ _ us hl => match us, hl with | [_, _, _], _ => rfl
  have F_Lis_bad_way := fun_mk (st := s_Lis_bad_way) l_Lis_bad_way c_Lis_bad_way k_Lis_bad_way
  have B_Lis_bad_way := F_Lis_bad_way.binds (ps := ["_law_error"]) fun _ _ _ _ _ _ us hl => match us, hl with | [_], _ => rfl
  have F_Ltold := fun_mk (st := s_Ltold) l_Ltold c_Ltold k_Ltold
  have B_Ltold := F_Ltold.binds (ps := ["_law_floor", "_law_carrier_here", "_law_way", "_law_charge"]) fun _ _ _ _ _ _ us hl => match us, hl with | [_, _, _, _], _ => rfl
  have F_Lcarrier := fun_mk (st := s_Lcarrier) l_Lcarrier c_Lcarrier k_Lcarrier
  have B_Lcarrier := F_Lcarrier.binds (ps := ["_law_which", "_law_full"]) fun _ _ _ _ _ _ us hl => match us, hl with | [_, _], _ => rfl
  have F_law := fun_mk (st := s_law) l_law c_law k_law
  refine ⟨PySem.W.fnOf "law" "law" (defArgs s_law) (defBody s_law) (defScope s_law) .none kV_law dc_law pm_law an_law cd_law ct_law, ?bd, fun base _ _ => ?fn⟩
  case fn =>
    have G_is_whole : FnOk l.prog w K mg base CX0 1 f_is_whole _ ["thing"] (spWhole K) := ok_is_whole (ad := ⟨f_is_whole, f_is_among, f_check_row, f_check_floor, f_Floor_init, f_Floor_has, f_Floor_sign, f_Floor_column, f_Floor_row, f_Floor_beside, f_Carrier_init, f_Carrier_may_stand, f_Carrier_gain, f_Carrier_fare, f_Carrier_cost, f_Carrier_steps, f_Carrier_stayed, f_Carrier_fare_if_standing, f_Crawler_may_stand, f_Crawler_gain, f_Crawler_fare, f_Runner_gain, f_Runner_fare, f_stands_at, f_walked, f_next_charge, f_Lcell_at, f_Lmixed, f_Lwhole, f_Llines, f_Lsign, f_Laround, f_Lstands, f_Lcost, f_Ldue, f_Lcells, f_Lis_bad_way, f_Ltold, f_Lcarrier, f_law, C_Floor, C_Cart, C_Crawler, C_Runner, C_Carrier, C_BadWay, C_FloorError, C_BadFloor, C_BadKind, C_BadCell, C_BadCharge, C_BadStops, C_Empty, C_NoCarrier, C_NoTask, C_Meets, C_Taken, C_Busy, C_NoReserve, C_Closed, C_Jammed, K_COMMON_SIGNS⟩) F_is_whole T
    have G_is_among : FnOk l.prog w K mg base CX0 2 f_is_among _ ["thing", "least", "most"] (spAmong K) := ok_is_among (ad := ⟨f_is_whole, f_is_among, f_check_row, f_check_floor, f_Floor_init, f_Floor_has, f_Floor_sign, f_Floor_column, f_Floor_row, f_Floor_beside, f_Carrier_init, f_Carrier_may_stand, f_Carrier_gain, f_Carrier_fare, f_Carrier_cost, f_Carrier_steps, f_Carrier_stayed, f_Carrier_fare_if_standing, f_Crawler_may_stand, f_Crawler_gain, f_Crawler_fare, f_Runner_gain, f_Runner_fare, f_stands_at, f_walked, f_next_charge, f_Lcell_at, f_Lmixed, f_Lwhole, f_Llines, f_Lsign, f_Laround, f_Lstands, f_Lcost, f_Ldue, f_Lcells, f_Lis_bad_way, f_Ltold, f_Lcarrier, f_law, C_Floor, C_Cart, C_Crawler, C_Runner, C_Carrier, C_BadWay, C_FloorError, C_BadFloor, C_BadKind, C_BadCell, C_BadCharge, C_BadStops, C_Empty, C_NoCarrier, C_NoTask, C_Meets, C_Taken, C_Busy, C_NoReserve, C_Closed, C_Jammed, K_COMMON_SIGNS⟩) F_is_among T B_is_whole G_is_whole
    have G_check_row : FnOk l.prog w K mg base CX0 1 f_check_row _ ["line", "wide"] (spRow) := ok_check_row (ad := ⟨f_is_whole, f_is_among, f_check_row, f_check_floor, f_Floor_init, f_Floor_has, f_Floor_sign, f_Floor_column, f_Floor_row, f_Floor_beside, f_Carrier_init, f_Carrier_may_stand, f_Carrier_gain, f_Carrier_fare, f_Carrier_cost, f_Carrier_steps, f_Carrier_stayed, f_Carrier_fare_if_standing, f_Crawler_may_stand, f_Crawler_gain, f_Crawler_fare, f_Runner_gain, f_Runner_fare, f_stands_at, f_walked, f_next_charge, f_Lcell_at, f_Lmixed, f_Lwhole, f_Llines, f_Lsign, f_Laround, f_Lstands, f_Lcost, f_Ldue, f_Lcells, f_Lis_bad_way, f_Ltold, f_Lcarrier, f_law, C_Floor, C_Cart, C_Crawler, C_Runner, C_Carrier, C_BadWay, C_FloorError, C_BadFloor, C_BadKind, C_BadCell, C_BadCharge, C_BadStops, C_Empty, C_NoCarrier, C_NoTask, C_Meets, C_Taken, C_Busy, C_NoReserve, C_Closed, C_Jammed, K_COMMON_SIGNS⟩) F_check_row T
    have G_check_floor : FnOk l.prog w K mg base CX0 3 f_check_floor _ ["lines"] (spCheck) := ok_check_floor (ad := ⟨f_is_whole, f_is_among, f_check_row, f_check_floor, f_Floor_init, f_Floor_has, f_Floor_sign, f_Floor_column, f_Floor_row, f_Floor_beside, f_Carrier_init, f_Carrier_may_stand, f_Carrier_gain, f_Carrier_fare, f_Carrier_cost, f_Carrier_steps, f_Carrier_stayed, f_Carrier_fare_if_standing, f_Crawler_may_stand, f_Crawler_gain, f_Crawler_fare, f_Runner_gain, f_Runner_fare, f_stands_at, f_walked, f_next_charge, f_Lcell_at, f_Lmixed, f_Lwhole, f_Llines, f_Lsign, f_Laround, f_Lstands, f_Lcost, f_Ldue, f_Lcells, f_Lis_bad_way, f_Ltold, f_Lcarrier, f_law, C_Floor, C_Cart, C_Crawler, C_Runner, C_Carrier, C_BadWay, C_FloorError, C_BadFloor, C_BadKind, C_BadCell, C_BadCharge, C_BadStops, C_Empty, C_NoCarrier, C_NoTask, C_Meets, C_Taken, C_Busy, C_NoReserve, C_Closed, C_Jammed, K_COMMON_SIGNS⟩) F_check_floor T B_is_among G_is_among B_check_row G_check_row
    have G_Floor_init : FnOk l.prog w K mg base CX0 4 f_Floor_init _ ["self", "lines"] (spInit C_Floor) := ok_Floor_init (ad := ⟨f_is_whole, f_is_among, f_check_row, f_check_floor, f_Floor_init, f_Floor_has, f_Floor_sign, f_Floor_column, f_Floor_row, f_Floor_beside, f_Carrier_init, f_Carrier_may_stand, f_Carrier_gain, f_Carrier_fare, f_Carrier_cost, f_Carrier_steps, f_Carrier_stayed, f_Carrier_fare_if_standing, f_Crawler_may_stand, f_Crawler_gain, f_Crawler_fare, f_Runner_gain, f_Runner_fare, f_stands_at, f_walked, f_next_charge, f_Lcell_at, f_Lmixed, f_Lwhole, f_Llines, f_Lsign, f_Laround, f_Lstands, f_Lcost, f_Ldue, f_Lcells, f_Lis_bad_way, f_Ltold, f_Lcarrier, f_law, C_Floor, C_Cart, C_Crawler, C_Runner, C_Carrier, C_BadWay, C_FloorError, C_BadFloor, C_BadKind, C_BadCell, C_BadCharge, C_BadStops, C_Empty, C_NoCarrier, C_NoTask, C_Meets, C_Taken, C_Busy, C_NoReserve, C_Closed, C_Jammed, K_COMMON_SIGNS⟩) F_Floor_init T B_check_floor G_check_floor
    have G_Floor_has : FnOk l.prog w K mg base CX0 3 f_Floor_has _ ["self", "cell"] (spHas K C_Floor) := ok_Floor_has (ad := ⟨f_is_whole, f_is_among, f_check_row, f_check_floor, f_Floor_init, f_Floor_has, f_Floor_sign, f_Floor_column, f_Floor_row, f_Floor_beside, f_Carrier_init, f_Carrier_may_stand, f_Carrier_gain, f_Carrier_fare, f_Carrier_cost, f_Carrier_steps, f_Carrier_stayed, f_Carrier_fare_if_standing, f_Crawler_may_stand, f_Crawler_gain, f_Crawler_fare, f_Runner_gain, f_Runner_fare, f_stands_at, f_walked, f_next_charge, f_Lcell_at, f_Lmixed, f_Lwhole, f_Llines, f_Lsign, f_Laround, f_Lstands, f_Lcost, f_Ldue, f_Lcells, f_Lis_bad_way, f_Ltold, f_Lcarrier, f_law, C_Floor, C_Cart, C_Crawler, C_Runner, C_Carrier, C_BadWay, C_FloorError, C_BadFloor, C_BadKind, C_BadCell, C_BadCharge, C_BadStops, C_Empty, C_NoCarrier, C_NoTask, C_Meets, C_Taken, C_Busy, C_NoReserve, C_Closed, C_Jammed, K_COMMON_SIGNS⟩) F_Floor_has T B_is_among G_is_among
    have G_Floor_sign : FnOk l.prog w K mg base CX0 1 f_Floor_sign _ ["self", "cell"] (spSign C_Floor) := ok_Floor_sign (ad := ⟨f_is_whole, f_is_among, f_check_row, f_check_floor, f_Floor_init, f_Floor_has, f_Floor_sign, f_Floor_column, f_Floor_row, f_Floor_beside, f_Carrier_init, f_Carrier_may_stand, f_Carrier_gain, f_Carrier_fare, f_Carrier_cost, f_Carrier_steps, f_Carrier_stayed, f_Carrier_fare_if_standing, f_Crawler_may_stand, f_Crawler_gain, f_Crawler_fare, f_Runner_gain, f_Runner_fare, f_stands_at, f_walked, f_next_charge, f_Lcell_at, f_Lmixed, f_Lwhole, f_Llines, f_Lsign, f_Laround, f_Lstands, f_Lcost, f_Ldue, f_Lcells, f_Lis_bad_way, f_Ltold, f_Lcarrier, f_law, C_Floor, C_Cart, C_Crawler, C_Runner, C_Carrier, C_BadWay, C_FloorError, C_BadFloor, C_BadKind, C_BadCell, C_BadCharge, C_BadStops, C_Empty, C_NoCarrier, C_NoTask, C_Meets, C_Taken, C_Busy, C_NoReserve, C_Closed, C_Jammed, K_COMMON_SIGNS⟩) F_Floor_sign T
    have G_Floor_column : FnOk l.prog w K mg base CX0 1 f_Floor_column _ ["self", "cell"] (spCol C_Floor) := ok_Floor_column (ad := ⟨f_is_whole, f_is_among, f_check_row, f_check_floor, f_Floor_init, f_Floor_has, f_Floor_sign, f_Floor_column, f_Floor_row, f_Floor_beside, f_Carrier_init, f_Carrier_may_stand, f_Carrier_gain, f_Carrier_fare, f_Carrier_cost, f_Carrier_steps, f_Carrier_stayed, f_Carrier_fare_if_standing, f_Crawler_may_stand, f_Crawler_gain, f_Crawler_fare, f_Runner_gain, f_Runner_fare, f_stands_at, f_walked, f_next_charge, f_Lcell_at, f_Lmixed, f_Lwhole, f_Llines, f_Lsign, f_Laround, f_Lstands, f_Lcost, f_Ldue, f_Lcells, f_Lis_bad_way, f_Ltold, f_Lcarrier, f_law, C_Floor, C_Cart, C_Crawler, C_Runner, C_Carrier, C_BadWay, C_FloorError, C_BadFloor, C_BadKind, C_BadCell, C_BadCharge, C_BadStops, C_Empty, C_NoCarrier, C_NoTask, C_Meets, C_Taken, C_Busy, C_NoReserve, C_Closed, C_Jammed, K_COMMON_SIGNS⟩) F_Floor_column T
    have G_Floor_row : FnOk l.prog w K mg base CX0 1 f_Floor_row _ ["self", "cell"] (spRowOf C_Floor) := ok_Floor_row (ad := ⟨f_is_whole, f_is_among, f_check_row, f_check_floor, f_Floor_init, f_Floor_has, f_Floor_sign, f_Floor_column, f_Floor_row, f_Floor_beside, f_Carrier_init, f_Carrier_may_stand, f_Carrier_gain, f_Carrier_fare, f_Carrier_cost, f_Carrier_steps, f_Carrier_stayed, f_Carrier_fare_if_standing, f_Crawler_may_stand, f_Crawler_gain, f_Crawler_fare, f_Runner_gain, f_Runner_fare, f_stands_at, f_walked, f_next_charge, f_Lcell_at, f_Lmixed, f_Lwhole, f_Llines, f_Lsign, f_Laround, f_Lstands, f_Lcost, f_Ldue, f_Lcells, f_Lis_bad_way, f_Ltold, f_Lcarrier, f_law, C_Floor, C_Cart, C_Crawler, C_Runner, C_Carrier, C_BadWay, C_FloorError, C_BadFloor, C_BadKind, C_BadCell, C_BadCharge, C_BadStops, C_Empty, C_NoCarrier, C_NoTask, C_Meets, C_Taken, C_Busy, C_NoReserve, C_Closed, C_Jammed, K_COMMON_SIGNS⟩) F_Floor_row T
    have G_Floor_beside : FnOk l.prog w K mg base CX0 4 f_Floor_beside _ ["self", "cell"] (spBeside C_Floor) := ok_Floor_beside (ad := ⟨f_is_whole, f_is_among, f_check_row, f_check_floor, f_Floor_init, f_Floor_has, f_Floor_sign, f_Floor_column, f_Floor_row, f_Floor_beside, f_Carrier_init, f_Carrier_may_stand, f_Carrier_gain, f_Carrier_fare, f_Carrier_cost, f_Carrier_steps, f_Carrier_stayed, f_Carrier_fare_if_standing, f_Crawler_may_stand, f_Crawler_gain, f_Crawler_fare, f_Runner_gain, f_Runner_fare, f_stands_at, f_walked, f_next_charge, f_Lcell_at, f_Lmixed, f_Lwhole, f_Llines, f_Lsign, f_Laround, f_Lstands, f_Lcost, f_Ldue, f_Lcells, f_Lis_bad_way, f_Ltold, f_Lcarrier, f_law, C_Floor, C_Cart, C_Crawler, C_Runner, C_Carrier, C_BadWay, C_FloorError, C_BadFloor, C_BadKind, C_BadCell, C_BadCharge, C_BadStops, C_Empty, C_NoCarrier, C_NoTask, C_Meets, C_Taken, C_Busy, C_NoReserve, C_Closed, C_Jammed, K_COMMON_SIGNS⟩) F_Floor_beside T B_Floor_column G_Floor_column B_Floor_has G_Floor_has
    have G_Carrier_init : FnOk l.prog w K mg base CX0 1 f_Carrier_init _ ["self", "full"] (spCInit (⟨f_is_whole, f_is_among, f_check_row, f_check_floor, f_Floor_init, f_Floor_has, f_Floor_sign, f_Floor_column, f_Floor_row, f_Floor_beside, f_Carrier_init, f_Carrier_may_stand, f_Carrier_gain, f_Carrier_fare, f_Carrier_cost, f_Carrier_steps, f_Carrier_stayed, f_Carrier_fare_if_standing, f_Crawler_may_stand, f_Crawler_gain, f_Crawler_fare, f_Runner_gain, f_Runner_fare, f_stands_at, f_walked, f_next_charge, f_Lcell_at, f_Lmixed, f_Lwhole, f_Llines, f_Lsign, f_Laround, f_Lstands, f_Lcost, f_Ldue, f_Lcells, f_Lis_bad_way, f_Ltold, f_Lcarrier, f_law, C_Floor, C_Cart, C_Crawler, C_Runner, C_Carrier, C_BadWay, C_FloorError, C_BadFloor, C_BadKind, C_BadCell, C_BadCharge, C_BadStops, C_Empty, C_NoCarrier, C_NoTask, C_Meets, C_Taken, C_Busy, C_NoReserve, C_Closed, C_Jammed, K_COMMON_SIGNS⟩ : Ad)) := ok_Carrier_init (ad := ⟨f_is_whole, f_is_among, f_check_row, f_check_floor, f_Floor_init, f_Floor_has, f_Floor_sign, f_Floor_column, f_Floor_row, f_Floor_beside, f_Carrier_init, f_Carrier_may_stand, f_Carrier_gain, f_Carrier_fare, f_Carrier_cost, f_Carrier_steps, f_Carrier_stayed, f_Carrier_fare_if_standing, f_Crawler_may_stand, f_Crawler_gain, f_Crawler_fare, f_Runner_gain, f_Runner_fare, f_stands_at, f_walked, f_next_charge, f_Lcell_at, f_Lmixed, f_Lwhole, f_Llines, f_Lsign, f_Laround, f_Lstands, f_Lcost, f_Ldue, f_Lcells, f_Lis_bad_way, f_Ltold, f_Lcarrier, f_law, C_Floor, C_Cart, C_Crawler, C_Runner, C_Carrier, C_BadWay, C_FloorError, C_BadFloor, C_BadKind, C_BadCell, C_BadCharge, C_BadStops, C_Empty, C_NoCarrier, C_NoTask, C_Meets, C_Taken, C_Busy, C_NoReserve, C_Closed, C_Jammed, K_COMMON_SIGNS⟩) F_Carrier_init T
    have G_Carrier_may_stand : FnOk l.prog w K mg base CX0 1 f_Carrier_may_stand _ ["self", "sign"] (spMay 0) := ok_Carrier_may_stand (ad := ⟨f_is_whole, f_is_among, f_check_row, f_check_floor, f_Floor_init, f_Floor_has, f_Floor_sign, f_Floor_column, f_Floor_row, f_Floor_beside, f_Carrier_init, f_Carrier_may_stand, f_Carrier_gain, f_Carrier_fare, f_Carrier_cost, f_Carrier_steps, f_Carrier_stayed, f_Carrier_fare_if_standing, f_Crawler_may_stand, f_Crawler_gain, f_Crawler_fare, f_Runner_gain, f_Runner_fare, f_stands_at, f_walked, f_next_charge, f_Lcell_at, f_Lmixed, f_Lwhole, f_Llines, f_Lsign, f_Laround, f_Lstands, f_Lcost, f_Ldue, f_Lcells, f_Lis_bad_way, f_Ltold, f_Lcarrier, f_law, C_Floor, C_Cart, C_Crawler, C_Runner, C_Carrier, C_BadWay, C_FloorError, C_BadFloor, C_BadKind, C_BadCell, C_BadCharge, C_BadStops, C_Empty, C_NoCarrier, C_NoTask, C_Meets, C_Taken, C_Busy, C_NoReserve, C_Closed, C_Jammed, K_COMMON_SIGNS⟩) F_Carrier_may_stand T
    have G_Crawler_may_stand : FnOk l.prog w K mg base CX0 1 f_Crawler_may_stand _ ["self", "sign"] (spMay 1) := ok_Crawler_may_stand (ad := ⟨f_is_whole, f_is_among, f_check_row, f_check_floor, f_Floor_init, f_Floor_has, f_Floor_sign, f_Floor_column, f_Floor_row, f_Floor_beside, f_Carrier_init, f_Carrier_may_stand, f_Carrier_gain, f_Carrier_fare, f_Carrier_cost, f_Carrier_steps, f_Carrier_stayed, f_Carrier_fare_if_standing, f_Crawler_may_stand, f_Crawler_gain, f_Crawler_fare, f_Runner_gain, f_Runner_fare, f_stands_at, f_walked, f_next_charge, f_Lcell_at, f_Lmixed, f_Lwhole, f_Llines, f_Lsign, f_Laround, f_Lstands, f_Lcost, f_Ldue, f_Lcells, f_Lis_bad_way, f_Ltold, f_Lcarrier, f_law, C_Floor, C_Cart, C_Crawler, C_Runner, C_Carrier, C_BadWay, C_FloorError, C_BadFloor, C_BadKind, C_BadCell, C_BadCharge, C_BadStops, C_Empty, C_NoCarrier, C_NoTask, C_Meets, C_Taken, C_Busy, C_NoReserve, C_Closed, C_Jammed, K_COMMON_SIGNS⟩) F_Crawler_may_stand T
    have G_Carrier_gain : FnOk l.prog w K mg base CX0 1 f_Carrier_gain _ ["self", "sign"] (spGain 0) := ok_Carrier_gain (ad := ⟨f_is_whole, f_is_among, f_check_row, f_check_floor, f_Floor_init, f_Floor_has, f_Floor_sign, f_Floor_column, f_Floor_row, f_Floor_beside, f_Carrier_init, f_Carrier_may_stand, f_Carrier_gain, f_Carrier_fare, f_Carrier_cost, f_Carrier_steps, f_Carrier_stayed, f_Carrier_fare_if_standing, f_Crawler_may_stand, f_Crawler_gain, f_Crawler_fare, f_Runner_gain, f_Runner_fare, f_stands_at, f_walked, f_next_charge, f_Lcell_at, f_Lmixed, f_Lwhole, f_Llines, f_Lsign, f_Laround, f_Lstands, f_Lcost, f_Ldue, f_Lcells, f_Lis_bad_way, f_Ltold, f_Lcarrier, f_law, C_Floor, C_Cart, C_Crawler, C_Runner, C_Carrier, C_BadWay, C_FloorError, C_BadFloor, C_BadKind, C_BadCell, C_BadCharge, C_BadStops, C_Empty, C_NoCarrier, C_NoTask, C_Meets, C_Taken, C_Busy, C_NoReserve, C_Closed, C_Jammed, K_COMMON_SIGNS⟩) F_Carrier_gain T
    have G_Crawler_gain : FnOk l.prog w K mg base CX0 1 f_Crawler_gain _ ["self", "sign"] (spGain 1) := ok_Crawler_gain (ad := ⟨f_is_whole, f_is_among, f_check_row, f_check_floor, f_Floor_init, f_Floor_has, f_Floor_sign, f_Floor_column, f_Floor_row, f_Floor_beside, f_Carrier_init, f_Carrier_may_stand, f_Carrier_gain, f_Carrier_fare, f_Carrier_cost, f_Carrier_steps, f_Carrier_stayed, f_Carrier_fare_if_standing, f_Crawler_may_stand, f_Crawler_gain, f_Crawler_fare, f_Runner_gain, f_Runner_fare, f_stands_at, f_walked, f_next_charge, f_Lcell_at, f_Lmixed, f_Lwhole, f_Llines, f_Lsign, f_Laround, f_Lstands, f_Lcost, f_Ldue, f_Lcells, f_Lis_bad_way, f_Ltold, f_Lcarrier, f_law, C_Floor, C_Cart, C_Crawler, C_Runner, C_Carrier, C_BadWay, C_FloorError, C_BadFloor, C_BadKind, C_BadCell, C_BadCharge, C_BadStops, C_Empty, C_NoCarrier, C_NoTask, C_Meets, C_Taken, C_Busy, C_NoReserve, C_Closed, C_Jammed, K_COMMON_SIGNS⟩) F_Crawler_gain T
    have G_Runner_gain : FnOk l.prog w K mg base CX0 1 f_Runner_gain _ ["self", "sign"] (spGain 2) := ok_Runner_gain (ad := ⟨f_is_whole, f_is_among, f_check_row, f_check_floor, f_Floor_init, f_Floor_has, f_Floor_sign, f_Floor_column, f_Floor_row, f_Floor_beside, f_Carrier_init, f_Carrier_may_stand, f_Carrier_gain, f_Carrier_fare, f_Carrier_cost, f_Carrier_steps, f_Carrier_stayed, f_Carrier_fare_if_standing, f_Crawler_may_stand, f_Crawler_gain, f_Crawler_fare, f_Runner_gain, f_Runner_fare, f_stands_at, f_walked, f_next_charge, f_Lcell_at, f_Lmixed, f_Lwhole, f_Llines, f_Lsign, f_Laround, f_Lstands, f_Lcost, f_Ldue, f_Lcells, f_Lis_bad_way, f_Ltold, f_Lcarrier, f_law, C_Floor, C_Cart, C_Crawler, C_Runner, C_Carrier, C_BadWay, C_FloorError, C_BadFloor, C_BadKind, C_BadCell, C_BadCharge, C_BadStops, C_Empty, C_NoCarrier, C_NoTask, C_Meets, C_Taken, C_Busy, C_NoReserve, C_Closed, C_Jammed, K_COMMON_SIGNS⟩) F_Runner_gain T
    have G_Carrier_fare : FnOk l.prog w K mg base CX0 1 f_Carrier_fare _ ["self", "floor", "cell", "other"] (spFare C_Floor 0) := ok_Carrier_fare (ad := ⟨f_is_whole, f_is_among, f_check_row, f_check_floor, f_Floor_init, f_Floor_has, f_Floor_sign, f_Floor_column, f_Floor_row, f_Floor_beside, f_Carrier_init, f_Carrier_may_stand, f_Carrier_gain, f_Carrier_fare, f_Carrier_cost, f_Carrier_steps, f_Carrier_stayed, f_Carrier_fare_if_standing, f_Crawler_may_stand, f_Crawler_gain, f_Crawler_fare, f_Runner_gain, f_Runner_fare, f_stands_at, f_walked, f_next_charge, f_Lcell_at, f_Lmixed, f_Lwhole, f_Llines, f_Lsign, f_Laround, f_Lstands, f_Lcost, f_Ldue, f_Lcells, f_Lis_bad_way, f_Ltold, f_Lcarrier, f_law, C_Floor, C_Cart, C_Crawler, C_Runner, C_Carrier, C_BadWay, C_FloorError, C_BadFloor, C_BadKind, C_BadCell, C_BadCharge, C_BadStops, C_Empty, C_NoCarrier, C_NoTask, C_Meets, C_Taken, C_Busy, C_NoReserve, C_Closed, C_Jammed, K_COMMON_SIGNS⟩) F_Carrier_fare T
    have G_Crawler_fare : FnOk l.prog w K mg base CX0 2 f_Crawler_fare _ ["self", "floor", "cell", "other"] (spFare C_Floor 1) := ok_Crawler_fare (ad := ⟨f_is_whole, f_is_among, f_check_row, f_check_floor, f_Floor_init, f_Floor_has, f_Floor_sign, f_Floor_column, f_Floor_row, f_Floor_beside, f_Carrier_init, f_Carrier_may_stand, f_Carrier_gain, f_Carrier_fare, f_Carrier_cost, f_Carrier_steps, f_Carrier_stayed, f_Carrier_fare_if_standing, f_Crawler_may_stand, f_Crawler_gain, f_Crawler_fare, f_Runner_gain, f_Runner_fare, f_stands_at, f_walked, f_next_charge, f_Lcell_at, f_Lmixed, f_Lwhole, f_Llines, f_Lsign, f_Laround, f_Lstands, f_Lcost, f_Ldue, f_Lcells, f_Lis_bad_way, f_Ltold, f_Lcarrier, f_law, C_Floor, C_Cart, C_Crawler, C_Runner, C_Carrier, C_BadWay, C_FloorError, C_BadFloor, C_BadKind, C_BadCell, C_BadCharge, C_BadStops, C_Empty, C_NoCarrier, C_NoTask, C_Meets, C_Taken, C_Busy, C_NoReserve, C_Closed, C_Jammed, K_COMMON_SIGNS⟩) F_Crawler_fare T B_Floor_sign G_Floor_sign
    have G_Runner_fare : FnOk l.prog w K mg base CX0 2 f_Runner_fare _ ["self", "floor", "cell", "other"] (spFare C_Floor 2) := ok_Runner_fare (ad := ⟨f_is_whole, f_is_among, f_check_row, f_check_floor, f_Floor_init, f_Floor_has, f_Floor_sign, f_Floor_column, f_Floor_row, f_Floor_beside, f_Carrier_init, f_Carrier_may_stand, f_Carrier_gain, f_Carrier_fare, f_Carrier_cost, f_Carrier_steps, f_Carrier_stayed, f_Carrier_fare_if_standing, f_Crawler_may_stand, f_Crawler_gain, f_Crawler_fare, f_Runner_gain, f_Runner_fare, f_stands_at, f_walked, f_next_charge, f_Lcell_at, f_Lmixed, f_Lwhole, f_Llines, f_Lsign, f_Laround, f_Lstands, f_Lcost, f_Ldue, f_Lcells, f_Lis_bad_way, f_Ltold, f_Lcarrier, f_law, C_Floor, C_Cart, C_Crawler, C_Runner, C_Carrier, C_BadWay, C_FloorError, C_BadFloor, C_BadKind, C_BadCell, C_BadCharge, C_BadStops, C_Empty, C_NoCarrier, C_NoTask, C_Meets, C_Taken, C_Busy, C_NoReserve, C_Closed, C_Jammed, K_COMMON_SIGNS⟩) F_Runner_fare T B_Floor_row G_Floor_row B_Floor_sign G_Floor_sign
    have G_Carrier_fare_if_standing : FnOk l.prog w K mg base CX0 3 f_Carrier_fare_if_standing _ ["self", "floor", "cell", "other"] (spFareIf (⟨f_is_whole, f_is_among, f_check_row, f_check_floor, f_Floor_init, f_Floor_has, f_Floor_sign, f_Floor_column, f_Floor_row, f_Floor_beside, f_Carrier_init, f_Carrier_may_stand, f_Carrier_gain, f_Carrier_fare, f_Carrier_cost, f_Carrier_steps, f_Carrier_stayed, f_Carrier_fare_if_standing, f_Crawler_may_stand, f_Crawler_gain, f_Crawler_fare, f_Runner_gain, f_Runner_fare, f_stands_at, f_walked, f_next_charge, f_Lcell_at, f_Lmixed, f_Lwhole, f_Llines, f_Lsign, f_Laround, f_Lstands, f_Lcost, f_Ldue, f_Lcells, f_Lis_bad_way, f_Ltold, f_Lcarrier, f_law, C_Floor, C_Cart, C_Crawler, C_Runner, C_Carrier, C_BadWay, C_FloorError, C_BadFloor, C_BadKind, C_BadCell, C_BadCharge, C_BadStops, C_Empty, C_NoCarrier, C_NoTask, C_Meets, C_Taken, C_Busy, C_NoReserve, C_Closed, C_Jammed, K_COMMON_SIGNS⟩ : Ad)) := ok_Carrier_fare_if_standing (ad := ⟨f_is_whole, f_is_among, f_check_row, f_check_floor, f_Floor_init, f_Floor_has, f_Floor_sign, f_Floor_column, f_Floor_row, f_Floor_beside, f_Carrier_init, f_Carrier_may_stand, f_Carrier_gain, f_Carrier_fare, f_Carrier_cost, f_Carrier_steps, f_Carrier_stayed, f_Carrier_fare_if_standing, f_Crawler_may_stand, f_Crawler_gain, f_Crawler_fare, f_Runner_gain, f_Runner_fare, f_stands_at, f_walked, f_next_charge, f_Lcell_at, f_Lmixed, f_Lwhole, f_Llines, f_Lsign, f_Laround, f_Lstands, f_Lcost, f_Ldue, f_Lcells, f_Lis_bad_way, f_Ltold, f_Lcarrier, f_law, C_Floor, C_Cart, C_Crawler, C_Runner, C_Carrier, C_BadWay, C_FloorError, C_BadFloor, C_BadKind, C_BadCell, C_BadCharge, C_BadStops, C_Empty, C_NoCarrier, C_NoTask, C_Meets, C_Taken, C_Busy, C_NoReserve, C_Closed, C_Jammed, K_COMMON_SIGNS⟩) F_Carrier_fare_if_standing T B_Carrier_may_stand G_Carrier_may_stand B_Crawler_may_stand G_Crawler_may_stand B_Floor_sign G_Floor_sign B_Carrier_fare G_Carrier_fare B_Crawler_fare G_Crawler_fare B_Runner_fare G_Runner_fare
    have G_Carrier_cost : FnOk l.prog w K mg base CX0 5 f_Carrier_cost _ ["self", "floor", "cell", "other"] (spCost (⟨f_is_whole, f_is_among, f_check_row, f_check_floor, f_Floor_init, f_Floor_has, f_Floor_sign, f_Floor_column, f_Floor_row, f_Floor_beside, f_Carrier_init, f_Carrier_may_stand, f_Carrier_gain, f_Carrier_fare, f_Carrier_cost, f_Carrier_steps, f_Carrier_stayed, f_Carrier_fare_if_standing, f_Crawler_may_stand, f_Crawler_gain, f_Crawler_fare, f_Runner_gain, f_Runner_fare, f_stands_at, f_walked, f_next_charge, f_Lcell_at, f_Lmixed, f_Lwhole, f_Llines, f_Lsign, f_Laround, f_Lstands, f_Lcost, f_Ldue, f_Lcells, f_Lis_bad_way, f_Ltold, f_Lcarrier, f_law, C_Floor, C_Cart, C_Crawler, C_Runner, C_Carrier, C_BadWay, C_FloorError, C_BadFloor, C_BadKind, C_BadCell, C_BadCharge, C_BadStops, C_Empty, C_NoCarrier, C_NoTask, C_Meets, C_Taken, C_Busy, C_NoReserve, C_Closed, C_Jammed, K_COMMON_SIGNS⟩ : Ad)) := ok_Carrier_cost (ad := ⟨f_is_whole, f_is_among, f_check_row, f_check_floor, f_Floor_init, f_Floor_has, f_Floor_sign, f_Floor_column, f_Floor_row, f_Floor_beside, f_Carrier_init, f_Carrier_may_stand, f_Carrier_gain, f_Carrier_fare, f_Carrier_cost, f_Carrier_steps, f_Carrier_stayed, f_Carrier_fare_if_standing, f_Crawler_may_stand, f_Crawler_gain, f_Crawler_fare, f_Runner_gain, f_Runner_fare, f_stands_at, f_walked, f_next_charge, f_Lcell_at, f_Lmixed, f_Lwhole, f_Llines, f_Lsign, f_Laround, f_Lstands, f_Lcost, f_Ldue, f_Lcells, f_Lis_bad_way, f_Ltold, f_Lcarrier, f_law, C_Floor, C_Cart, C_Crawler, C_Runner, C_Carrier, C_BadWay, C_FloorError, C_BadFloor, C_BadKind, C_BadCell, C_BadCharge, C_BadStops, C_Empty, C_NoCarrier, C_NoTask, C_Meets, C_Taken, C_Busy, C_NoReserve, C_Closed, C_Jammed, K_COMMON_SIGNS⟩) F_Carrier_cost T B_Floor_beside G_Floor_beside B_Carrier_fare_if_standing G_Carrier_fare_if_standing
    have G_Carrier_steps : FnOk l.prog w K mg base CX0 5 f_Carrier_steps _ ["self", "floor", "cell"] (spSteps (⟨f_is_whole, f_is_among, f_check_row, f_check_floor, f_Floor_init, f_Floor_has, f_Floor_sign, f_Floor_column, f_Floor_row, f_Floor_beside, f_Carrier_init, f_Carrier_may_stand, f_Carrier_gain, f_Carrier_fare, f_Carrier_cost, f_Carrier_steps, f_Carrier_stayed, f_Carrier_fare_if_standing, f_Crawler_may_stand, f_Crawler_gain, f_Crawler_fare, f_Runner_gain, f_Runner_fare, f_stands_at, f_walked, f_next_charge, f_Lcell_at, f_Lmixed, f_Lwhole, f_Llines, f_Lsign, f_Laround, f_Lstands, f_Lcost, f_Ldue, f_Lcells, f_Lis_bad_way, f_Ltold, f_Lcarrier, f_law, C_Floor, C_Cart, C_Crawler, C_Runner, C_Carrier, C_BadWay, C_FloorError, C_BadFloor, C_BadKind, C_BadCell, C_BadCharge, C_BadStops, C_Empty, C_NoCarrier, C_NoTask, C_Meets, C_Taken, C_Busy, C_NoReserve, C_Closed, C_Jammed, K_COMMON_SIGNS⟩ : Ad)) := ok_Carrier_steps (ad := ⟨f_is_whole, f_is_among, f_check_row, f_check_floor, f_Floor_init, f_Floor_has, f_Floor_sign, f_Floor_column, f_Floor_row, f_Floor_beside, f_Carrier_init, f_Carrier_may_stand, f_Carrier_gain, f_Carrier_fare, f_Carrier_cost, f_Carrier_steps, f_Carrier_stayed, f_Carrier_fare_if_standing, f_Crawler_may_stand, f_Crawler_gain, f_Crawler_fare, f_Runner_gain, f_Runner_fare, f_stands_at, f_walked, f_next_charge, f_Lcell_at, f_Lmixed, f_Lwhole, f_Llines, f_Lsign, f_Laround, f_Lstands, f_Lcost, f_Ldue, f_Lcells, f_Lis_bad_way, f_Ltold, f_Lcarrier, f_law, C_Floor, C_Cart, C_Crawler, C_Runner, C_Carrier, C_BadWay, C_FloorError, C_BadFloor, C_BadKind, C_BadCell, C_BadCharge, C_BadStops, C_Empty, C_NoCarrier, C_NoTask, C_Meets, C_Taken, C_Busy, C_NoReserve, C_Closed, C_Jammed, K_COMMON_SIGNS⟩) F_Carrier_steps T B_Floor_beside G_Floor_beside B_Carrier_fare_if_standing G_Carrier_fare_if_standing
    have G_Carrier_stayed : FnOk l.prog w K mg base CX0 2 f_Carrier_stayed _ ["self", "sign", "charge"] (spStayed (⟨f_is_whole, f_is_among, f_check_row, f_check_floor, f_Floor_init, f_Floor_has, f_Floor_sign, f_Floor_column, f_Floor_row, f_Floor_beside, f_Carrier_init, f_Carrier_may_stand, f_Carrier_gain, f_Carrier_fare, f_Carrier_cost, f_Carrier_steps, f_Carrier_stayed, f_Carrier_fare_if_standing, f_Crawler_may_stand, f_Crawler_gain, f_Crawler_fare, f_Runner_gain, f_Runner_fare, f_stands_at, f_walked, f_next_charge, f_Lcell_at, f_Lmixed, f_Lwhole, f_Llines, f_Lsign, f_Laround, f_Lstands, f_Lcost, f_Ldue, f_Lcells, f_Lis_bad_way, f_Ltold, f_Lcarrier, f_law, C_Floor, C_Cart, C_Crawler, C_Runner, C_Carrier, C_BadWay, C_FloorError, C_BadFloor, C_BadKind, C_BadCell, C_BadCharge, C_BadStops, C_Empty, C_NoCarrier, C_NoTask, C_Meets, C_Taken, C_Busy, C_NoReserve, C_Closed, C_Jammed, K_COMMON_SIGNS⟩ : Ad)) := ok_Carrier_stayed (ad := ⟨f_is_whole, f_is_among, f_check_row, f_check_floor, f_Floor_init, f_Floor_has, f_Floor_sign, f_Floor_column, f_Floor_row, f_Floor_beside, f_Carrier_init, f_Carrier_may_stand, f_Carrier_gain, f_Carrier_fare, f_Carrier_cost, f_Carrier_steps, f_Carrier_stayed, f_Carrier_fare_if_standing, f_Crawler_may_stand, f_Crawler_gain, f_Crawler_fare, f_Runner_gain, f_Runner_fare, f_stands_at, f_walked, f_next_charge, f_Lcell_at, f_Lmixed, f_Lwhole, f_Llines, f_Lsign, f_Laround, f_Lstands, f_Lcost, f_Ldue, f_Lcells, f_Lis_bad_way, f_Ltold, f_Lcarrier, f_law, C_Floor, C_Cart, C_Crawler, C_Runner, C_Carrier, C_BadWay, C_FloorError, C_BadFloor, C_BadKind, C_BadCell, C_BadCharge, C_BadStops, C_Empty, C_NoCarrier, C_NoTask, C_Meets, C_Taken, C_Busy, C_NoReserve, C_Closed, C_Jammed, K_COMMON_SIGNS⟩) F_Carrier_stayed T B_Carrier_gain G_Carrier_gain B_Crawler_gain G_Crawler_gain B_Runner_gain G_Runner_gain
    have G_stands_at : FnOk l.prog w K mg base CX0 4 f_stands_at _ ["floor", "carrier", "cell"] (spStAt (⟨f_is_whole, f_is_among, f_check_row, f_check_floor, f_Floor_init, f_Floor_has, f_Floor_sign, f_Floor_column, f_Floor_row, f_Floor_beside, f_Carrier_init, f_Carrier_may_stand, f_Carrier_gain, f_Carrier_fare, f_Carrier_cost, f_Carrier_steps, f_Carrier_stayed, f_Carrier_fare_if_standing, f_Crawler_may_stand, f_Crawler_gain, f_Crawler_fare, f_Runner_gain, f_Runner_fare, f_stands_at, f_walked, f_next_charge, f_Lcell_at, f_Lmixed, f_Lwhole, f_Llines, f_Lsign, f_Laround, f_Lstands, f_Lcost, f_Ldue, f_Lcells, f_Lis_bad_way, f_Ltold, f_Lcarrier, f_law, C_Floor, C_Cart, C_Crawler, C_Runner, C_Carrier, C_BadWay, C_FloorError, C_BadFloor, C_BadKind, C_BadCell, C_BadCharge, C_BadStops, C_Empty, C_NoCarrier, C_NoTask, C_Meets, C_Taken, C_Busy, C_NoReserve, C_Closed, C_Jammed, K_COMMON_SIGNS⟩ : Ad)) := ok_stands_at (ad := ⟨f_is_whole, f_is_among, f_check_row, f_check_floor, f_Floor_init, f_Floor_has, f_Floor_sign, f_Floor_column, f_Floor_row, f_Floor_beside, f_Carrier_init, f_Carrier_may_stand, f_Carrier_gain, f_Carrier_fare, f_Carrier_cost, f_Carrier_steps, f_Carrier_stayed, f_Carrier_fare_if_standing, f_Crawler_may_stand, f_Crawler_gain, f_Crawler_fare, f_Runner_gain, f_Runner_fare, f_stands_at, f_walked, f_next_charge, f_Lcell_at, f_Lmixed, f_Lwhole, f_Llines, f_Lsign, f_Laround, f_Lstands, f_Lcost, f_Ldue, f_Lcells, f_Lis_bad_way, f_Ltold, f_Lcarrier, f_law, C_Floor, C_Cart, C_Crawler, C_Runner, C_Carrier, C_BadWay, C_FloorError, C_BadFloor, C_BadKind, C_BadCell, C_BadCharge, C_BadStops, C_Empty, C_NoCarrier, C_NoTask, C_Meets, C_Taken, C_Busy, C_NoReserve, C_Closed, C_Jammed, K_COMMON_SIGNS⟩) F_stands_at T B_Floor_has G_Floor_has B_Floor_sign G_Floor_sign B_Carrier_may_stand G_Carrier_may_stand B_Crawler_may_stand G_Crawler_may_stand
    have G_next_charge : FnOk l.prog w K mg base (CXE l.prog w) 7 f_next_charge _ ["floor", "carrier", "cell", "other", "charge"] (spNext (⟨f_is_whole, f_is_among, f_check_row, f_check_floor, f_Floor_init, f_Floor_has, f_Floor_sign, f_Floor_column, f_Floor_row, f_Floor_beside, f_Carrier_init, f_Carrier_may_stand, f_Carrier_gain, f_Carrier_fare, f_Carrier_cost, f_Carrier_steps, f_Carrier_stayed, f_Carrier_fare_if_standing, f_Crawler_may_stand, f_Crawler_gain, f_Crawler_fare, f_Runner_gain, f_Runner_fare, f_stands_at, f_walked, f_next_charge, f_Lcell_at, f_Lmixed, f_Lwhole, f_Llines, f_Lsign, f_Laround, f_Lstands, f_Lcost, f_Ldue, f_Lcells, f_Lis_bad_way, f_Ltold, f_Lcarrier, f_law, C_Floor, C_Cart, C_Crawler, C_Runner, C_Carrier, C_BadWay, C_FloorError, C_BadFloor, C_BadKind, C_BadCell, C_BadCharge, C_BadStops, C_Empty, C_NoCarrier, C_NoTask, C_Meets, C_Taken, C_Busy, C_NoReserve, C_Closed, C_Jammed, K_COMMON_SIGNS⟩ : Ad)) := ok_next_charge (ad := ⟨f_is_whole, f_is_among, f_check_row, f_check_floor, f_Floor_init, f_Floor_has, f_Floor_sign, f_Floor_column, f_Floor_row, f_Floor_beside, f_Carrier_init, f_Carrier_may_stand, f_Carrier_gain, f_Carrier_fare, f_Carrier_cost, f_Carrier_steps, f_Carrier_stayed, f_Carrier_fare_if_standing, f_Crawler_may_stand, f_Crawler_gain, f_Crawler_fare, f_Runner_gain, f_Runner_fare, f_stands_at, f_walked, f_next_charge, f_Lcell_at, f_Lmixed, f_Lwhole, f_Llines, f_Lsign, f_Laround, f_Lstands, f_Lcost, f_Ldue, f_Lcells, f_Lis_bad_way, f_Ltold, f_Lcarrier, f_law, C_Floor, C_Cart, C_Crawler, C_Runner, C_Carrier, C_BadWay, C_FloorError, C_BadFloor, C_BadKind, C_BadCell, C_BadCharge, C_BadStops, C_Empty, C_NoCarrier, C_NoTask, C_Meets, C_Taken, C_Busy, C_NoReserve, C_Closed, C_Jammed, K_COMMON_SIGNS⟩) F_next_charge T B_Carrier_stayed G_Carrier_stayed B_Floor_sign G_Floor_sign B_Carrier_steps G_Carrier_steps
    have G_walked : FnOk l.prog w K mg base (CXE l.prog w) 8 f_walked _ ["floor", "carrier", "way", "charge"] (spWalked (⟨f_is_whole, f_is_among, f_check_row, f_check_floor, f_Floor_init, f_Floor_has, f_Floor_sign, f_Floor_column, f_Floor_row, f_Floor_beside, f_Carrier_init, f_Carrier_may_stand, f_Carrier_gain, f_Carrier_fare, f_Carrier_cost, f_Carrier_steps, f_Carrier_stayed, f_Carrier_fare_if_standing, f_Crawler_may_stand, f_Crawler_gain, f_Crawler_fare, f_Runner_gain, f_Runner_fare, f_stands_at, f_walked, f_next_charge, f_Lcell_at, f_Lmixed, f_Lwhole, f_Llines, f_Lsign, f_Laround, f_Lstands, f_Lcost, f_Ldue, f_Lcells, f_Lis_bad_way, f_Ltold, f_Lcarrier, f_law, C_Floor, C_Cart, C_Crawler, C_Runner, C_Carrier, C_BadWay, C_FloorError, C_BadFloor, C_BadKind, C_BadCell, C_BadCharge, C_BadStops, C_Empty, C_NoCarrier, C_NoTask, C_Meets, C_Taken, C_Busy, C_NoReserve, C_Closed, C_Jammed, K_COMMON_SIGNS⟩ : Ad)) := ok_walked (ad := ⟨f_is_whole, f_is_among, f_check_row, f_check_floor, f_Floor_init, f_Floor_has, f_Floor_sign, f_Floor_column, f_Floor_row, f_Floor_beside, f_Carrier_init, f_Carrier_may_stand, f_Carrier_gain, f_Carrier_fare, f_Carrier_cost, f_Carrier_steps, f_Carrier_stayed, f_Carrier_fare_if_standing, f_Crawler_may_stand, f_Crawler_gain, f_Crawler_fare, f_Runner_gain, f_Runner_fare, f_stands_at, f_walked, f_next_charge, f_Lcell_at, f_Lmixed, f_Lwhole, f_Llines, f_Lsign, f_Laround, f_Lstands, f_Lcost, f_Ldue, f_Lcells, f_Lis_bad_way, f_Ltold, f_Lcarrier, f_law, C_Floor, C_Cart, C_Crawler, C_Runner, C_Carrier, C_BadWay, C_FloorError, C_BadFloor, C_BadKind, C_BadCell, C_BadCharge, C_BadStops, C_Empty, C_NoCarrier, C_NoTask, C_Meets, C_Taken, C_Busy, C_NoReserve, C_Closed, C_Jammed, K_COMMON_SIGNS⟩) F_walked T B_stands_at G_stands_at B_next_charge G_next_charge
    have G_Lcell_at : FnOk l.prog w K mg base CX0 1 f_Lcell_at _ ["_law_script", "_law_k"] (spCell K) := ok_Lcell_at (ad := ⟨f_is_whole, f_is_among, f_check_row, f_check_floor, f_Floor_init, f_Floor_has, f_Floor_sign, f_Floor_column, f_Floor_row, f_Floor_beside, f_Carrier_init, f_Carrier_may_stand, f_Carrier_gain, f_Carrier_fare, f_Carrier_cost, f_Carrier_steps, f_Carrier_stayed, f_Carrier_fare_if_standing, f_Crawler_may_stand, f_Crawler_gain, f_Crawler_fare, f_Runner_gain, f_Runner_fare, f_stands_at, f_walked, f_next_charge, f_Lcell_at, f_Lmixed, f_Lwhole, f_Llines, f_Lsign, f_Laround, f_Lstands, f_Lcost, f_Ldue, f_Lcells, f_Lis_bad_way, f_Ltold, f_Lcarrier, f_law, C_Floor, C_Cart, C_Crawler, C_Runner, C_Carrier, C_BadWay, C_FloorError, C_BadFloor, C_BadKind, C_BadCell, C_BadCharge, C_BadStops, C_Empty, C_NoCarrier, C_NoTask, C_Meets, C_Taken, C_Busy, C_NoReserve, C_Closed, C_Jammed, K_COMMON_SIGNS⟩) F_Lcell_at T
    have G_Lmixed : FnOk l.prog w K mg base CX0 1 f_Lmixed _ ["_law_cell", "_law_k"] (spMixedW) := ok_Lmixed (ad := ⟨f_is_whole, f_is_among, f_check_row, f_check_floor, f_Floor_init, f_Floor_has, f_Floor_sign, f_Floor_column, f_Floor_row, f_Floor_beside, f_Carrier_init, f_Carrier_may_stand, f_Carrier_gain, f_Carrier_fare, f_Carrier_cost, f_Carrier_steps, f_Carrier_stayed, f_Carrier_fare_if_standing, f_Crawler_may_stand, f_Crawler_gain, f_Crawler_fare, f_Runner_gain, f_Runner_fare, f_stands_at, f_walked, f_next_charge, f_Lcell_at, f_Lmixed, f_Lwhole, f_Llines, f_Lsign, f_Laround, f_Lstands, f_Lcost, f_Ldue, f_Lcells, f_Lis_bad_way, f_Ltold, f_Lcarrier, f_law, C_Floor, C_Cart, C_Crawler, C_Runner, C_Carrier, C_BadWay, C_FloorError, C_BadFloor, C_BadKind, C_BadCell, C_BadCharge, C_BadStops, C_Empty, C_NoCarrier, C_NoTask, C_Meets, C_Taken, C_Busy, C_NoReserve, C_Closed, C_Jammed, K_COMMON_SIGNS⟩) F_Lmixed T
    have G_Lwhole : FnOk l.prog w K mg base CX0 1 f_Lwhole _ ["_law_found"] (spWhole K) := ok_Lwhole (ad := ⟨f_is_whole, f_is_among, f_check_row, f_check_floor, f_Floor_init, f_Floor_has, f_Floor_sign, f_Floor_column, f_Floor_row, f_Floor_beside, f_Carrier_init, f_Carrier_may_stand, f_Carrier_gain, f_Carrier_fare, f_Carrier_cost, f_Carrier_steps, f_Carrier_stayed, f_Carrier_fare_if_standing, f_Crawler_may_stand, f_Crawler_gain, f_Crawler_fare, f_Runner_gain, f_Runner_fare, f_stands_at, f_walked, f_next_charge, f_Lcell_at, f_Lmixed, f_Lwhole, f_Llines, f_Lsign, f_Laround, f_Lstands, f_Lcost, f_Ldue, f_Lcells, f_Lis_bad_way, f_Ltold, f_Lcarrier, f_law, C_Floor, C_Cart, C_Crawler, C_Runner, C_Carrier, C_BadWay, C_FloorError, C_BadFloor, C_BadKind, C_BadCell, C_BadCharge, C_BadStops, C_Empty, C_NoCarrier, C_NoTask, C_Meets, C_Taken, C_Busy, C_NoReserve, C_Closed, C_Jammed, K_COMMON_SIGNS⟩) F_Lwhole T
    have G_Llines : FnOk l.prog w K mg base CX0 2 f_Llines _ ["_law_script"] (spLinesW K) := ok_Llines (ad := ⟨f_is_whole, f_is_among, f_check_row, f_check_floor, f_Floor_init, f_Floor_has, f_Floor_sign, f_Floor_column, f_Floor_row, f_Floor_beside, f_Carrier_init, f_Carrier_may_stand, f_Carrier_gain, f_Carrier_fare, f_Carrier_cost, f_Carrier_steps, f_Carrier_stayed, f_Carrier_fare_if_standing, f_Crawler_may_stand, f_Crawler_gain, f_Crawler_fare, f_Runner_gain, f_Runner_fare, f_stands_at, f_walked, f_next_charge, f_Lcell_at, f_Lmixed, f_Lwhole, f_Llines, f_Lsign, f_Laround, f_Lstands, f_Lcost, f_Ldue, f_Lcells, f_Lis_bad_way, f_Ltold, f_Lcarrier, f_law, C_Floor, C_Cart, C_Crawler, C_Runner, C_Carrier, C_BadWay, C_FloorError, C_BadFloor, C_BadKind, C_BadCell, C_BadCharge, C_BadStops, C_Empty, C_NoCarrier, C_NoTask, C_Meets, C_Taken, C_Busy, C_NoReserve, C_Closed, C_Jammed, K_COMMON_SIGNS⟩) F_Llines T B_Lcell_at G_Lcell_at B_Lmixed G_Lmixed
    have G_Lsign : FnOk l.prog w K mg base CX0 1 f_Lsign _ ["_law_rows", "_law_place"] (spSgI) := ok_Lsign (ad := ⟨f_is_whole, f_is_among, f_check_row, f_check_floor, f_Floor_init, f_Floor_has, f_Floor_sign, f_Floor_column, f_Floor_row, f_Floor_beside, f_Carrier_init, f_Carrier_may_stand, f_Carrier_gain, f_Carrier_fare, f_Carrier_cost, f_Carrier_steps, f_Carrier_stayed, f_Carrier_fare_if_standing, f_Crawler_may_stand, f_Crawler_gain, f_Crawler_fare, f_Runner_gain, f_Runner_fare, f_stands_at, f_walked, f_next_charge, f_Lcell_at, f_Lmixed, f_Lwhole, f_Llines, f_Lsign, f_Laround, f_Lstands, f_Lcost, f_Ldue, f_Lcells, f_Lis_bad_way, f_Ltold, f_Lcarrier, f_law, C_Floor, C_Cart, C_Crawler, C_Runner, C_Carrier, C_BadWay, C_FloorError, C_BadFloor, C_BadKind, C_BadCell, C_BadCharge, C_BadStops, C_Empty, C_NoCarrier, C_NoTask, C_Meets, C_Taken, C_Busy, C_NoReserve, C_Closed, C_Jammed, K_COMMON_SIGNS⟩) F_Lsign T
    have G_Laround : FnOk l.prog w K mg base CX0 1 f_Laround _ ["_law_rows", "_law_place"] (spAround) := ok_Laround (ad := ⟨f_is_whole, f_is_among, f_check_row, f_check_floor, f_Floor_init, f_Floor_has, f_Floor_sign, f_Floor_column, f_Floor_row, f_Floor_beside, f_Carrier_init, f_Carrier_may_stand, f_Carrier_gain, f_Carrier_fare, f_Carrier_cost, f_Carrier_steps, f_Carrier_stayed, f_Carrier_fare_if_standing, f_Crawler_may_stand, f_Crawler_gain, f_Crawler_fare, f_Runner_gain, f_Runner_fare, f_stands_at, f_walked, f_next_charge, f_Lcell_at, f_Lmixed, f_Lwhole, f_Llines, f_Lsign, f_Laround, f_Lstands, f_Lcost, f_Ldue, f_Lcells, f_Lis_bad_way, f_Ltold, f_Lcarrier, f_law, C_Floor, C_Cart, C_Crawler, C_Runner, C_Carrier, C_BadWay, C_FloorError, C_BadFloor, C_BadKind, C_BadCell, C_BadCharge, C_BadStops, C_Empty, C_NoCarrier, C_NoTask, C_Meets, C_Taken, C_Busy, C_NoReserve, C_Closed, C_Jammed, K_COMMON_SIGNS⟩) F_Laround T
    have G_Lstands : FnOk l.prog w K mg base CX0 1 f_Lstands _ ["_law_kind", "_law_sign_here"] (spStands) := ok_Lstands (ad := ⟨f_is_whole, f_is_among, f_check_row, f_check_floor, f_Floor_init, f_Floor_has, f_Floor_sign, f_Floor_column, f_Floor_row, f_Floor_beside, f_Carrier_init, f_Carrier_may_stand, f_Carrier_gain, f_Carrier_fare, f_Carrier_cost, f_Carrier_steps, f_Carrier_stayed, f_Carrier_fare_if_standing, f_Crawler_may_stand, f_Crawler_gain, f_Crawler_fare, f_Runner_gain, f_Runner_fare, f_stands_at, f_walked, f_next_charge, f_Lcell_at, f_Lmixed, f_Lwhole, f_Llines, f_Lsign, f_Laround, f_Lstands, f_Lcost, f_Ldue, f_Lcells, f_Lis_bad_way, f_Ltold, f_Lcarrier, f_law, C_Floor, C_Cart, C_Crawler, C_Runner, C_Carrier, C_BadWay, C_FloorError, C_BadFloor, C_BadKind, C_BadCell, C_BadCharge, C_BadStops, C_Empty, C_NoCarrier, C_NoTask, C_Meets, C_Taken, C_Busy, C_NoReserve, C_Closed, C_Jammed, K_COMMON_SIGNS⟩) F_Lstands T
    have G_Lcost : FnOk l.prog w K mg base CX0 2 f_Lcost _ ["_law_rows", "_law_kind", "_law_place", "_law_other"] (spCostW) := ok_Lcost (ad := ⟨f_is_whole, f_is_among, f_check_row, f_check_floor, f_Floor_init, f_Floor_has, f_Floor_sign, f_Floor_column, f_Floor_row, f_Floor_beside, f_Carrier_init, f_Carrier_may_stand, f_Carrier_gain, f_Carrier_fare, f_Carrier_cost, f_Carrier_steps, f_Carrier_stayed, f_Carrier_fare_if_standing, f_Crawler_may_stand, f_Crawler_gain, f_Crawler_fare, f_Runner_gain, f_Runner_fare, f_stands_at, f_walked, f_next_charge, f_Lcell_at, f_Lmixed, f_Lwhole, f_Llines, f_Lsign, f_Laround, f_Lstands, f_Lcost, f_Ldue, f_Lcells, f_Lis_bad_way, f_Ltold, f_Lcarrier, f_law, C_Floor, C_Cart, C_Crawler, C_Runner, C_Carrier, C_BadWay, C_FloorError, C_BadFloor, C_BadKind, C_BadCell, C_BadCharge, C_BadStops, C_Empty, C_NoCarrier, C_NoTask, C_Meets, C_Taken, C_Busy, C_NoReserve, C_Closed, C_Jammed, K_COMMON_SIGNS⟩) F_Lcost T B_Laround G_Laround B_Lstands G_Lstands B_Lsign G_Lsign
    have G_Ldue : FnOk l.prog w K mg base CX0 3 f_Ldue _ ["_law_rows", "_law_kind", "_law_full", "_law_cells_here", "_law_charge"] (spDue) := ok_Ldue (ad := ⟨f_is_whole, f_is_among, f_check_row, f_check_floor, f_Floor_init, f_Floor_has, f_Floor_sign, f_Floor_column, f_Floor_row, f_Floor_beside, f_Carrier_init, f_Carrier_may_stand, f_Carrier_gain, f_Carrier_fare, f_Carrier_cost, f_Carrier_steps, f_Carrier_stayed, f_Carrier_fare_if_standing, f_Crawler_may_stand, f_Crawler_gain, f_Crawler_fare, f_Runner_gain, f_Runner_fare, f_stands_at, f_walked, f_next_charge, f_Lcell_at, f_Lmixed, f_Lwhole, f_Llines, f_Lsign, f_Laround, f_Lstands, f_Lcost, f_Ldue, f_Lcells, f_Lis_bad_way, f_Ltold, f_Lcarrier, f_law, C_Floor, C_Cart, C_Crawler, C_Runner, C_Carrier, C_BadWay, C_FloorError, C_BadFloor, C_BadKind, C_BadCell, C_BadCharge, C_BadStops, C_Empty, C_NoCarrier, C_NoTask, C_Meets, C_Taken, C_Busy, C_NoReserve, C_Closed, C_Jammed, K_COMMON_SIGNS⟩) F_Ldue T B_Lstands G_Lstands B_Lsign G_Lsign B_Lcost G_Lcost
    have G_Lcells : FnOk l.prog w K mg base CX0 3 f_Lcells _ ["_law_script", "_law_rows", "_law_kind"] (spCellsW K) := ok_Lcells (ad := ⟨f_is_whole, f_is_among, f_check_row, f_check_floor, f_Floor_init, f_Floor_has, f_Floor_sign, f_Floor_column, f_Floor_row, f_Floor_beside, f_Carrier_init, f_Carrier_may_stand, f_Carrier_gain, f_Carrier_fare, f_Carrier_cost, f_Carrier_steps, f_Carrier_stayed, f_Carrier_fare_if_standing, f_Crawler_may_stand, f_Crawler_gain, f_Crawler_fare, f_Runner_gain, f_Runner_fare, f_stands_at, f_walked, f_next_charge, f_Lcell_at, f_Lmixed, f_Lwhole, f_Llines, f_Lsign, f_Laround, f_Lstands, f_Lcost, f_Ldue, f_Lcells, f_Lis_bad_way, f_Ltold, f_Lcarrier, f_law, C_Floor, C_Cart, C_Crawler, C_Runner, C_Carrier, C_BadWay, C_FloorError, C_BadFloor, C_BadKind, C_BadCell, C_BadCharge, C_BadStops, C_Empty, C_NoCarrier, C_NoTask, C_Meets, C_Taken, C_Busy, C_NoReserve, C_Closed, C_Jammed, K_COMMON_SIGNS⟩) F_Lcells T B_Lstands G_Lstands B_Lsign G_Lsign B_Lmixed G_Lmixed B_Lcell_at G_Lcell_at B_Laround G_Laround B_Lcost G_Lcost
    have GM_Lis_bad_way : ∀ {ea C : Addr} {dx : Option Addr} {ob : Obj}, MkO C dx ob → FnOkM l.prog w K mg base ea ob 1 f_Lis_bad_way _ ["_law_error"] (spBadWay (⟨f_is_whole, f_is_among, f_check_row, f_check_floor, f_Floor_init, f_Floor_has, f_Floor_sign, f_Floor_column, f_Floor_row, f_Floor_beside, f_Carrier_init, f_Carrier_may_stand, f_Carrier_gain, f_Carrier_fare, f_Carrier_cost, f_Carrier_steps, f_Carrier_stayed, f_Carrier_fare_if_standing, f_Crawler_may_stand, f_Crawler_gain, f_Crawler_fare, f_Runner_gain, f_Runner_fare, f_stands_at, f_walked, f_next_charge, f_Lcell_at, f_Lmixed, f_Lwhole, f_Llines, f_Lsign, f_Laround, f_Lstands, f_Lcost, f_Ldue, f_Lcells, f_Lis_bad_way, f_Ltold, f_Lcarrier, f_law, C_Floor, C_Cart, C_Crawler, C_Runner, C_Carrier, C_BadWay, C_FloorError, C_BadFloor, C_BadKind, C_BadCell, C_BadCharge, C_BadStops, C_Empty, C_NoCarrier, C_NoTask, C_Meets, C_Taken, C_Busy, C_NoReserve, C_Closed, C_Jammed, K_COMMON_SIGNS⟩ : Ad) K ea C dx) := fun mk => okM_Lis_bad_way (ad := ⟨f_is_whole, f_is_among, f_check_row, f_check_floor, f_Floor_init, f_Floor_has, f_Floor_sign, f_Floor_column, f_Floor_row, f_Floor_beside, f_Carrier_init, f_Carrier_may_stand, f_Carrier_gain, f_Carrier_fare, f_Carrier_cost, f_Carrier_steps, f_Carrier_stayed, f_Carrier_fare_if_standing, f_Crawler_may_stand, f_Crawler_gain, f_Crawler_fare, f_Runner_gain, f_Runner_fare, f_stands_at, f_walked, f_next_charge, f_Lcell_at, f_Lmixed, f_Lwhole, f_Llines, f_Lsign, f_Laround, f_Lstands, f_Lcost, f_Ldue, f_Lcells, f_Lis_bad_way, f_Ltold, f_Lcarrier, f_law, C_Floor, C_Cart, C_Crawler, C_Runner, C_Carrier, C_BadWay, C_FloorError, C_BadFloor, C_BadKind, C_BadCell, C_BadCharge, C_BadStops, C_Empty, C_NoCarrier, C_NoTask, C_Meets, C_Taken, C_Busy, C_NoReserve, C_Closed, C_Jammed, K_COMMON_SIGNS⟩) F_Lis_bad_way T mk
    have G_Ltold : FnOk l.prog w K mg base CX0 9 f_Ltold _ ["_law_floor", "_law_carrier_here", "_law_way", "_law_charge"] (spTold (⟨f_is_whole, f_is_among, f_check_row, f_check_floor, f_Floor_init, f_Floor_has, f_Floor_sign, f_Floor_column, f_Floor_row, f_Floor_beside, f_Carrier_init, f_Carrier_may_stand, f_Carrier_gain, f_Carrier_fare, f_Carrier_cost, f_Carrier_steps, f_Carrier_stayed, f_Carrier_fare_if_standing, f_Crawler_may_stand, f_Crawler_gain, f_Crawler_fare, f_Runner_gain, f_Runner_fare, f_stands_at, f_walked, f_next_charge, f_Lcell_at, f_Lmixed, f_Lwhole, f_Llines, f_Lsign, f_Laround, f_Lstands, f_Lcost, f_Ldue, f_Lcells, f_Lis_bad_way, f_Ltold, f_Lcarrier, f_law, C_Floor, C_Cart, C_Crawler, C_Runner, C_Carrier, C_BadWay, C_FloorError, C_BadFloor, C_BadKind, C_BadCell, C_BadCharge, C_BadStops, C_Empty, C_NoCarrier, C_NoTask, C_Meets, C_Taken, C_Busy, C_NoReserve, C_Closed, C_Jammed, K_COMMON_SIGNS⟩ : Ad)) := ok_Ltold (ad := ⟨f_is_whole, f_is_among, f_check_row, f_check_floor, f_Floor_init, f_Floor_has, f_Floor_sign, f_Floor_column, f_Floor_row, f_Floor_beside, f_Carrier_init, f_Carrier_may_stand, f_Carrier_gain, f_Carrier_fare, f_Carrier_cost, f_Carrier_steps, f_Carrier_stayed, f_Carrier_fare_if_standing, f_Crawler_may_stand, f_Crawler_gain, f_Crawler_fare, f_Runner_gain, f_Runner_fare, f_stands_at, f_walked, f_next_charge, f_Lcell_at, f_Lmixed, f_Lwhole, f_Llines, f_Lsign, f_Laround, f_Lstands, f_Lcost, f_Ldue, f_Lcells, f_Lis_bad_way, f_Ltold, f_Lcarrier, f_law, C_Floor, C_Cart, C_Crawler, C_Runner, C_Carrier, C_BadWay, C_FloorError, C_BadFloor, C_BadKind, C_BadCell, C_BadCharge, C_BadStops, C_Empty, C_NoCarrier, C_NoTask, C_Meets, C_Taken, C_Busy, C_NoReserve, C_Closed, C_Jammed, K_COMMON_SIGNS⟩) F_Ltold T B_walked G_walked B_Lis_bad_way GM_Lis_bad_way B_Lwhole G_Lwhole
    have G_Lcarrier : FnOk l.prog w K mg base CX0 3 f_Lcarrier _ ["_law_which", "_law_full"] (spCarrier (⟨f_is_whole, f_is_among, f_check_row, f_check_floor, f_Floor_init, f_Floor_has, f_Floor_sign, f_Floor_column, f_Floor_row, f_Floor_beside, f_Carrier_init, f_Carrier_may_stand, f_Carrier_gain, f_Carrier_fare, f_Carrier_cost, f_Carrier_steps, f_Carrier_stayed, f_Carrier_fare_if_standing, f_Crawler_may_stand, f_Crawler_gain, f_Crawler_fare, f_Runner_gain, f_Runner_fare, f_stands_at, f_walked, f_next_charge, f_Lcell_at, f_Lmixed, f_Lwhole, f_Llines, f_Lsign, f_Laround, f_Lstands, f_Lcost, f_Ldue, f_Lcells, f_Lis_bad_way, f_Ltold, f_Lcarrier, f_law, C_Floor, C_Cart, C_Crawler, C_Runner, C_Carrier, C_BadWay, C_FloorError, C_BadFloor, C_BadKind, C_BadCell, C_BadCharge, C_BadStops, C_Empty, C_NoCarrier, C_NoTask, C_Meets, C_Taken, C_Busy, C_NoReserve, C_Closed, C_Jammed, K_COMMON_SIGNS⟩ : Ad)) := ok_Lcarrier (ad := ⟨f_is_whole, f_is_among, f_check_row, f_check_floor, f_Floor_init, f_Floor_has, f_Floor_sign, f_Floor_column, f_Floor_row, f_Floor_beside, f_Carrier_init, f_Carrier_may_stand, f_Carrier_gain, f_Carrier_fare, f_Carrier_cost, f_Carrier_steps, f_Carrier_stayed, f_Carrier_fare_if_standing, f_Crawler_may_stand, f_Crawler_gain, f_Crawler_fare, f_Runner_gain, f_Runner_fare, f_stands_at, f_walked, f_next_charge, f_Lcell_at, f_Lmixed, f_Lwhole, f_Llines, f_Lsign, f_Laround, f_Lstands, f_Lcost, f_Ldue, f_Lcells, f_Lis_bad_way, f_Ltold, f_Lcarrier, f_law, C_Floor, C_Cart, C_Crawler, C_Runner, C_Carrier, C_BadWay, C_FloorError, C_BadFloor, C_BadKind, C_BadCell, C_BadCharge, C_BadStops, C_Empty, C_NoCarrier, C_NoTask, C_Meets, C_Taken, C_Busy, C_NoReserve, C_Closed, C_Jammed, K_COMMON_SIGNS⟩) F_Lcarrier T B_Carrier_init G_Carrier_init
    exact ok_law F_law T B_Llines G_Llines B_Lcell_at G_Lcell_at B_Lcarrier G_Lcarrier B_Floor_init G_Floor_init B_Lcells G_Lcells B_Ldue G_Ldue B_Ltold G_Ltold
  case bd => exact fun s v => .of_eq rfl
theorem walk {l : PySem.W.OpenLaw} {q : Program} {loose : List Str} {XP : (Str → Option Value) → Heap → Prop} {YP : World → Heap → Prop} {d : DefRec} {K : Params → PySem.W.Frag} (hn : l.most = some 63) (hdf : d.params.defaults = [])
    (hY : ∀ (w : World) (h : Heap), YP w h → (K w.params).In h)
    (F : ∀ (w : World) (mg : Str → Option Value) (fa : Addr) (h : Heap), (K w.params).In h → h.Ns mainGlobals mg → mg d.name = some (.ref fa) →
      ∃ fd : FuncData, (∀ (s : Shared) (u : Value), BindsTo s fd ⟨[u], []⟩ [("_law_script", u)]) ∧ ∀ base : Heap, (K w.params).In base → base.Ns mainGlobals mg → FnOk l.prog w (K w.params) mg base CX0 12 fa fd ["_law_script"] (spLaw (K w.params))) :
    PySem.W.WalkO q loose XP YP l.row.toRowW d [] (fun f vs => PySem.call f vs) :=
  L2.walk_ofB (n := 63) (k := 12) (x := "_law_script") (CX := fun _ => CX0) (sp := fun w => spLaw (K w.params)) hn (by decide) hdf ⟨rfl, by decide, by decide⟩ hY F (fun _ _ a ns hl hb _ hS => ⟨a, ns, rfl, hS, hl, hb, fun _ => rfl⟩) fun _ _ _ _ _ z => z
end Pf
open PySem PySem.W PyProof.Rows
set_option maxRecDepth 100000 in
set_option maxHeartbeats 0 in
theorem PySem.Challenge.cw_floorways_k12_ways_walked_holds : PySem.Challenge.rw_floorways_k12_ways_walked.Holds := by
  w_on; o_law; k_head; (case hw => w_witness2)
  k_fill
  refine Pf.walk (l := PySem.Challenge.rw_floorways_k12_ways_walked) rfl rfl (fun w h Y => PySem.W.kIn_of Y) ?F
  case F =>
    intro w mg fa h KX G hmg
    refine' Pf.all_mk KX G hmg ?aC_Floor ?pg_Floor ?hd_Floor ?po_Floor ?sa_Floor ?kc_Floor ?mk_Floor ?n_Floor_wide ?n_Floor_high ?n_Floor_lines ?n_Floor_signs ?aC_Cart ?pg_Cart ?hd_Cart ?po_Cart ?sa_Cart ?kc_Cart ?mk_Cart ?n_Cart_full ?aC_Crawler ?pg_Crawler ?hd_Crawler ?po_Crawler ?sa_Crawler ?kc_Crawler ?mk_Crawler ?n_Crawler_full ?aC_Runner ?pg_Runner ?hd_Runner ?po_Runner ?sa_Runner ?kc_Runner ?mk_Runner ?n_Runner_full ?aC_Carrier ?pg_Carrier ?hd_Carrier ?po_Carrier ?sa_Carrier ?kc_Carrier ?mk_Carrier ?n_Carrier_full ?aC_BadWay ?er_BadWay ?aC_FloorError ?aC_BadFloor ?aC_BadKind ?aC_BadCell ?aC_BadCharge ?aC_BadStops ?aC_Empty ?aC_NoCarrier ?aC_NoTask ?aC_Meets ?aC_Taken ?aC_Busy ?aC_NoReserve ?aC_Closed ?aC_Jammed ?xm_BadWay_FloorError ?x_COMMON_SIGNS ?lk_COMMON_SIGNS ?cgx ?ctx ?ca_Cart ?cm_Cart ?is_Cart_Carrier ?is_Cart_Cart ?is_Cart_Crawler ?is_Cart_Runner ?ca_Crawler ?cm_Crawler ?is_Crawler_Carrier ?is_Crawler_Cart ?is_Crawler_Crawler ?is_Crawler_Runner ?ca_Runner ?cm_Runner ?is_Runner_Carrier ?is_Runner_Cart ?is_Runner_Crawler ?is_Runner_Runner ?ca_Carrier ?cm_Carrier ?is_Carrier_Carrier ?is_Carrier_Cart ?is_Carrier_Crawler ?is_Carrier_Runner ?is_BadWay_BadFloor ?is_BadWay_BadKind ?is_BadWay_BadCell ?is_BadWay_BadCharge ?is_BadWay_BadStops ?is_BadWay_BadWay ?is_BadWay_Empty ?is_BadWay_NoCarrier ?is_BadWay_NoTask ?is_BadWay_Meets ?is_BadWay_Taken ?is_BadWay_Busy ?is_BadWay_NoReserve ?is_BadWay_Closed ?is_BadWay_Jammed ?is_BadWay_FloorError ?is_BadWay_ValueError ?ga_BadWay ?gn_BadWay ?bx_BadWay ?cl_BadWay ?ca_BadWay ?cm_BadWay ?a_is_whole ?l_is_whole ?c_is_whole ?k_is_whole ?a_is_among ?l_is_among ?c_is_among ?k_is_among ?a_check_row ?l_check_row ?c_check_row ?k_check_row ?a_check_floor ?l_check_floor ?c_check_floor ?k_check_floor ?a_Floor_init ?i_Floor_init ?l_Floor_init ?c_Floor_init ?k_Floor_init ?a_Floor_has ?i_Floor_has ?l_Floor_has ?c_Floor_has ?k_Floor_has ?a_Floor_sign ?i_Floor_sign ?l_Floor_sign ?c_Floor_sign ?k_Floor_sign ?a_Floor_column ?i_Floor_column ?l_Floor_column ?c_Floor_column ?k_Floor_column ?a_Floor_row ?i_Floor_row ?l_Floor_row ?c_Floor_row ?k_Floor_row ?a_Floor_beside ?i_Floor_beside ?l_Floor_beside ?c_Floor_beside ?k_Floor_beside ?a_Carrier_init ?i_Carrier_init ?l_Carrier_init ?c_Carrier_init ?k_Carrier_init ?a_Carrier_may_stand ?i_Carrier_may_stand ?l_Carrier_may_stand ?c_Carrier_may_stand ?k_Carrier_may_stand ?a_Carrier_gain ?i_Carrier_gain ?l_Carrier_gain ?c_Carrier_gain ?k_Carrier_gain ?a_Carrier_fare ?i_Carrier_fare ?l_Carrier_fare ?c_Carrier_fare ?k_Carrier_fare ?a_Carrier_cost ?i_Carrier_cost ?l_Carrier_cost ?c_Carrier_cost ?k_Carrier_cost ?a_Carrier_steps ?i_Carrier_steps ?l_Carrier_steps ?c_Carrier_steps ?k_Carrier_steps ?a_Carrier_stayed ?i_Carrier_stayed ?l_Carrier_stayed ?c_Carrier_stayed ?k_Carrier_stayed ?a_Carrier_fare_if_standing ?i_Carrier_fare_if_standing ?l_Carrier_fare_if_standing ?c_Carrier_fare_if_standing ?k_Carrier_fare_if_standing ?a_Crawler_may_stand ?i_Crawler_may_stand ?l_Crawler_may_stand ?c_Crawler_may_stand ?k_Crawler_may_stand ?a_Crawler_gain ?i_Crawler_gain ?l_Crawler_gain ?c_Crawler_gain ?k_Crawler_gain ?a_Crawler_fare ?i_Crawler_fare ?l_Crawler_fare ?c_Crawler_fare ?k_Crawler_fare ?a_Runner_gain ?i_Runner_gain ?l_Runner_gain ?c_Runner_gain ?k_Runner_gain ?a_Runner_fare ?i_Runner_fare ?l_Runner_fare ?c_Runner_fare ?k_Runner_fare ?a_stands_at ?l_stands_at ?c_stands_at ?k_stands_at ?a_walked ?l_walked ?c_walked ?k_walked ?a_next_charge ?l_next_charge ?c_next_charge ?k_next_charge ?a_Lcell_at ?l_Lcell_at ?c_Lcell_at ?k_Lcell_at ?a_Lmixed ?l_Lmixed ?c_Lmixed ?k_Lmixed ?a_Lwhole ?l_Lwhole ?c_Lwhole ?k_Lwhole ?a_Llines ?l_Llines ?c_Llines ?k_Llines ?a_Lsign ?l_Lsign ?c_Lsign ?k_Lsign ?a_Laround ?l_Laround ?c_Laround ?k_Laround ?a_Lstands ?l_Lstands ?c_Lstands ?k_Lstands ?a_Lcost ?l_Lcost ?c_Lcost ?k_Lcost ?a_Ldue ?l_Ldue ?c_Ldue ?k_Ldue ?a_Lcells ?l_Lcells ?c_Lcells ?k_Lcells ?a_Lis_bad_way ?l_Lis_bad_way ?c_Lis_bad_way ?k_Lis_bad_way ?a_Ltold ?l_Ltold ?c_Ltold ?k_Ltold ?a_Lcarrier ?l_Lcarrier ?c_Lcarrier ?k_Lcarrier ?a_law ?l_law ?c_law ?k_law ?as_Cart_may_stand ?as_Cart_gain ?as_Cart_fare ?as_Cart_cost ?as_Cart_steps ?as_Cart_stayed ?as_Cart_fare_if_standing ?as_Crawler_cost ?as_Crawler_steps ?as_Crawler_stayed ?as_Crawler_fare_if_standing ?as_Runner_may_stand ?as_Runner_cost ?as_Runner_steps ?as_Runner_stayed ?as_Runner_fare_if_standing ?as_Cart_init ?as_Crawler_init ?as_Runner_init ?z_len ?z_range ?z_isinstance ?z_all ?z_int ?z_bool ?z_str ?z_list ?z_tuple ?z_dict ?z_min ?z_max ?z_ValueError ?x_WALL ?x_CHARGER ?x_SIGNS ?x_MOST_ROWS ?x_MOST_SIGNS ?x_ROUGH ?x_LANE
    (case aC_Floor => k_is)
    (case pg_Floor => k_is)
    (case hd_Floor => k_is)
    (case po_Floor => k_is)
    (case sa_Floor => k_is)
    (case kc_Floor => k_is)
    (case mk_Floor => k_is)
    (case n_Floor_wide => k_is)
    (case n_Floor_high => k_is)
    (case n_Floor_lines => k_is)
    (case n_Floor_signs => k_is)
    (case aC_Cart => k_is)
    (case pg_Cart => k_is)
    (case hd_Cart => k_is)
    (case po_Cart => k_is)
    (case sa_Cart => k_is)
    (case kc_Cart => k_is)
    (case mk_Cart => k_is)
    (case n_Cart_full => k_is)
    (case aC_Crawler => k_is)
    (case pg_Crawler => k_is)
    (case hd_Crawler => k_is)
    (case po_Crawler => k_is)
    (case sa_Crawler => k_is)
    (case kc_Crawler => k_is)
    (case mk_Crawler => k_is)
    (case n_Crawler_full => k_is)
    (case aC_Runner => k_is)
    (case pg_Runner => k_is)
    (case hd_Runner => k_is)
    (case po_Runner => k_is)
    (case sa_Runner => k_is)
    (case kc_Runner => k_is)
    (case mk_Runner => k_is)
    (case n_Runner_full => k_is)
    (case aC_Carrier => k_is)
    (case pg_Carrier => k_is)
    (case hd_Carrier => k_is)
    (case po_Carrier => k_is)
    (case sa_Carrier => k_is)
    (case kc_Carrier => k_is)
    (case mk_Carrier => k_is)
    (case n_Carrier_full => k_is)
    (case aC_BadWay => k_is)
    (case er_BadWay => first | k_is | kit_is | kernel_rfl)
    (case aC_FloorError => k_is)
    (case aC_BadFloor => k_is)
    (case aC_BadKind => k_is)
    (case aC_BadCell => k_is)
    (case aC_BadCharge => k_is)
    (case aC_BadStops => k_is)
    (case aC_Empty => k_is)
    (case aC_NoCarrier => k_is)
    (case aC_NoTask => k_is)
    (case aC_Meets => k_is)
    (case aC_Taken => k_is)
    (case aC_Busy => k_is)
    (case aC_NoReserve => k_is)
    (case aC_Closed => k_is)
    (case aC_Jammed => k_is)
    (case xm_BadWay_FloorError => first | k_is | kit_is | kernel_rfl)
    (case x_COMMON_SIGNS => k_is)
    (case lk_COMMON_SIGNS => k_is)
    (case cgx => k_is)
    (case ctx => k_is)
    (case ca_Cart => k_is)
    (case cm_Cart => k_is)
    (case is_Cart_Carrier => first | k_is | kit_is | kernel_rfl)
    (case is_Cart_Cart => first | k_is | kit_is | kernel_rfl)
    (case is_Cart_Crawler => first | k_is | kit_is | kernel_rfl)
    (case is_Cart_Runner => first | k_is | kit_is | kernel_rfl)
    (case ca_Crawler => k_is)
    (case cm_Crawler => k_is)
    (case is_Crawler_Carrier => first | k_is | kit_is | kernel_rfl)
    (case is_Crawler_Cart => first | k_is | kit_is | kernel_rfl)
    (case is_Crawler_Crawler => first | k_is | kit_is | kernel_rfl)
    (case is_Crawler_Runner => first | k_is | kit_is | kernel_rfl)
    (case ca_Runner => k_is)
    (case cm_Runner => k_is)
    (case is_Runner_Carrier => first | k_is | kit_is | kernel_rfl)
    (case is_Runner_Cart => first | k_is | kit_is | kernel_rfl)
    (case is_Runner_Crawler => first | k_is | kit_is | kernel_rfl)
    (case is_Runner_Runner => first | k_is | kit_is | kernel_rfl)
    (case ca_Carrier => k_is)
    (case cm_Carrier => k_is)
    (case is_Carrier_Carrier => first | k_is | kit_is | kernel_rfl)
    (case is_Carrier_Cart => first | k_is | kit_is | kernel_rfl)
    (case is_Carrier_Crawler => first | k_is | kit_is | kernel_rfl)
    (case is_Carrier_Runner => first | k_is | kit_is | kernel_rfl)
    (case is_BadWay_BadFloor => first | k_is | kit_is | kernel_rfl)
    (case is_BadWay_BadKind => first | k_is | kit_is | kernel_rfl)
    (case is_BadWay_BadCell => first | k_is | kit_is | kernel_rfl)
    (case is_BadWay_BadCharge => first | k_is | kit_is | kernel_rfl)
    (case is_BadWay_BadStops => first | k_is | kit_is | kernel_rfl)
    (case is_BadWay_BadWay => first | k_is | kit_is | kernel_rfl)
    (case is_BadWay_Empty => first | k_is | kit_is | kernel_rfl)
    (case is_BadWay_NoCarrier => first | k_is | kit_is | kernel_rfl)
    (case is_BadWay_NoTask => first | k_is | kit_is | kernel_rfl)
    (case is_BadWay_Meets => first | k_is | kit_is | kernel_rfl)
    (case is_BadWay_Taken => first | k_is | kit_is | kernel_rfl)
    (case is_BadWay_Busy => first | k_is | kit_is | kernel_rfl)
    (case is_BadWay_NoReserve => first | k_is | kit_is | kernel_rfl)
    (case is_BadWay_Closed => first | k_is | kit_is | kernel_rfl)
    (case is_BadWay_Jammed => first | k_is | kit_is | kernel_rfl)
    (case is_BadWay_FloorError => first | k_is | kit_is | kernel_rfl)
    (case is_BadWay_ValueError => first | k_is | kit_is | kernel_rfl)
    (case ga_BadWay => k_is)
    (case gn_BadWay => k_is)
    (case bx_BadWay => k_is)
    (case cl_BadWay => first | k_is | kit_is | kernel_rfl)
    (case ca_BadWay => k_is)
    (case cm_BadWay => k_is)
    (case a_is_whole => k_is)
    (case l_is_whole => k_is)
    (case c_is_whole => k_is)
    (case k_is_whole => k_is)
    (case a_is_among => k_is)
    (case l_is_among => k_is)
    (case c_is_among => k_is)
    (case k_is_among => k_is)
    (case a_check_row => k_is)
    (case l_check_row => k_is)
    (case c_check_row => k_is)
    (case k_check_row => k_is)
    (case a_check_floor => k_is)
    (case l_check_floor => k_is)
    (case c_check_floor => k_is)
    (case k_check_floor => k_is)
    (case a_Floor_init => k_is)
    (case i_Floor_init => k_is)
    (case l_Floor_init => k_is)
    (case c_Floor_init => k_is)
    (case k_Floor_init => k_is)
    (case a_Floor_has => k_is)
    (case i_Floor_has => k_is)
    (case l_Floor_has => k_is)
    (case c_Floor_has => k_is)
    (case k_Floor_has => k_is)
    (case a_Floor_sign => k_is)
    (case i_Floor_sign => k_is)
    (case l_Floor_sign => k_is)
    (case c_Floor_sign => k_is)
    (case k_Floor_sign => k_is)
    (case a_Floor_column => k_is)
    (case i_Floor_column => k_is)
    (case l_Floor_column => k_is)
    (case c_Floor_column => k_is)
    (case k_Floor_column => k_is)
    (case a_Floor_row => k_is)
    (case i_Floor_row => k_is)
    (case l_Floor_row => k_is)
    (case c_Floor_row => k_is)
    (case k_Floor_row => k_is)
    (case a_Floor_beside => k_is)
    (case i_Floor_beside => k_is)
    (case l_Floor_beside => k_is)
    (case c_Floor_beside => k_is)
    (case k_Floor_beside => k_is)
    (case a_Carrier_init => k_is)
    (case i_Carrier_init => k_is)
    (case l_Carrier_init => k_is)
    (case c_Carrier_init => k_is)
    (case k_Carrier_init => k_is)
    (case a_Carrier_may_stand => k_is)
    (case i_Carrier_may_stand => k_is)
    (case l_Carrier_may_stand => k_is)
    (case c_Carrier_may_stand => k_is)
    (case k_Carrier_may_stand => k_is)
    (case a_Carrier_gain => k_is)
    (case i_Carrier_gain => k_is)
    (case l_Carrier_gain => k_is)
    (case c_Carrier_gain => k_is)
    (case k_Carrier_gain => k_is)
    (case a_Carrier_fare => k_is)
    (case i_Carrier_fare => k_is)
    (case l_Carrier_fare => k_is)
    (case c_Carrier_fare => k_is)
    (case k_Carrier_fare => k_is)
    (case a_Carrier_cost => k_is)
    (case i_Carrier_cost => k_is)
    (case l_Carrier_cost => k_is)
    (case c_Carrier_cost => k_is)
    (case k_Carrier_cost => k_is)
    (case a_Carrier_steps => k_is)
    (case i_Carrier_steps => k_is)
    (case l_Carrier_steps => k_is)
    (case c_Carrier_steps => k_is)
    (case k_Carrier_steps => k_is)
    (case a_Carrier_stayed => k_is)
    (case i_Carrier_stayed => k_is)
    (case l_Carrier_stayed => k_is)
    (case c_Carrier_stayed => k_is)
    (case k_Carrier_stayed => k_is)
    (case a_Carrier_fare_if_standing => k_is)
    (case i_Carrier_fare_if_standing => k_is)
    (case l_Carrier_fare_if_standing => k_is)
    (case c_Carrier_fare_if_standing => k_is)
    (case k_Carrier_fare_if_standing => k_is)
    (case a_Crawler_may_stand => k_is)
    (case i_Crawler_may_stand => k_is)
    (case l_Crawler_may_stand => k_is)
    (case c_Crawler_may_stand => k_is)
    (case k_Crawler_may_stand => k_is)
    (case a_Crawler_gain => k_is)
    (case i_Crawler_gain => k_is)
    (case l_Crawler_gain => k_is)
    (case c_Crawler_gain => k_is)
    (case k_Crawler_gain => k_is)
    (case a_Crawler_fare => k_is)
    (case i_Crawler_fare => k_is)
    (case l_Crawler_fare => k_is)
    (case c_Crawler_fare => k_is)
    (case k_Crawler_fare => k_is)
    (case a_Runner_gain => k_is)
    (case i_Runner_gain => k_is)
    (case l_Runner_gain => k_is)
    (case c_Runner_gain => k_is)
    (case k_Runner_gain => k_is)
    (case a_Runner_fare => k_is)
    (case i_Runner_fare => k_is)
    (case l_Runner_fare => k_is)
    (case c_Runner_fare => k_is)
    (case k_Runner_fare => k_is)
    (case a_stands_at => k_is)
    (case l_stands_at => k_is)
    (case c_stands_at => k_is)
    (case k_stands_at => k_is)
    (case a_walked => k_is)
    (case l_walked => k_is)
    (case c_walked => k_is)
    (case k_walked => k_is)
    (case a_next_charge => k_is)
    (case l_next_charge => k_is)
    (case c_next_charge => k_is)
    (case k_next_charge => k_is)
    (case a_Lcell_at => k_is)
    (case l_Lcell_at => k_is)
    (case c_Lcell_at => k_is)
    (case k_Lcell_at => k_is)
    (case a_Lmixed => k_is)
    (case l_Lmixed => k_is)
    (case c_Lmixed => k_is)
    (case k_Lmixed => k_is)
    (case a_Lwhole => k_is)
    (case l_Lwhole => k_is)
    (case c_Lwhole => k_is)
    (case k_Lwhole => k_is)
    (case a_Llines => k_is)
    (case l_Llines => k_is)
    (case c_Llines => k_is)
    (case k_Llines => k_is)
    (case a_Lsign => k_is)
    (case l_Lsign => k_is)
    (case c_Lsign => k_is)
    (case k_Lsign => k_is)
    (case a_Laround => k_is)
    (case l_Laround => k_is)
    (case c_Laround => k_is)
    (case k_Laround => k_is)
    (case a_Lstands => k_is)
    (case l_Lstands => k_is)
    (case c_Lstands => k_is)
    (case k_Lstands => k_is)
    (case a_Lcost => k_is)
    (case l_Lcost => k_is)
    (case c_Lcost => k_is)
    (case k_Lcost => k_is)
    (case a_Ldue => k_is)
    (case l_Ldue => k_is)
    (case c_Ldue => k_is)
    (case k_Ldue => k_is)
    (case a_Lcells => k_is)
    (case l_Lcells => k_is)
    (case c_Lcells => k_is)
    (case k_Lcells => k_is)
    (case a_Lis_bad_way => k_is)
    (case l_Lis_bad_way => k_is)
    (case c_Lis_bad_way => k_is)
    (case k_Lis_bad_way => k_is)
    (case a_Ltold => k_is)
    (case l_Ltold => k_is)
    (case c_Ltold => k_is)
    (case k_Ltold => k_is)
    (case a_Lcarrier => k_is)
    (case l_Lcarrier => k_is)
    (case c_Lcarrier => k_is)
    (case k_Lcarrier => k_is)
    (case a_law => k_is)
    (case l_law => k_is)
    (case c_law => k_is)
    (case k_law => k_is)
    (case as_Cart_may_stand => k_is)
    (case as_Cart_gain => k_is)
    (case as_Cart_fare => k_is)
    (case as_Cart_cost => k_is)
    (case as_Cart_steps => k_is)
    (case as_Cart_stayed => k_is)
    (case as_Cart_fare_if_standing => k_is)
    (case as_Crawler_cost => k_is)
    (case as_Crawler_steps => k_is)
    (case as_Crawler_stayed => k_is)
    (case as_Crawler_fare_if_standing => k_is)
    (case as_Runner_may_stand => k_is)
    (case as_Runner_cost => k_is)
    (case as_Runner_steps => k_is)
    (case as_Runner_stayed => k_is)
    (case as_Runner_fare_if_standing => k_is)
    (case as_Cart_init => k_is)
    (case as_Crawler_init => k_is)
    (case as_Runner_init => k_is)
    (case z_len => k_is)
    (case z_range => k_is)
    (case z_isinstance => k_is)
    (case z_all => k_is)
    (case z_int => k_is)
    (case z_bool => k_is)
    (case z_str => k_is)
    (case z_list => k_is)
    (case z_tuple => k_is)
    (case z_dict => k_is)
    (case z_min => k_is)
    (case z_max => k_is)
    (case z_ValueError => k_is)
    (case x_WALL => k_is)
    (case x_CHARGER => k_is)
    (case x_SIGNS => k_is)
    (case x_MOST_ROWS => k_is)
    (case x_MOST_SIGNS => k_is)
    (case x_ROUGH => k_is)
    (case x_LANE => k_is)
