import PyProof.Rows.All
import PyProof.StrLoop
import PyProof.TupleIter
import PyProof.RangeIter
import Wide.All
import OpenK.AllK
import Wide.FinOn
import Lean
import PyProof.EqAt
import PyProof.EqKinds
import PyProof.TupleCall
import KE.KRevIter
import PyProof.CollectIter
import PyProof.ListRange
import PyProof.StationsW
import KE.KTryMore
import PyProof.RulesAs
import PyProof.Rows.TupDisplay
import KE.KEqDict
import PyProof.SeqI3
import KE.KDictOf
import PyProof.AttrMissHeap
import PyProof.AttrMissSeq
import PyProof.CollectWalk
import PyProof.ListStr
import KE.KDictList
import PyProof.Rows.SortShell
import PyProof.Rows.SortWalk
import PyProof.NeKinds
import KE.KSortTup
import PySem.Challenge.RW_floorways_k02_heaps
def PySem.W.Fast.tw1565323525421529056 : Unit := ()
def PySem.W.Fast.tw17046935689849516757 : Unit := ()
def PySem.W.Fast.tw13452619009959732435 : Unit := ()
def PySem.W.Fast.tw1878223906472457177 : Unit := ()
def PySem.W.Fast.tw17797959667599275810 : Unit := ()
def PySem.W.Fast.tw11595860421079248150 : Unit := ()
def PySem.W.Fast.tw16888450073922547972 : Unit := ()
def PySem.W.Fast.tw15759446877708765876 : Unit := ()
def PySem.W.Fast.tw7714194308915919616 : Unit := ()
def PySem.W.Fast.tw2153037193900136497 : Unit := ()
def PySem.W.Fast.tw14000144609947792080 : Unit := ()
def PySem.W.Fast.tw11243403406972259946 : Unit := ()
def PySem.W.Fast.tw7504748330082435395 : Unit := ()
def PySem.W.Fast.tw12678497020794611201 : Unit := ()
def PySem.W.Fast.tw6279795884063768833 : Unit := ()
def PySem.W.Fast.tw13758953571994939400 : Unit := ()
def PySem.W.Fast.tw14387396470559188434 : Unit := ()
def PySem.W.Fast.tw10061943738835144390 : Unit := ()
def PySem.W.Fast.tw11800716167201312910 : Unit := ()
def PySem.W.Fast.tw16970726788127179178 : Unit := ()
def PySem.W.Fast.tw13573691155711576802 : Unit := ()
def PySem.W.Fast.tw1968387019182657612 : Unit := ()
def PySem.W.Fast.tw1503478533261168377 : Unit := ()
def PySem.W.Fast.tw14275511732935267943 : Unit := ()
def PySem.W.Fast.tw429075776895093005 : Unit := ()
def PySem.W.Fast.tw699391228600013879 : Unit := ()
def PySem.W.Fast.tw5346841258167620360 : Unit := ()
def PySem.W.Fast.tw5617762690905348968 : Unit := ()
def PySem.W.Fast.tw4949947012953614733 : Unit := ()
def PySem.W.Fast.tw14693143499845847315 : Unit := ()
def PySem.W.Fast.tw17803496371117758770 : Unit := ()
def PySem.W.Fast.tw8169688786645310192 : Unit := ()
def PySem.W.Fast.tw11157320946854184660 : Unit := ()
def PySem.W.Fast.tw16197288528222654691 : Unit := ()
def PySem.W.Fast.tw9350625532640508438 : Unit := ()
def PySem.W.Fast.tw15579839999044154060 : Unit := ()
def PySem.W.Fast.tw11595384838006440892 : Unit := ()
def PySem.W.Fast.tw2913737183883965933 : Unit := ()
def PySem.W.Fast.tw6599626395374388222 : Unit := ()
def PySem.W.Fast.tw15525799110537909002 : Unit := ()
def PySem.W.Fast.tw5230384261329570111 : Unit := ()
def PySem.W.Fast.tw12224477708487268773 : Unit := ()
def PySem.W.Fast.tw9868669449982383391 : Unit := ()
def PySem.W.Fast.tw13020297534174405053 : Unit := ()
def PySem.W.Fast.tw8965378289097846571 : Unit := ()
def PySem.W.Fast.tw14806162451349988138 : Unit := ()
def PySem.W.Fast.tw6492545027203667129 : Unit := ()
def PySem.W.Fast.tw17596450037327501966 : Unit := ()
def PySem.W.Fast.tw3001852579275879212 : Unit := ()
def PySem.W.Fast.tw14036927161316129103 : Unit := ()
def PySem.W.Fast.tw10480179715173333270 : Unit := ()
def PySem.W.Fast.tw7081508849224767870 : Unit := ()
def PySem.W.Fast.tw8037164858675534198 : Unit := ()
def PySem.W.Fast.tw15731960509566472533 : Unit := ()
def PySem.W.Fast.tw2484577781806715971 : Unit := ()
def PySem.W.Fast.tw6801234696402824041 : Unit := ()
def PySem.W.Fast.tw7273508478687493753 : Unit := ()
def PySem.W.Fast.tw1083561733368365617 : Unit := ()
def PySem.W.Fast.tw2027605894826565817 : Unit := ()
def PySem.W.Fast.tw2662591867071613256 : Unit := ()
def PySem.W.Fast.tw2820628948702205623 : Unit := ()
def PySem.W.Fast.tw16610907817962247935 : Unit := ()
def PySem.W.Fast.tw5998244549697486420 : Unit := ()
def PySem.W.Fast.tw10157155544985766655 : Unit := ()
def PySem.W.Fast.tw8014258678455173514 : Unit := ()
def PySem.W.Fast.tw9431850002516894399 : Unit := ()
def PySem.W.Fast.tw11500562000643370631 : Unit := ()
def PySem.W.Fast.tw3578394938427202092 : Unit := ()
def PySem.W.Fast.tw12278922478570760562 : Unit := ()
def PySem.W.Fast.tw15929888920771088744 : Unit := ()
def PySem.W.Fast.tw7432525666143036345 : Unit := ()
def PySem.W.Fast.tw7067908517944181371 : Unit := ()
def PySem.W.Fast.tw9599297003797082395 : Unit := ()
def PySem.W.Fast.tw11074243220696706744 : Unit := ()
def PySem.W.Fast.tw13359854220190339918 : Unit := ()
def PySem.W.Fast.tw9869608883808865924 : Unit := ()
def PySem.W.Fast.tw8284000339681594932 : Unit := ()
def PySem.W.Fast.tw3985595959475715976 : Unit := ()
def PySem.W.Fast.tw3816939067090229830 : Unit := ()
def PySem.W.Fast.tw13266885415071187503 : Unit := ()
def PySem.W.Fast.tw1974405113605749395 : Unit := ()
def PySem.W.Fast.tw3511805663831765338 : Unit := ()
def PySem.W.Fast.tw16848727791990216145 : Unit := ()
def PySem.W.Fast.tw10621046828850986315 : Unit := ()
def PySem.W.Fast.tw1040785059272171127 : Unit := ()
def PySem.W.Fast.tw5404943278130431872 : Unit := ()
def PySem.W.Fast.tw6903215871683971737 : Unit := ()
def PySem.W.Fast.tw1193148591504668217 : Unit := ()
def PySem.W.Fast.tw440530953407941817 : Unit := ()
def PySem.W.Fast.tw6006239483216193838 : Unit := ()
def PySem.W.Fast.tw3918627790038281309 : Unit := ()
def PySem.W.Fast.tw599479158853553708 : Unit := ()
def PySem.W.Fast.tw6499303366523768896 : Unit := ()
def PySem.W.Fast.tw18154121845489694063 : Unit := ()
def PySem.W.Fast.tw16622372212159757235 : Unit := ()
def PySem.W.Fast.tw13388028436574449880 : Unit := ()
def PySem.W.Fast.tw3251355914905283995 : Unit := ()
def PySem.W.Fast.tw9567473055332341850 : Unit := ()
set_option Elab.async false
set_option linter.all false
set_option maxRecDepth 100000
namespace L2
open PySem PyProof.Rows PySem.Calls
def Hd (A : Around) (h : Heap) : Prop :=
  A.handled = none ∨ ∃ (ea C : Addr) (dx : Option Addr) (vs : Array Value) (sl : Array (Option Value)), A.handled = some (.ref ea) ∧ h.get? ea = some ⟨.ref C, dx, .fields vs, sl⟩ ∧ vs[2]? = some Value.none
theorem Hd.keeps {A : Around} {h h' : Heap} (d : Hd A h) (k : ∀ b o, h.get? b = some o → h'.get? b = some o) : Hd A h' := by
  rcases d with d | ⟨ea, C, dx, vs, sl, d1, d2, d3⟩
  · exact .inl d
  · exact .inr ⟨ea, C, dx, vs, sl, d1, k _ _ d2, d3⟩
theorem Hd.update {A : Around} {h : Heap} (d : Hd A h) {it : Addr} {o : Obj} {n : String} (ho : h.get? it = some o) (hc : o.cls = .type n) (f : Obj → Obj) : Hd A (h.update it f) := by
  rcases d with d | ⟨ea, C, dx, vs, sl, d1, d2, d3⟩
  · exact .inl d
  · refine .inr ⟨ea, C, dx, vs, sl, d1, ?_, d3⟩
    rw [Heap.get?_update_other h f (fun z => ?_)]
    · exact d2
    · subst z
      rw [ho] at d2
      cases d2
      cases hc
section
variable {prog : Program} {w : World} {A : Around} {E : Value → Shared → Prop} {s : Shared}
theorem entry_unchain : entryFor table "proto.unchain" = some Builtin.«proto.unchain» := entryFor_of_tree (by kernel_rfl)
theorem raise_new {α : Type} {Q : α → Shared → Prop} {e : Addr} {c : Value} {d : Option Addr} {ws : Array Value} {sl : Array (Option Value)} (hd : Hd A s.heap) (hn : ∀ ea, A.handled = some (.ref ea) → ea ≠ e) (he : s.heap.get? e = some ⟨c, d, .fields ws, sl⟩) (hz : 2 < ws.size)
    (k : ∀ h', (∀ b o, b ≠ e → s.heap.get? b = some o → h'.get? b = some o) → (∃ o, h'.get? e = some o ∧ o.cls = c) → E (.ref e) { s with heap := h' }) : wpAny (model prog w) A (raiseNew (.ref e) : Sem α) Q E s := by
  rcases hd with hd | ⟨ea, C, dx, vs, sl2, d1, d2, d3⟩
  · unfold raiseNew
    refine wpAny_bind (wpAny_handled ?_)
    rw [hd]
    exact wpAny_bind (wpAny_pure (wpAny_throw (k _ (fun _ _ _ z => z) ⟨_, he, rfl⟩)))
  · have ne := hn ea d1
    unfold raiseNew
    refine wpAny_bind (wpAny_handled ?_)
    rw [d1]
    have hb : (Value.ref ea != Value.ref e) = true := by simp [ne]
    dsimp only
    rw [if_pos hb]
    refine wpAny_bind (wpAny_holding (wpAny_runValue (codeAny_builtin entry_unchain ?_)))
    show wpAny _ _ (field (.ref ea) 2 >>= _) _ _ s
    refine wpAny_bind (wpAny_field d2 rfl d3 ?_)
    rw [if_pos (by decide)]
    refine wpAny_bind (wpAny_pure (wpAny_pure ?_))
    unfold updateField
    refine wpAny_bind (wpAny_bind (wpAny_load he ?_))
    show wpAny _ _ (if 2 < ws.size then _ else _) _ _ s
    rw [if_pos hz]
    refine wpAny_update he (wpAny_throw (k _ (fun b o hb z => ?_) ⟨_, Heap.get?_update_self _ he rfl, rfl⟩))
    rw [Heap.get?_update_other _ _ (Ne.symm hb)]
    exact z
theorem stop_told {α : Type} {Q : α → Shared → Prop} (hd : Hd A s.heap) (k : ∀ h' e, (∀ b o, s.heap.get? b = some o → h'.get? b = some o) → (∃ o, h'.get? e = some o ∧ o.cls = .type "StopIteration") → E (.ref e) { s with heap := h' }) :
    wpAny (model prog w) A (newExc (.type "StopIteration") [] >>= fun e => (raiseNew e : Sem α)) Q E s := by
  refine wpAny_bind ?_
  simp only [newExc, newTuple]
  refine wpAny_bind (wpAny_newObj_type ?_ (by size_fits))
  refine wpAny_bind (m := firstArgMember _ _) (wpAny_of_eq (a := Value.none) (by first | rfl | (simp only [firstArgMember]; rfl)) ?_)
  refine wpAny_newObj_type ?_ (by size_fits)
  have up : ∀ b o, s.heap.get? b = some o → ((s.heap.push { cls := .type "tuple", data := .seq #[] }).push { cls := .type "StopIteration", data := .fields (#[Value.ref s.heap.objs.size, .none, .none, .none, .bool false, .none] ++ ownMembersOf (.type "StopIteration") []) }).get? b = some o :=
    fun b o z => Heap.get?_push_of_some _ (Heap.get?_push_of_some _ z)
  have lt : ∀ b o, s.heap.get? b = some o → b ≠ (s.heap.push { cls := .type "tuple", data := .seq #[] }).objs.size := fun b o z => Nat.ne_of_lt (Heap.lt_size (Heap.get?_push_of_some _ z))
  refine raise_new (hd.keeps up) (fun ea z => ?_) (Heap.get?_push_size _ rfl) (by rw [Array.size_append]; exact Nat.lt_of_lt_of_le (show 2 < 6 by decide) (Nat.le_add_right 6 _)) fun h' k1 k2 => k h' _ (fun b o z => k1 b o (lt b o z) (up b o z)) k2
  rcases hd with hd | ⟨eb, C, dx, vs, sl, d1, d2, d3⟩
  · rw [hd] at z
    cases z
  · rw [d1] at z
    cases z
    exact lt _ _ d2
theorem stop_seen {Q : Option Value → Shared → Prop} {e : Addr} (he : ∃ o, s.heap.get? e = some o ∧ o.cls = .type "StopIteration") (h : Q none s) :
    wpAny (model prog w) A (do if ← isInstance (.ref e) (.type "StopIteration") then pure none else throw (.ref e)) Q E s :=
  wpAny_bind (wpAny_isInstance (T := "StopIteration") (b := true) he isSubtype_stop (wpAny_pure h))
theorem list_end {it l : Addr} {i : Nat} {items : Array Value} {Q : Option Value → Shared → Prop} (hh : Hd A s.heap) (hit : s.heap.IsListIter it l i) (hl : s.heap.IsList l items) (hx : items[i]? = none)
    (hQ : ∀ h', Heap.ExtBut it s.heap h' → Q none { s with heap := h' }) : wpAny (model prog w) A (pyNext (.ref it)) Q E s := by
  obtain ⟨o, ho, hc, hd⟩ := id hit
  obtain ⟨_, hol, _, _, hdl⟩ := hl
  unfold pyNext
  refine wpAny_bind (wpAny_attempt (wpAny_callSpecial?_slot (name := Str.ofString "__next__") hit.typeIs slot_listiter_next (wpAny_call_entry slot_listiter_next hit.typeIs entry_listiter_next ?_ (args_listiter_next _))))
  show wpAny _ _ (field (.ref it) 0 >>= _) _ _ s
  refine wpAny_bind (wpAny_field ho hd (x := .ref l) rfl ?_)
  rw [if_neg (fun z : (Value.ref l == Value.none) = true => nomatch z)]
  show wpAny _ _ (field (.ref it) 1 >>= _) _ _ s
  refine wpAny_bind (wpAny_field ho hd (x := .int i 0) rfl ?_)
  show wpAny _ _ (seqItems? (.ref l) >>= _) _ _ s
  refine wpAny_bind (wpAny_seqItems hol hdl ?_)
  simp only [Int.toNat_natCast, hx]
  refine wpAny_bind (wpAny_rule (wpAny_bind (wpAny_setField ho hd (by simp) ?_)))
  refine stop_told (hh.update (A := A) ho hc _) fun h' e k1 k2 => stop_seen k2 (hQ h' fun b o hb z => k1 b o ?_)
  rw [Heap.get?_update_other _ _ (Ne.symm hb)]
  exact z
theorem tuple_end {it t : Addr} {i : Nat} {items : Array Value} {Q : Option Value → Shared → Prop} (hh : Hd A s.heap) (hit : s.heap.IsTupleIter it t i) (ht : s.heap.IsTuple t items) (hx : items[i]? = none)
    (hQ : ∀ h', Heap.ExtBut it s.heap h' → Q none { s with heap := h' }) : wpAny (model prog w) A (pyNext (.ref it)) Q E s := by
  obtain ⟨o, ho, hc, hd⟩ := id hit
  obtain ⟨_, hol, _, _, hdl⟩ := ht
  unfold pyNext
  refine wpAny_bind (wpAny_attempt (wpAny_callSpecial?_slot (name := Str.ofString "__next__") hit.typeIs F.slot_tuple_iterator_next (wpAny_call_entry F.slot_tuple_iterator_next hit.typeIs F.entry_tuple_iterator_next ?_ (F.args_tuple_iterator_next_1 _))))
  show wpAny _ _ (field (.ref it) 0 >>= _) _ _ s
  refine wpAny_bind (wpAny_field ho hd (x := .ref t) rfl ?_)
  rw [if_neg (fun z : (Value.ref t == Value.none) = true => nomatch z)]
  show wpAny _ _ (field (.ref it) 1 >>= _) _ _ s
  refine wpAny_bind (wpAny_field ho hd (x := .int i 0) rfl ?_)
  show wpAny _ _ (seqItems? (.ref t) >>= _) _ _ s
  refine wpAny_bind (wpAny_seqItems hol hdl ?_)
  simp only [Int.toNat_natCast, hx]
  refine wpAny_bind (wpAny_rule (wpAny_bind (wpAny_setField ho hd (by simp) ?_)))
  refine stop_told (hh.update (A := A) ho hc _) fun h' e k1 k2 => stop_seen k2 (hQ h' fun b o hb z => k1 b o ?_)
  rw [Heap.get?_update_other _ _ (Ne.symm hb)]
  exact z
theorem range_end {it : Addr} {x left step : Int} {Q : Option Value → Shared → Prop} (hh : Hd A s.heap) (hit : IsRangeIter s.heap it x left step) (hleft : left ≤ 0)
    (hQ : ∀ h', Heap.ExtBut it s.heap h' → Q none { s with heap := h' }) : wpAny (model prog w) A (pyNext (.ref it)) Q E s := by
  have hT : s.TypeIs (.ref it) "range_iterator" := ⟨_, hit, rfl⟩
  unfold pyNext
  refine wpAny_bind (wpAny_attempt (wpAny_callSpecial?_slot (name := Str.ofString "__next__") hT F.slot_range_iterator_next (wpAny_call_entry F.slot_range_iterator_next hT F.entry_range_iterator_next ?_ (F.args_range_iterator_next_1 _))))
  show wpAny _ _ (field (.ref it) 0 >>= _) _ _ s
  refine wpAny_bind (wpAny_field hit rfl (x := rawInt x) rfl ?_)
  show wpAny _ _ (field (.ref it) 1 >>= _) _ _ s
  refine wpAny_bind (wpAny_field hit rfl (x := rawInt left) rfl ?_)
  show wpAny _ _ (field (.ref it) 2 >>= _) _ _ s
  refine wpAny_bind (wpAny_field hit rfl (x := rawInt step) rfl ?_)
  show wpAny _ _ (if left ≤ 0 then _ else _) _ _ s
  rw [if_pos hleft]
  refine wpAny_bind (wpAny_rule (wpAny_bind ?_))
  exact stop_told (A := A.in1) hh fun h' e k1 k2 => stop_seen k2 (hQ h' fun b o hb z => k1 b o z)
theorem tup_unpacked {env : Env} {elts : List Expr} {x1} {pos : Pos} {t : Addr} {items : Array Value} {Q : Unit → Shared → Prop} (hh : Hd A s.heap) (ht : IsTup s.heap t items) (hn : (assignEach elts env).length = items.size) (hstar : (assignEach elts env).findIdx? (·.1) = none)
    (h : ∀ h', Heap.ExtBut s.heap.objs.size s.heap h' → wpAny (model prog w) A (assignInOrder ((assignEach elts env).map (·.2)) items.toList) Q E { s with heap := h' }) : wpAny (model prog w) A (assign (.Tuple elts x1 pos) env (.ref t)) Q E s := by
  have ne : t ≠ s.heap.objs.size := by obtain ⟨o, ho, _⟩ := ht; exact Nat.ne_of_lt (Heap.lt_size ho)
  rw [assign_Tuple]
  refine wpAny_bind (wpAny_standAt ?_)
  unfold unpack
  rw [hn, hstar]
  refine wpAny_bind (wpAny_holding ?_)
  unfold unpackItems
  refine wpAny_bind ?_
  unfold notIterableAtAll
  refine wpAny_bind (wpAny_specialOf ht.typeIs slot_tuple_iter.lookup (wpAny_pure ?_))
  simp only [Bool.false_eq_true, if_false]
  refine wpAny_bind (wpAny_holding (iter_tuple ht ?_))
  refine wpAny_bind (wpAny_holding (draw_tuple ne items.size 0 _ _ ⟨_, Heap.get?_push_size _ rfl, rfl, rfl⟩ (ht.push _) (by omega) fun h₁ hit₁ hs₁ => ?_))
  rw [List.drop_zero, List.take_of_length_le (by simp)]
  rw [if_neg (by simp)]
  have k1 : ∀ b o, s.heap.get? b = some o → h₁.get? b = some o := fun b o z => (hs₁.2 b (Nat.ne_of_lt (Heap.lt_size z))).trans (Heap.get?_push_of_some _ z)
  have ht₁ : IsTup h₁ t items := (ht.push _).extBut hs₁.extBut ne
  refine wpAny_bind (wpAny_holding (tuple_end (s := { s with heap := h₁ }) (hh.keeps k1) hit₁ ht₁ (by simp) fun h₂ he₂ => ?_))
  simp only [Option.isSome_none, Bool.false_eq_true, if_false]
  exact wpAny_pure (h h₂ fun b o hb z => he₂ b o hb (k1 b o z))
end
end L2
set_option Elab.async false
set_option linter.all false
set_option maxRecDepth 100000
namespace L2
open PySem PySem.Spec PyProof.Rows
abbrev Key := Sum Int Str
def keyIs : Key → Value → Bool
  | .inl k, v => Value.isInt k v
  | .inr x, v => Value.isStrOf x v
def keyH (w : World) : Key → Int
  | .inl k => hashInt k
  | .inr x => hashStr w x
theorem keyIs_shape : ∀ {k : Key} {v : Value}, keyIs k v = true → (∃ i t, k = Sum.inl i ∧ v = Value.int i t) ∨ (∃ x t, k = Sum.inr x ∧ v = Value.str x t)
  | .inl i, v, h => by
    obtain ⟨t, e⟩ := Value.isInt_shape (k := i) (v := v) h
    exact .inl ⟨i, t, rfl, e⟩
  | .inr x, v, h => by
    obtain ⟨t, e⟩ := Value.isStrOf_shape (x := x) (v := v) h
    exact .inr ⟨x, t, rfl, e⟩
theorem key_ll (a b : Int) : decide ((Sum.inl a : Key) = Sum.inl b) = (a == b) := by
  by_cases e : a = b
  · subst e; simp
  · have h : ¬ (Sum.inl a : Key) = Sum.inl b := fun q => e (Sum.inl.inj q)
    rw [decide_eq_false h]
    exact (beq_eq_false_iff_ne.mpr e).symm
theorem key_rr (a b : Str) : decide ((Sum.inr a : Key) = Sum.inr b) = decide (a = b) := by
  by_cases e : a = b
  · subst e; simp
  · have h : ¬ (Sum.inr a : Key) = Sum.inr b := fun q => e (Sum.inr.inj q)
    rw [decide_eq_false h, decide_eq_false e]
theorem key_lr (a : Int) (b : Str) : decide ((Sum.inl a : Key) = Sum.inr b) = false := decide_eq_false (fun q => nomatch q)
theorem key_rl (a : Str) (b : Int) : decide ((Sum.inr a : Key) = Sum.inl b) = false := decide_eq_false (fun q => nomatch q)
def mixKind (prog : Program) (w : World) : PySem.KeyKind prog w Key where
  is := keyIs
  hash := keyH w
  inj := fun v a b ha hb => by
    rcases keyIs_shape ha with ⟨i, t, rfl, rfl⟩ | ⟨x, t, rfl, rfl⟩
    · rcases keyIs_shape hb with ⟨j, u, rfl, e⟩ | ⟨y, u, rfl, e⟩
      · injection e with e1 _; rw [e1]
      · exact nomatch e
    · rcases keyIs_shape hb with ⟨j, u, rfl, e⟩ | ⟨y, u, rfl, e⟩
      · exact nomatch e
      · injection e with e1 _; rw [e1]
  byValue := fun k v h => by
    rcases keyIs_shape h with ⟨i, t, rfl, rfl⟩ | ⟨x, t, rfl, rfl⟩ <;> rfl
  pyHash := fun hv h => by
    rcases keyIs_shape hv with ⟨i, t, rfl, rfl⟩ | ⟨x, t, rfl, rfl⟩
    · exact wpAny_pyHash_int h
    · exact wpAny_pyHash_str h
  eqBool := fun hu hv h => by
    rcases keyIs_shape hu with ⟨i, t, rfl, rfl⟩ | ⟨x, t, rfl, rfl⟩
    · rcases keyIs_shape hv with ⟨j, u, rfl, rfl⟩ | ⟨y, u, rfl, rfl⟩
      · rw [key_ll] at h; exact wpAny_eqBool_int h
      · rw [key_lr] at h; exact SeqAt.EqAt.int_str i t y u _ _ _ _ h
    · rcases keyIs_shape hv with ⟨j, u, rfl, rfl⟩ | ⟨y, u, rfl, rfl⟩
      · rw [key_rl] at h; exact SeqAt.EqAt.str_int x t j u _ _ _ _ h
      · rw [key_rr] at h; exact wpAny_eqBool_str h
  «strs» := fun k x t v h => by
    rcases keyIs_shape h with ⟨i, u, rfl, e⟩ | ⟨y, u, rfl, e⟩
    · exact nomatch e
    · injection e with e1 _
      subst e1
      cases v <;> rfl
end L2
namespace L2
open PySem PySem.Spec PyProof.Rows
inductive V where
  | non | bl (b : Bool) | int (i : Int) | str (x : Str) | byt (b : Array UInt8) | flt (b : UInt64) | ref (a : Addr) | ty (n : String)
  deriving DecidableEq
def RelV : V → Value → Prop
  | .non, u => u = Value.none
  | .bl b, u => u = Value.bool b
  | .int i, u => ∃ t, u = Value.int i t
  | .str x, u => ∃ t, u = Value.str x t
  | .byt b, u => ∃ t, u = Value.bytes b t
  | .flt b, u => ∃ t, u = Value.float b t
  | .ref a, u => u = Value.ref a
  | .ty n, u => u = Value.type n
abbrev Vals : List V → List Value → Prop := Paired RelV
theorem Vals.length {xs : List V} {us : List Value} (r : Vals xs us) : xs.length = us.length := Paired.length r
theorem Vals.get : ∀ {xs : List V} {us : List Value} {i : Nat} {x : V}, Vals xs us → xs[i]? = some x → ∃ u, us[i]? = some u ∧ RelV x u
  | _, _, _, _, .nil, e => by simp at e
  | _, _, 0, _, .cons r _, e => by simp at e; subst e; exact ⟨_, rfl, r⟩
  | _, _, i + 1, x, .cons _ t, e => by
    obtain ⟨u, h1, h2⟩ := Vals.get (i := i) (x := x) t (by simpa using e)
    exact ⟨u, by simpa using h1, h2⟩
theorem Vals.set {x : V} {u : Value} (r : RelV x u) : ∀ {xs : List V} {us : List Value} (i : Nat), Vals xs us → Vals (xs.set i x) (us.set i u)
  | _, _, _, .nil => .nil
  | _, _, 0, .cons _ t => .cons r t
  | _, _, i + 1, .cons q t => .cons q (Vals.set r i t)
theorem Vals.append : ∀ {xs ys : List V} {us ws : List Value}, Vals xs us → Vals ys ws → Vals (xs ++ ys) (us ++ ws)
  | _, _, _, _, .nil, s => s
  | _, _, _, _, .cons r t, s => .cons r (Vals.append t s)
theorem Vals.take : ∀ {xs : List V} {us : List Value} (n : Nat), Vals xs us → Vals (xs.take n) (us.take n)
  | _, _, 0, _ => .nil
  | _, _, _ + 1, .nil => .nil
  | _, _, n + 1, .cons r t => .cons r (Vals.take n t)
theorem Vals.drop : ∀ {xs : List V} {us : List Value} (n : Nat), Vals xs us → Vals (xs.drop n) (us.drop n)
  | _, _, 0, r => r
  | _, _, _ + 1, .nil => .nil
  | _, _, n + 1, .cons _ t => Vals.drop n t
theorem Vals.none_of : ∀ {xs : List V} {us : List Value} {i : Nat}, Vals xs us → xs[i]? = none → us[i]? = none := fun {xs us i} r e => by
  have h1 := r.length
  have h2 : xs.length ≤ i := List.getElem?_eq_none_iff.mp e
  exact List.getElem?_eq_none_iff.mpr (by omega)
def RelO : Option V → Option Value → Prop
  | some v, some u => RelV v u
  | none, none => True
  | _, _ => False
def KV {κ : Type} : List (κ × V) → List (κ × Value) → Prop := Paired fun (p : κ × V) (q : κ × Value) => p.1 = q.1 ∧ RelV p.2 q.2
def kV : Key → V
  | .inl i => .int i
  | .inr x => .str x
inductive HO where
  | lst (xs : List V)
  | tup (xs : List V)
  | dK (kvs : List (Key × V)) | dT (kvs : List (List Key × V))
  | set (S : Int → Bool) (n : Nat)
  | ins (C dx : Addr) (fs : List (Str × V))
  | own (x : Addr)
  | xd (fs : List (Str × V))
  | met (f x : Addr)
  | rng (lo hi : Int)
  | frz (o : Obj) (u : HO)
  | tbl (ps : Array Value)
  | ext (φ : Heap → Prop)
abbrev Hp := Addr → Option HO
def upd (H : Hp) (a : Addr) (o : HO) : Hp := fun b => if b = a then some o else H b
theorem upd_same {H : Hp} {a : Addr} {o : HO} : upd H a o a = some o := by unfold upd; rw [if_pos rfl]
theorem upd_ne {H : Hp} {a b : Addr} {o : HO} (h : b ≠ a) : upd H a o b = H b := by unfold upd; rw [if_neg h]
theorem upd_upd {H : Hp} {a : Addr} {o u : HO} : upd (upd H a o) a u = upd H a u := by
  funext b; unfold upd; split <;> rfl
theorem ne_of {H : Hp} {a b : Addr} {o u : HO} (h : H a = some o) (h' : H b = some u) (d : o ≠ u) : a ≠ b := by
  intro e; subst e; rw [h] at h'; exact d (Option.some.inj h')
theorem ne_of_none {H : Hp} {a b : Addr} {o : HO} (h : H a = some o) (h' : H b = none) : a ≠ b := by
  intro e; subst e; rw [h] at h'; cases h'
section
variable (P : Program) (w : World)
def ObjOk (H : Hp) (h : Heap) (a : Addr) : HO → Prop
  | .lst xs => xs.length ≤ sizeLine ∧ ∃ (its : List Value) (n : Nat), Vals xs its ∧ h.get? a = some { cls := .type "list", data := .seq its.toArray n }
  | .tup xs => xs.length ≤ sizeLine ∧ ∃ its : List Value, Vals xs its ∧ IsTup h a its.toArray
  | .dK kvs => kvs.length ≤ sizeLine ∧ (a == sysModules) = false ∧ ∃ vs, KV kvs vs ∧ h.DictOf (mixKind P w) a vs
  | .dT kvs => kvs.length ≤ sizeLine ∧ (a == sysModules) = false ∧ ∃ xs : List (List Key × Addr × Value),
      Paired (fun (p : List Key × V) (q : List Key × Addr × Value) => p.1 = q.1 ∧ H q.2.1 = some (.tup (p.1.map kV)) ∧ RelV p.2 q.2.2) kvs xs ∧
      ∃ o es ep, h.get? a = some o ∧ o.ExactDict ∧ o.data = .dict es ep ∧ es.toList = xs.map (entryOfKey (tupleKind (mixKind P w))) ∧ (xs.map (·.1)).Nodup
  | .set S n => h.SetOf (intKind P w) a S n
  | .ins C dx fs => H dx = some (.own a) ∧ fs.length ≤ 1000 ∧ dx ≠ a ∧ h.get? a = some (PySem.W.instObj C dx) ∧
      ∃ mA, h.Ns1 dx mA ∧ (∀ f, RelO (fs.lookup f) (mA f)) ∧ PySem.Within mA (fs.map (·.1))
  | .own _ => ∃ o, h.get? a = some o
  | .xd fs => ∃ mA, h.Ns1 a mA ∧ ∀ f, RelO (fs.lookup f) (mA f)
  | .rng lo hi => ∃ t u v, h.get? a = some { cls := .type "range", data := .fields #[.int lo t, .int hi u, .int 1 v] }
  | .frz o u => h.get? a = some o ∧ ObjOk H h a u
  | .tbl ps => h.get? a = some { cls := .none, data := .fields ps }
  | .met f x => h.get? a = some (PySem.W.methodObj (.ref f) (.ref x))
  | .ext φ => φ h ∧ (∃ o, h.get? a = some o) ∧ ∀ h1 h2 : Heap, φ h1 → (∀ o, h1.get? a = some o → h2.get? a = some o) → φ h2
def HOk (H : Hp) (h : Heap) : Prop := ∀ a o, H a = some o → ObjOk P w H h a o
end
section
variable {P : Program} {w : World} {H H' : Hp} {h h' : Heap} {a : Addr} {o : HO}
theorem ObjOk.lt (x : ObjOk P w H h a o) : a < h.objs.size := by
  cases o with
  | lst xs => obtain ⟨_, _, _, _, e⟩ := x; exact Heap.lt_size e
  | tup xs => obtain ⟨_, _, _, p⟩ := x; exact p.lt
  | dK kvs => obtain ⟨_, _, _, _, o, _, _, e, _⟩ := x; exact Heap.lt_size e
  | dT kvs => obtain ⟨_, _, _, _, o, _, _, e, _⟩ := x; exact Heap.lt_size e
  | set S n => obtain ⟨o, _, _, _, e, _⟩ := x; exact Heap.lt_size e
  | ins C dx fs => obtain ⟨_, _, _, e, _⟩ := x; exact Heap.lt_size e
  | own y => obtain ⟨_, e⟩ := x; exact Heap.lt_size e
  | xd fs => obtain ⟨_, ⟨_, _, _, e, _⟩, _⟩ := x; exact Heap.lt_size e
  | rng lo hi => obtain ⟨_, _, _, e⟩ := x; exact Heap.lt_size e
  | frz ob u => obtain ⟨e, _⟩ := x; exact Heap.lt_size e
  | tbl ps => exact Heap.lt_size (show h.get? a = some _ from x)
  | met f y => exact Heap.lt_size (show h.get? a = some _ from x)
  | ext φ => obtain ⟨_, ⟨_, e⟩, _⟩ := x; exact Heap.lt_size e
theorem Paired.mapP {α β : Type} {F G : α → β → Prop} : ∀ {l₁ : List α} {l₂ : List β}, Paired F l₁ l₂ → (∀ a b, F a b → G a b) → Paired G l₁ l₂
  | _, _, .nil, _ => .nil
  | _, _, .cons r t, f => .cons (f _ _ r) (Paired.mapP t f)
theorem ObjOk.stay (x : ObjOk P w H h a o) (k : ∀ b u, (b = a ∨ H b = some (.own a)) → h.get? b = some u → h'.get? b = some u)
    (ho : ∀ b, H b = some (.own a) → H' b = some (.own a)) (ht : ∀ b xs, H b = some (.tup xs) → H' b = some (.tup xs)) : ObjOk P w H' h' a o := by
  induction o with
  | lst xs => obtain ⟨z, its, n, r, e⟩ := x; exact ⟨z, its, n, r, k _ _ (.inl rfl) e⟩
  | tup xs => obtain ⟨z, its, r, ob, e, c⟩ := x; exact ⟨z, its, r, ob, k _ _ (.inl rfl) e, c⟩
  | dK kvs => obtain ⟨z, y, vs, r, ob, es, ep, e, c⟩ := x; exact ⟨z, y, vs, r, ob, es, ep, k _ _ (.inl rfl) e, c⟩
  | dT kvs =>
    obtain ⟨z, y, xs, r, ob, es, ep, e, c⟩ := x
    exact ⟨z, y, xs, Paired.mapP r fun p q z => ⟨z.1, ht _ _ z.2.1, z.2.2⟩, ob, es, ep, k _ _ (.inl rfl) e, c⟩
  | set S n => obtain ⟨ob, es, ep, t, e, c⟩ := x; exact ⟨ob, es, ep, t, k _ _ (.inl rfl) e, c⟩
  | ins C dx fs =>
    obtain ⟨d, z, ne, e, mA, ⟨od, es, ep, e2, c⟩, r⟩ := x
    exact ⟨ho _ d, z, ne, k _ _ (.inl rfl) e, mA, ⟨od, es, ep, k _ _ (.inr d) e2, c⟩, r⟩
  | own y => obtain ⟨ob, e⟩ := x; exact ⟨ob, k _ _ (.inl rfl) e⟩
  | xd fs => obtain ⟨mA, ⟨od, es, ep, e, c⟩, r⟩ := x; exact ⟨mA, ⟨od, es, ep, k _ _ (.inl rfl) e, c⟩, r⟩
  | rng lo hi => obtain ⟨t, u, v, e⟩ := x; exact ⟨t, u, v, k _ _ (.inl rfl) e⟩
  | frz ob u ih => obtain ⟨e, q⟩ := x; exact ⟨k _ _ (.inl rfl) e, ih q⟩
  | tbl ps =>
    have e : h.get? a = some { cls := .none, data := .fields ps } := x
    show h'.get? a = some { cls := .none, data := .fields ps }
    exact k a _ (.inl rfl) e
  | met f y =>
    have e : h.get? a = some (PySem.W.methodObj (.ref f) (.ref y)) := x
    show h'.get? a = some (PySem.W.methodObj (.ref f) (.ref y))
    exact k a _ (.inl rfl) e
  | ext φ => obtain ⟨p, ⟨o, e⟩, st⟩ := x; exact ⟨st _ _ p fun o q => k _ _ (.inl rfl) q, ⟨o, k _ _ (.inl rfl) e⟩, st⟩
theorem HOk.lt (x : HOk P w H h) (e : H a = some o) : a < h.objs.size := (x a o e).lt
theorem HOk.fresh (x : HOk P w H h) (e : h.objs.size ≤ a) : H a = none := by
  cases q : H a with
  | none => rfl
  | some u => exact absurd (Nat.lt_of_lt_of_le (x.lt q) e) (Nat.lt_irrefl _)
theorem HOk.kept (x : HOk P w H h) (k : ∀ b u, h.get? b = some u → h'.get? b = some u) : HOk P w H h' := fun a o e =>
  (x a o e).stay (fun b u _ q => k b u q) (fun _ q => q) fun _ _ q => q
theorem HOk.laid (x : HOk P w H h) (k : ∀ b u, h.get? b = some u → h'.get? b = some u) (hp : h.objs.size ≤ a) (new : ObjOk P w (upd H a o) h' a o) : HOk P w (upd H a o) h' := fun b u e => by
  have hn := x.fresh hp
  by_cases hb : b = a
  · subst hb; rw [upd_same] at e; cases e; exact new
  · rw [upd_ne hb] at e
    exact (x b u e).stay (fun c v _ q => k c v q) (fun c q => by rw [upd_ne (ne_of_none q hn)]; exact q) fun c xs q => by rw [upd_ne (ne_of_none q hn)]; exact q
end
def Rd (H : Hp) (a : Addr) (u : HO) : Prop := H a = some u ∨ ∃ o, H a = some (.frz o u)
theorem Rd.of {H : Hp} {a : Addr} {u : HO} (h : H a = some u) : Rd H a u := .inl h
theorem Rd.ok {P : Program} {w : World} {H : Hp} {h : Heap} {a : Addr} {u : HO} (r : Rd H a u) (x : HOk P w H h) : ObjOk P w H h a u := by
  rcases r with r | ⟨o, r⟩
  · exact x a u r
  · obtain ⟨_, q⟩ := x a _ r
    exact q
def Mut : Option HO → Prop
  | some (.lst _) => True
  | some (.dK _) => True
  | some (.dT _) => True
  | some (.set _ _) => True
  | some (.ins _ _ _) => True
  | some (.ext _) => True
  | _ => False
section
variable {P : Program} {w : World} {H : Hp} {h h' : Heap} {x e : Addr} {o' : HO}
theorem HOk.write (ok : HOk P w H h) (mu : Mut (H x)) (he : e = x ∨ H e = some (.own x)) (k : ∀ b u, b ≠ e → h.get? b = some u → h'.get? b = some u) (heo : ∃ u, h'.get? e = some u)
    (new : ObjOk P w (upd H x o') h' x o') : HOk P w (upd H x o') h' := fun b u q => by
  have nown : ∀ c y, H c = some (.own y) → c ≠ x := fun c y r z => by subst z; rw [r] at mu; exact mu
  have ntup : ∀ c xs, H c = some (.tup xs) → c ≠ x := fun c xs r z => by subst z; rw [r] at mu; exact mu
  by_cases hb : b = x
  · subst hb; rw [upd_same] at q; cases q; exact new
  · rw [upd_ne hb] at q
    by_cases hbe : b = e
    · have q' : H b = some (.own x) := by
        rcases he with z | z
        · exact absurd (hbe.trans z) hb
        · rw [hbe]; exact z
      rw [q] at q'; cases q'
      obtain ⟨v, hv⟩ := heo
      exact ⟨v, by rw [hbe]; exact hv⟩
    · refine (ok b u q).stay (fun c v hc r => k c v ?_ r) (fun c r => by rw [upd_ne (nown c b r)]; exact r) fun c xs r => by rw [upd_ne (ntup c xs r)]; exact r
      rcases hc with rfl | hc
      · exact hbe
      · rintro rfl
        rcases he with z | z
        · exact nown c b hc z
        · rw [hc] at z; cases z; exact hb rfl
end
structure Un (fs ex : List Addr) (H H' : Hp) (h h' : Heap) : Prop where
  keep : ∀ b o, h.get? b = some o → H b = none → b ∉ fs → b ∉ ex → h'.get? b = some o
  slot : ∀ b o, h.get? b = some o → H b = none → b ∈ fs → b ∉ ex → ∃ sl, h'.get? b = some { o with slots := sl }
  free : ∀ b o, h.get? b = some o → H b = none → b ∉ ex → H' b = none
  there : ∀ b o, h.get? b = some o → b ∉ ex → ∃ o', h'.get? b = some o'
  tups : ∀ b xs, H b = some (.tup xs) → H' b = some (.tup xs)
  frzs : ∀ b o u, H b = some (.frz o u) → H' b = some (.frz o u)
  tbls : ∀ b ps, H b = some (.tbl ps) → ∃ more, H' b = some (.tbl (ps ++ more))
section
variable {fs fs' ex ex' : List Addr} {H H1 H2 : Hp} {h h1 h2 h' : Heap} {a x e : Addr} {o : HO}
theorem Un.any (u : Un fs ex H H1 h h1) {b : Addr} {ob : Obj} (q : h.get? b = some ob) (n : H b = none) (hx : b ∉ ex) : ∃ sl, h1.get? b = some { ob with slots := sl } := by
  by_cases hb : b ∈ fs
  · exact u.slot b ob q n hb hx
  · exact ⟨ob.slots, u.keep b ob q n hb hx⟩
theorem Un.trans (a : Un fs ex H H1 h h1) (b : Un fs ex H1 H2 h1 h2) : Un fs ex H H2 h h2 where
  keep := fun c ob q n hc hx => b.keep c ob (a.keep c ob q n hc hx) (a.free c ob q n hx) hc hx
  slot := fun c ob q n hc hx => by
    obtain ⟨sl, e1⟩ := a.slot c ob q n hc hx
    obtain ⟨sl', e2⟩ := b.slot c _ e1 (a.free c ob q n hx) hc hx
    exact ⟨sl', e2⟩
  free := fun c ob q n hx => by
    obtain ⟨o', e1⟩ := a.there c ob q hx
    exact b.free c o' e1 (a.free c ob q n hx) hx
  there := fun c ob q hx => by
    obtain ⟨o', e1⟩ := a.there c ob q hx
    exact b.there c o' e1 hx
  tups := fun c xs q => b.tups c xs (a.tups c xs q)
  frzs := fun c ob xs q => b.frzs c ob xs (a.frzs c ob xs q)
  tbls := fun c ps q => by
    obtain ⟨m1, e1⟩ := a.tbls c ps q
    obtain ⟨m2, e2⟩ := b.tbls c _ e1
    exact ⟨m1 ++ m2, by rw [e2, Array.append_assoc]⟩
theorem Un.kept (k : ∀ b u, h.get? b = some u → h'.get? b = some u) : Un fs ex H H h h' :=
  ⟨fun b ob q _ _ _ => k b ob q, fun b ob q _ _ _ => ⟨ob.slots, k b ob q⟩, fun _ _ _ n _ => n, fun b ob q _ => ⟨ob, k b ob q⟩, fun _ _ q => q, fun _ _ _ q => q, fun _ ps q => ⟨#[], by rw [q]; simp⟩⟩
theorem Un.refl : Un fs ex H H h h := Un.kept fun _ _ q => q
theorem Un.laid (k : ∀ b u, h.get? b = some u → h'.get? b = some u) (hp : h.objs.size ≤ a) (hn : H a = none) : Un fs ex H (upd H a o) h h' where
  keep := fun b u q _ _ _ => k b u q
  slot := fun b u q _ _ _ => ⟨u.slots, k b u q⟩
  free := fun b u q n _ => by rw [upd_ne (Nat.ne_of_lt (Nat.lt_of_lt_of_le (Heap.lt_size q) hp))]; exact n
  there := fun b u q _ => ⟨u, k b u q⟩
  tups := fun b xs q => by rw [upd_ne (ne_of_none q hn)]; exact q
  frzs := fun b u xs q => by rw [upd_ne (ne_of_none q hn)]; exact q
  tbls := fun b ps q => ⟨#[], by rw [upd_ne (ne_of_none q hn), q]; simp⟩
theorem Un.write (mu : Mut (H x)) (he : e = x ∨ H e = some (.own x)) (k : ∀ b u, b ≠ e → h.get? b = some u → h'.get? b = some u) (heo : ∃ u, h'.get? e = some u) : Un fs ex H (upd H x o) h h' := by
  have hx : ∀ b, H b = none → b ≠ x := fun b n z => by subst z; rw [n] at mu; exact mu
  have hb : ∀ b, H b = none → b ≠ e := fun b n z => by
    subst z
    rcases he with r | r
    · exact hx b n r
    · rw [n] at r; cases r
  have hm : ∀ b u, H b = some u → ¬ Mut (some u) → b ≠ x := fun b u q nm z => by subst z; rw [q] at mu; exact nm mu
  refine ⟨fun b u q n _ _ => k b u (hb b n) q, fun b u q n _ _ => ⟨u.slots, k b u (hb b n) q⟩, fun b u q n _ => by rw [upd_ne (hx b n)]; exact n, fun b u q _ => ?_,
    fun b xs q => by rw [upd_ne (hm b _ q fun z => z)]; exact q, fun b u xs q => by rw [upd_ne (hm b _ q fun z => z)]; exact q, fun b ps q => ⟨#[], by rw [upd_ne (hm b _ q fun z => z), q]; simp⟩⟩
  by_cases hbe : b = e
  · subst hbe; exact heo
  · exact ⟨u, k b u hbe q⟩
theorem Un.mono (u : Un fs ex H H1 h h1) (hs : ∀ b ∈ fs, b ∈ fs') (hx : ∀ b ∈ ex, b ∈ ex') : Un fs' ex' H H1 h h1 :=
  ⟨fun b ob q n hb he => u.keep b ob q n (fun z => hb (hs b z)) fun z => he (hx b z), fun _ _ q n _ he => u.any q n fun z => he (hx _ z), fun b ob q n he => u.free b ob q n fun z => he (hx b z), fun b ob q he => u.there b ob q fun z => he (hx b z), u.tups, u.frzs, u.tbls⟩
end
def trk (h : Heap) (H : Hp) : List Addr := (List.range h.objs.size).filter fun a => (H a).isSome
def hidT (h : Heap) (H : Hp) : Heap := PySem.W.hideAll h (trk h H)
theorem hidT_size (h : Heap) (H : Hp) : (hidT h H).objs.size = h.objs.size := PySem.W.hideAll_size _ _
theorem hidT_get {h : Heap} {H : Hp} {b : Addr} {o : Obj} (e : h.get? b = some o) (n : H b = none) : (hidT h H).get? b = some o :=
  PySem.W.hideAll_get _ e fun hm => by
    have q : (H b).isSome = true := (List.mem_filter.mp hm).2
    rw [n] at q; simp at q
theorem of_hidT {h : Heap} {H : Hp} {b : Addr} {o : Obj} (e : (hidT h H).get? b = some o) : h.get? b = some o ∧ H b = none := by
  have e' : h.get? b = some o := PySem.W.of_hideAll (trk h H) e
  refine ⟨e', ?_⟩
  cases q : H b with
  | none => rfl
  | some x =>
    have hm : b ∈ trk h H := List.mem_filter.mpr ⟨List.mem_range.mpr (Heap.lt_size e'), by simp [q]⟩
    have z : (hidT h H).get? b = none := PySem.W.hideAll_none (trk h H) hm
    rw [z] at e; cases e
def allNews (g h : Heap) (L : Addr) : List (Addr × Obj) := (List.range h.objs.size).filterMap fun a => if a = L ∨ (g.get? a).isSome = true then none else (h.get? a).map fun o => (a, o)
def rest (g h : Heap) (L d : Addr) : List (Addr × Obj) := (allNews g h L).filter fun p => decide (p.1 ≠ d)
end L2
namespace L2
open PySem PySem.Spec PyProof.Rows
structure Mod (K : PySem.W.Frag) (mg : Str → Option Value) (base : Heap) : Prop where
  kin : K.In base
  glob : base.Ns mainGlobals mg
  blt : ∃ mb, base.Ns builtinsNs mb ∧ ∀ x : Str, x ≠ "__name__" → mb x = bootBuiltins x
  nolimit : base.NoLimit
structure Cx where
  prog : Program
  w : World
  K : PySem.W.Frag
  mg : Str → Option Value
  base : Heap
  A : Around
  N : List Str
  s₀ : Shared
  H₀ : Hp
  env : Env
  outer : List Env
  stack : List Env
  ex : List Addr
  fn : Str → Bool
  calm : Bool
  pn : List (Addr × Obj)
  xe : Value → Shared → Prop
def frs (l : List Env) : List Addr := l.filterMap (·.frame)
abbrev Cx.fs (X : Cx) : List Addr := frs X.outer
def Vis (sc : Scope) (x : Str) : Prop := sc.names.lookup x = some .local ∨ sc.names.lookup x = some .cell ∨ sc.names.lookup x = some .free
def Loc (sc : Scope) (x : Str) : Prop := sc.names.lookup x = some .local ∨ sc.names.lookup x = some .cell
def Look (env : Env) (h : Heap) (m : Str → Option Value) (x : Str) (u : Value) : Prop :=
  (env.kindOf x = some .local ∧ m x = some u) ∨ ((env.kindOf x = some .cell ∨ env.kindOf x = some .free) ∧ ∃ c, env.cells.lookup x = some c ∧ h.IsCell c (some u))
structure Cx.Ok (X : Cx) : Prop where
  mod : Mod X.K X.mg X.base
  kind : X.env.scope.kind = .function
  glob : X.env.globals = mainGlobals
  blt : X.env.builtins = builtinsNs
  above : X.s₀.heap.objs.size ≤ X.env.locals
  inj : ∀ x y c, X.env.cells.lookup x = some c → X.env.cells.lookup y = some c → x = y
  has : ∀ x, (X.env.kindOf x = some .cell ∨ X.env.kindOf x = some .free) → ∃ c, X.env.cells.lookup x = some c
  cab : ∀ x c, X.fn x = true → X.env.cells.lookup x = some c → X.s₀.heap.objs.size ≤ c
  hd : X.calm = true → X.A.handled = none
  frames : X.A.frames = some X.stack
  stk : X.stack = X.outer ∨ (X.stack = X.env :: X.outer ∧ X.env.frame = some X.env.locals)
  exf : ∀ b ∈ X.ex, b ≠ X.env.locals ∧ ∀ x c, X.env.cells.lookup x = some c → c ≠ b
  bs : ∀ b o, X.base.get? b = some o → X.s₀.heap.get? b = some o ∧ X.H₀ b = none
  bsz : X.base.objs.size ≤ X.s₀.heap.objs.size
  noex : ∀ b o, X.base.get? b = some o → b ∉ X.ex
  exfs : ∀ b ∈ X.ex, b ∉ X.fs
  funs : X.s₀.heap.FunFrames X.base X.outer
  frf : ∀ b ∈ X.fs, X.H₀ b = none
structure Inv (X : Cx) (pins : List (Addr × Obj)) (σ : List (Option V)) (H : Hp) (s : Shared) : Prop where
  ok : X.Ok
  os : s.os = X.s₀.os
  bare : AllBare s.gens
  base : Un X.fs X.ex X.H₀ H X.s₀.heap s.heap
  loc : ∃ m, s.heap.Ns X.env.locals m ∧ ∀ (i : Nat) (x : Str) (v : V), X.N[i]? = some x → σ[i]? = some (some v) → Vis X.env.scope x → ∃ u, RelV v u ∧ Look X.env s.heap m x u
  cell : ∀ x c, X.env.cells.lookup x = some c → ∃ v, s.heap.IsCell c v
  free : H X.env.locals = none
  freeC : ∀ x c, X.env.cells.lookup x = some c → H c = none
  pin : ∀ p ∈ X.pn ++ pins, s.heap.get? p.1 = some p.2 ∧ H p.1 = none ∧ p.1 ≠ X.env.locals ∧ p.1 ∉ X.fs ∧ ∀ v, p.2.data ≠ .cell v
  hok : HOk X.prog X.w H s.heap
  len : σ.length = X.N.length
section
variable {X : Cx} {pins : List (Addr × Obj)} {σ : List (Option V)} {H H' : Hp} {s : Shared} {h' : Heap}
theorem Cx.Ok.nofr (ok : X.Ok) {b : Addr} {o : Obj} (e : X.base.get? b = some o) : b ∉ X.fs := fun hb => by
  have := (ok.funs.mem hb).1
  rw [e] at this; cases this
theorem Inv.bs (I : Inv X pins σ H s) : ∀ b o, X.base.get? b = some o → s.heap.get? b = some o ∧ H b = none := fun b o e =>
  ⟨I.base.keep b o (I.ok.bs b o e).1 (I.ok.bs b o e).2 (I.ok.nofr e) (I.ok.noex b o e), I.base.free b o (I.ok.bs b o e).1 (I.ok.bs b o e).2 (I.ok.noex b o e)⟩
theorem Inv.bk (I : Inv X pins σ H s) : ∀ b o, X.base.get? b = some o → s.heap.get? b = some o := fun b o e => (I.bs b o e).1
theorem Inv.mod (I : Inv X pins σ H s) : Mod X.K X.mg X.base := I.ok.mod
theorem Inv.kIn (I : Inv X pins σ H s) : X.K.In s.heap := I.ok.mod.kin.keeps I.bk
theorem Inv.nolimit (I : Inv X pins σ H s) : s.heap.NoLimit := I.ok.mod.nolimit.keeps I.bk
theorem Inv.fr (I : Inv X pins σ H s) : ∃ m, Fr X.base X.env.locals s.heap m :=
  let ⟨m, hn, _⟩ := I.loc
  ⟨m, hn, I.bk, Nat.le_trans I.ok.bsz I.ok.above⟩
theorem Inv.lt (I : Inv X pins σ H s) : X.env.locals < s.heap.objs.size := let ⟨_, hn, _⟩ := I.loc; hn.lt
theorem Inv.sz (I : Inv X pins σ H s) : X.s₀.heap.objs.size ≤ s.heap.objs.size := Nat.le_trans I.ok.above (Nat.le_of_lt I.lt)
theorem Inv.nofs (I : Inv X pins σ H s) {a : Addr} (h : s.heap.objs.size ≤ a) : a ∉ X.fs := fun hb => by
  obtain ⟨_, o, ho, _⟩ := I.ok.funs.mem hb
  exact absurd (Nat.lt_of_lt_of_le (Heap.lt_size ho) (Nat.le_trans I.sz h)) (Nat.lt_irrefl _)
theorem Inv.cne (I : Inv X pins σ H s) : ∀ x c, X.env.cells.lookup x = some c → c ≠ X.env.locals := fun x c e z => by
  obtain ⟨v, o, ho, hd⟩ := I.cell x c e
  obtain ⟨m, ⟨o', es, ep, ho', hd', _⟩, _⟩ := I.loc
  rw [z, ho'] at ho; cases ho; rw [hd'] at hd; cases hd
theorem Inv.funs (I : Inv X pins σ H s) : s.heap.FunFrames X.base X.outer := by
  have all : ∀ (l : List Env), (∀ b ∈ frs l, b ∈ X.fs) → X.s₀.heap.FunFrames X.base l → s.heap.FunFrames X.base l := by
    intro l
    induction l with
    | nil => intro _ _; trivial
    | cons env r ih =>
      intro hs hl
      obtain ⟨hk, ⟨L, o, hf, hn, ho, hd⟩, hr⟩ := hl
      have hL : L ∈ X.fs := hs L (by unfold frs; rw [List.filterMap_cons, hf]; exact List.mem_cons_self)
      obtain ⟨sl, e⟩ := I.base.slot L o ho (I.ok.frf L hL) hL fun z => I.ok.exfs L z hL
      exact ⟨hk, ⟨L, _, hf, hn, e, hd⟩, ih (fun b hb => hs b (by unfold frs; rw [List.filterMap_cons, hf]; exact List.mem_cons_of_mem _ hb)) hr⟩
  exact all X.outer (fun _ hb => hb) I.ok.funs
theorem Inv.stack (I : Inv X pins σ H s) : s.heap.FunFrames X.base X.stack := by
  rcases I.ok.stk with e | ⟨e, hf⟩
  · rw [e]; exact I.funs
  · rw [e]
    obtain ⟨m, hn, _⟩ := I.loc
    refine .cons (by rw [I.ok.kind]; decide) hf hn ?_ I.funs
    exact Heap.get?_none_of_le (Nat.le_trans I.ok.bsz I.ok.above)
theorem Inv.stkSub (I : Inv X pins σ H s) : ∀ b ∈ frs X.stack, b ∈ X.env.locals :: X.fs := fun b hb => by
  rcases I.ok.stk with e | ⟨e, hf⟩
  · rw [e] at hb; exact List.mem_cons_of_mem _ hb
  · rw [e] at hb
    unfold frs at hb
    rw [List.filterMap_cons, hf] at hb
    exact hb
theorem Inv.stkFree (I : Inv X pins σ H s) : ∀ b ∈ frs X.stack, H b = none := fun b hb => by
  rcases List.mem_cons.mp (I.stkSub b hb) with e | hb
  · rw [e]; exact I.free
  · obtain ⟨_, o, ho, _⟩ := I.ok.funs.mem hb
    exact I.base.free b o ho (I.ok.frf b hb) fun z => I.ok.exfs b z hb
theorem Inv.step {g' : Array GenState} {t' : Nat} {d' : Drawn} {ch : List Addr} (I : Inv X pins σ H s)
    (hch : ∀ b ∈ ch, (b ∈ X.ex ∨ X.s₀.heap.objs.size ≤ b) ∧ b ≠ X.env.locals ∧ (∀ x c, X.env.cells.lookup x = some c → c ≠ b) ∧ ∀ p ∈ X.pn ++ pins, p.1 ≠ b)
    (keep : ∀ b o, b ≠ X.env.locals → b ∉ X.fs → b ∉ ch → s.heap.get? b = some o → H b = none → h'.get? b = some o)
    (slot : ∀ b o, b ≠ X.env.locals → b ∈ X.fs → b ∉ ch → s.heap.get? b = some o → H b = none → ∃ sl, h'.get? b = some { o with slots := sl }) (free : ∀ b o, b ∉ ch → s.heap.get? b = some o → H b = none → H' b = none)
    (there : ∀ b o, b ∉ ch → s.heap.get? b = some o → ∃ o', h'.get? b = some o')
    (tups : ∀ b xs, H b = some (.tup xs) → H' b = some (.tup xs)) (frzs : ∀ b o u, H b = some (.frz o u) → H' b = some (.frz o u)) (tbls : ∀ b ps, H b = some (.tbl ps) → ∃ more, H' b = some (.tbl (ps ++ more)))
    (ns : ∀ m, s.heap.Ns X.env.locals m → h'.Ns X.env.locals m) (hok : HOk X.prog X.w H' h') (hg : AllBare g') :
    Inv X pins σ H' { s with heap := h', gens := g', drawn := d', toks := t' } := by
  have neL : ∀ b o, X.s₀.heap.get? b = some o → b ≠ X.env.locals := fun b o e => Nat.ne_of_lt (Nat.lt_of_lt_of_le (Heap.lt_size e) I.ok.above)
  have neC : ∀ b o, X.s₀.heap.get? b = some o → b ∉ X.ex → b ∉ ch := fun b o e hx hb => by
    rcases (hch b hb).1 with z | z
    · exact hx z
    · exact absurd (Nat.lt_of_lt_of_le (Heap.lt_size e) z) (Nat.lt_irrefl _)
  have cellK : ∀ x c, X.env.cells.lookup x = some c → ∀ v, s.heap.IsCell c v → h'.IsCell c v := fun x c e v ⟨o, ho, hd⟩ => by
    have nch : c ∉ ch := fun z => (hch c z).2.2.1 x c e rfl
    by_cases hc : c ∈ X.fs
    · obtain ⟨sl, q⟩ := slot c o (I.cne x c e) hc nch ho (I.freeC x c e)
      exact ⟨_, q, hd⟩
    · exact ⟨o, keep c o (I.cne x c e) hc nch ho (I.freeC x c e), hd⟩
  refine ⟨I.ok, I.os, hg, ⟨fun b o e n hb hx => ?_, fun b o e n hb hx => ?_, fun b o e n hx => ?_, fun b o e hx => ?_, fun b xs e => tups b xs (I.base.tups b xs e), fun b o xs e => frzs b o xs (I.base.frzs b o xs e), fun b ps e => ?_⟩, ?_, fun x c e => ?_, ?_, fun x c e => ?_, fun p hp => ?_, hok, I.len⟩
  · exact keep b o (neL b o e) hb (neC b o e hx) (I.base.keep b o e n hb hx) (I.base.free b o e n hx)
  · obtain ⟨sl, e1⟩ := I.base.slot b o e n hb hx
    obtain ⟨sl', e2⟩ := slot b _ (neL b o e) hb (neC b o e hx) e1 (I.base.free b o e n hx)
    exact ⟨sl', e2⟩
  · obtain ⟨o', e1⟩ := I.base.there b o e hx
    exact free b o' (neC b o e hx) e1 (I.base.free b o e n hx)
  · obtain ⟨o', e1⟩ := I.base.there b o e hx
    exact there b o' (neC b o e hx) e1
  · obtain ⟨m1, e1⟩ := I.base.tbls b ps e
    obtain ⟨m2, e2⟩ := tbls b _ e1
    exact ⟨m1 ++ m2, by rw [e2, Array.append_assoc]⟩
  · obtain ⟨m, hn, hl⟩ := I.loc
    refine ⟨m, ns m hn, fun i x v e1 e2 e3 => ?_⟩
    obtain ⟨u, r, l⟩ := hl i x v e1 e2 e3
    refine ⟨u, r, ?_⟩
    rcases l with l | ⟨k, c, e, z⟩
    · exact .inl l
    · exact .inr ⟨k, c, e, cellK x c e _ z⟩
  · obtain ⟨v, z⟩ := I.cell x c e
    exact ⟨v, cellK x c e v z⟩
  · obtain ⟨m, ⟨o, _, _, ho, _⟩, _⟩ := I.loc
    exact free _ o (fun z => (hch _ z).2.1 rfl) ho I.free
  · obtain ⟨v, o, ho, hd⟩ := I.cell x c e
    exact free c o (fun z => (hch c z).2.2.1 x c e rfl) ho (I.freeC x c e)
  · obtain ⟨e, n, ne, nf, d⟩ := I.pin p hp
    have nch : p.1 ∉ ch := fun z => (hch p.1 z).2.2.2 p hp rfl
    exact ⟨keep p.1 p.2 ne nf nch e n, free p.1 p.2 nch e n, ne, nf, d⟩
theorem Inv.un {t' : Nat} (I : Inv X pins σ H s) (u : Un X.fs [] H H' s.heap h') (hok : HOk X.prog X.w H' h') : Inv X pins σ H' { s with heap := h', toks := t' } := by
  obtain ⟨m, ⟨o, es, ep, ho, r⟩, _⟩ := id I.loc
  obtain ⟨sl, hL⟩ := u.any ho I.free (by simp)
  exact I.step (g' := s.gens) (d' := s.drawn) (ch := []) (fun _ z => nomatch z) (fun b o _ hb _ e n => u.keep b o e n hb (by simp)) (fun b o _ hb _ e n => u.slot b o e n hb (by simp)) (fun b o _ e n => u.free b o e n (by simp)) (fun b o _ e => u.there b o e (by simp)) u.tups u.frzs u.tbls (fun m' hm => by
    obtain ⟨o', es', ep', ho', r'⟩ := hm
    rw [ho] at ho'; cases ho'
    exact ⟨_, es', ep', hL, r'⟩) hok I.bare
theorem Inv.call {g' : Array GenState} {t' : Nat} {d' : Drawn} {ch : List Addr} (I : Inv X pins σ H s) (u : Un (frs X.stack) ch H H' s.heap h') (hok : HOk X.prog X.w H' h') (hg : AllBare g')
    (hch : ∀ b ∈ ch, (b ∈ X.ex ∨ X.s₀.heap.objs.size ≤ b) ∧ b ≠ X.env.locals ∧ (∀ x c, X.env.cells.lookup x = some c → c ≠ b) ∧ ∀ p ∈ X.pn ++ pins, p.1 ≠ b) :
    Inv X pins σ H' { s with heap := h', gens := g', drawn := d', toks := t' } := by
  obtain ⟨m, ⟨o, es, ep, ho, r⟩, _⟩ := id I.loc
  obtain ⟨sl, hL⟩ := u.any ho I.free fun z => (hch _ z).2.1 rfl
  exact I.step (ch := ch) hch (fun b o hL hb hc e n => u.keep b o e n (fun z => (List.mem_cons.mp (I.stkSub b z)).elim hL hb) hc) (fun b o _ _ hc e n => u.any e n hc) (fun b o hc e n => u.free b o e n hc) (fun b o hc e => u.there b o e hc) u.tups u.frzs u.tbls (fun m' hm => by
    obtain ⟨o', es', ep', ho', r'⟩ := hm
    rw [ho] at ho'; cases ho'
    exact ⟨_, es', ep', hL, r'⟩) hok hg
theorem Inv.turned {t' : Nat} {it : Addr} (I : Inv X pins σ H s) (k : ∀ b o, b ≠ it → s.heap.get? b = some o → h'.get? b = some o) (hn : H it = none) (hL : it ≠ X.env.locals)
    (h1 : it ∈ X.ex ∨ X.s₀.heap.objs.size ≤ it) (h2 : ∀ x c, X.env.cells.lookup x = some c → c ≠ it) (h3 : ∀ p ∈ X.pn ++ pins, p.1 ≠ it) : Inv X pins σ H { s with heap := h', toks := t' } := by
  have nit : ∀ b u, H b = some u → b ≠ it := fun b u e z => by rw [z, hn] at e; cases e
  refine I.step (g' := s.gens) (d' := s.drawn) (ch := [it]) (fun b hb => ?_) (fun b o _ _ hc e _ => k b o (fun z => hc (by simp [z])) e) (fun b o _ _ hc e _ => ⟨o.slots, k b o (fun z => hc (by simp [z])) e⟩) (fun _ _ _ _ n => n)
    (fun b o hc e => ⟨o, k b o (fun z => hc (by simp [z])) e⟩) (fun _ _ e => e) (fun _ _ _ e => e) (fun b ps e => ⟨#[], by rw [e]; simp⟩) (fun m hm => ?_) (fun b u e => ?_) I.bare
  · have e : b = it := by simpa using hb
    subst e
    exact ⟨h1, hL, h2, h3⟩
  · obtain ⟨o, es, ep, ho, r⟩ := hm
    exact ⟨o, es, ep, k _ o (Ne.symm hL) ho, r⟩
  · refine (I.hok b u e).stay (fun c v hc q => k c v ?_ q) (fun _ q => q) fun _ _ q => q
    rcases hc with z | z
    · rw [z]; exact nit b u e
    · exact nit c _ z
theorem Inv.tok (I : Inv X pins σ H s) (t : Nat) : Inv X pins σ H { s with toks := t } := I.un (h' := s.heap) (t' := t) Un.refl I.hok
theorem Inv.kept {t' : Nat} (I : Inv X pins σ H s) (k : ∀ b u, s.heap.get? b = some u → h'.get? b = some u) : Inv X pins σ H { s with heap := h', toks := t' } := I.un (Un.kept k) (I.hok.kept k)
theorem Inv.laid {a : Addr} {o : HO} {t' : Nat} (I : Inv X pins σ H s) (k : ∀ b u, s.heap.get? b = some u → h'.get? b = some u) (hp : s.heap.objs.size ≤ a) (new : ObjOk X.prog X.w (upd H a o) h' a o) :
    Inv X pins σ (upd H a o) { s with heap := h', toks := t' } := I.un (Un.laid k hp (I.hok.fresh hp)) (I.hok.laid k hp new)
theorem Inv.write {x e : Addr} {o : HO} {t' : Nat} (I : Inv X pins σ H s) (mu : Mut (H x)) (he : e = x ∨ H e = some (.own x)) (k : ∀ b u, b ≠ e → s.heap.get? b = some u → h'.get? b = some u) (heo : ∃ u, h'.get? e = some u)
    (new : ObjOk X.prog X.w (upd H x o) h' x o) : Inv X pins σ (upd H x o) { s with heap := h', toks := t' } := I.un (Un.write mu he k heo) (I.hok.write mu he k heo new)
theorem Inv.weak {σ' : List (Option V)} (I : Inv X pins σ H s) (hl : σ'.length = σ.length) (w : ∀ (i : Nat) v, σ'[i]? = some (some v) → σ[i]? = some (some v)) : Inv X pins σ' H s :=
  ⟨I.ok, I.os, I.bare, I.base, let ⟨m, hn, hl'⟩ := I.loc; ⟨m, hn, fun i x v e1 e2 e3 => hl' i x v e1 (w i v e2) e3⟩, I.cell, I.free, I.freeC, I.pin, I.hok, hl.trans I.len⟩
def Calm (X : Cx) : Prop := X.calm = true ∨ ∃ (ea C : Addr) (dx : Option Addr) (vs : Array Value) (sl : Array (Option Value)), X.A.handled = some (.ref ea) ∧ vs[2]? = some Value.none ∧ (ea, (⟨.ref C, dx, .fields vs, sl⟩ : Obj)) ∈ X.pn
theorem calm0 {X : Cx} (h : X.calm = true) : Calm X := .inl h
theorem Inv.calm (I : Inv X pins σ H s) (c : Calm X) : Hd X.A s.heap := by
  rcases c with c | ⟨ea, C, dx, vs, sl, h1, h2, h3⟩
  · exact .inl (I.ok.hd c)
  · exact .inr ⟨ea, C, dx, vs, sl, h1, (I.pin _ (List.mem_append_left _ h3)).1, h2⟩
theorem Inv.pins_of {pins' : List (Addr × Obj)} (I : Inv X pins σ H s) (h : ∀ p ∈ pins', s.heap.get? p.1 = some p.2 ∧ H p.1 = none ∧ p.1 ≠ X.env.locals ∧ p.1 ∉ X.fs ∧ ∀ v, p.2.data ≠ .cell v) : Inv X pins' σ H s :=
  ⟨I.ok, I.os, I.bare, I.base, I.loc, I.cell, I.free, I.freeC, fun p hp => (List.mem_append.mp hp).elim (fun z => I.pin p (List.mem_append_left _ z)) (h p), I.hok, I.len⟩
theorem nodup_ix {N : List Str} (hN : N.Nodup) {i j : Nat} {x : Str} (a : N[i]? = some x) (b : N[j]? = some x) : i = j := by
  obtain ⟨h1, e1⟩ := List.getElem?_eq_some_iff.mp a
  obtain ⟨h2, e2⟩ := List.getElem?_eq_some_iff.mp b
  exact (List.getElem_inj hN).mp (e1.trans e2.symm)
theorem store_ok2 {M : Model} {A : Around} {E : Value → Shared → Prop} {i : Nat} {x : Str} {v : V} {u : Value} {Q : Unit → Shared → Prop} (I : Inv X pins σ H s) (hN : X.N.Nodup) (hi : X.N[i]? = some x) (hx : Loc X.env.scope x) (r : RelV v u)
    (h : ∀ s', Inv X pins (σ.set i (some v)) H s' → (∃ a, Heap.SameBut a s.heap s'.heap ∧ (a = X.env.locals ∨ X.env.cells.lookup x = some a)) → Q () s') (hf : X.fn x = true ∨ X.env.scope.names.lookup x = some .local := by first | exact .inl rfl | exact .inr rfl | assumption) : wpAny M A (storeName X.env x u) Q E s := by
  obtain ⟨m, hn, hl⟩ := id I.loc
  have hcls : (X.env.scope.kind == .class || (X.env.scope.kind == .module && X.env.locals != X.env.globals)) = false := by rw [I.ok.kind]; rfl
  have hiσ : i < σ.length := by rw [I.len]; exact (List.getElem?_eq_some_iff.mp hi).1
  have cne := I.cne
  have tracked : ∀ {a : Addr} {h' : Heap}, (∃ o, s.heap.get? a = some o ∧ H a = none) → Heap.SameBut a s.heap h' → HOk X.prog X.w H h' := fun {a h'} ha hs b ob e => by
    obtain ⟨_, _, hfree⟩ := ha
    refine (I.hok b ob e).stay (fun c w' hc q => (hs.2 c ?_).trans q) (fun _ q => q) fun _ _ q => q
    rintro rfl
    rcases hc with rfl | hc
    · rw [hfree] at e; cases e
    · rw [hfree] at hc; cases hc
  rcases hx with hk | hk
  · refine wpAny_storeName_local hk hn (fun h' hn' hs => ?_) hcls
    obtain ⟨oL, _, _, hoL, _⟩ := id hn
    refine h _ ⟨I.ok, I.os, I.bare, ⟨fun b o e n hb hx => ?_, fun b o e n hb hx => ?_, I.base.free, fun b o e hx => ?_, I.base.tups, I.base.frzs, I.base.tbls⟩, ⟨_, hn', fun j y v' e1 e2 e3 => ?_⟩, fun y c e => ?_, I.free, I.freeC, fun p hp => ?_, tracked ⟨oL, hoL, I.free⟩ hs, by simpa using I.len⟩ ⟨_, hs, .inl rfl⟩
    · exact (hs.2 b (Nat.ne_of_lt (Nat.lt_of_lt_of_le (Heap.lt_size e) I.ok.above))).trans (I.base.keep b o e n hb hx)
    · obtain ⟨sl, e1⟩ := I.base.slot b o e n hb hx
      exact ⟨sl, (hs.2 b (Nat.ne_of_lt (Nat.lt_of_lt_of_le (Heap.lt_size e) I.ok.above))).trans e1⟩
    · obtain ⟨o', e1⟩ := I.base.there b o e hx
      exact ⟨o', (hs.2 b (Nat.ne_of_lt (Nat.lt_of_lt_of_le (Heap.lt_size e) I.ok.above))).trans e1⟩
    · by_cases hj : j = i
      · subst hj
        rw [hi] at e1; cases e1
        rw [List.getElem?_set_self hiσ] at e2
        cases e2
        exact ⟨u, r, .inl ⟨hk, by simp⟩⟩
      · rw [List.getElem?_set_ne (Ne.symm hj)] at e2
        obtain ⟨u', r', q⟩ := hl j y v' e1 e2 e3
        refine ⟨u', r', ?_⟩
        rcases q with ⟨k, e⟩ | ⟨k, c, e, z⟩
        · refine .inl ⟨k, ?_⟩
          have : y ≠ x := fun e => hj (nodup_ix hN e1 (e ▸ hi))
          simp [this, e]
        · exact .inr ⟨k, c, e, z.sameBut hs (cne y c e)⟩
    · obtain ⟨w', z⟩ := I.cell y c e
      exact ⟨w', z.sameBut hs (cne y c e)⟩
    · obtain ⟨e, n, ne, nf, d⟩ := I.pin p hp
      exact ⟨(hs.2 p.1 ne).trans e, n, ne, nf, d⟩
  · have hfn : X.fn x = true := by
      rcases hf with z | z
      · exact z
      · rw [z] at hk; cases hk
    obtain ⟨c, hc⟩ := I.ok.has x (.inl hk)
    obtain ⟨w', z⟩ := I.cell x c hc
    refine wpAny_storeName_cell I.ok.kind hk hc z (fun h' hc' hs => ?_)
    obtain ⟨oc, hoc, hocd⟩ := id z
    refine h { s with heap := h' } ⟨I.ok, I.os, I.bare, ⟨fun b o e n hb hx => ?_, fun b o e n hb hx => ?_, I.base.free, fun b o e hx => ?_, I.base.tups, I.base.frzs, I.base.tbls⟩, ⟨m, hn.sameBut hs (Ne.symm (cne x c hc)), fun j y v' e1 e2 e3 => ?_⟩, fun y c' e => ?_, I.free, I.freeC, fun p hp => ?_, tracked ⟨oc, hoc, I.freeC x c hc⟩ hs, by simpa using I.len⟩ ⟨c, hs, .inr hc⟩
    · exact (hs.2 b (Nat.ne_of_lt (Nat.lt_of_lt_of_le (Heap.lt_size e) (I.ok.cab x c hfn hc)))).trans (I.base.keep b o e n hb hx)
    · obtain ⟨sl, e1⟩ := I.base.slot b o e n hb hx
      exact ⟨sl, (hs.2 b (Nat.ne_of_lt (Nat.lt_of_lt_of_le (Heap.lt_size e) (I.ok.cab x c hfn hc)))).trans e1⟩
    · obtain ⟨o', e1⟩ := I.base.there b o e hx
      exact ⟨o', (hs.2 b (Nat.ne_of_lt (Nat.lt_of_lt_of_le (Heap.lt_size e) (I.ok.cab x c hfn hc)))).trans e1⟩
    · by_cases hj : j = i
      · subst hj
        rw [hi] at e1; cases e1
        rw [List.getElem?_set_self hiσ] at e2
        cases e2
        exact ⟨u, r, .inr ⟨.inl hk, c, hc, hc'⟩⟩
      · rw [List.getElem?_set_ne (Ne.symm hj)] at e2
        obtain ⟨u', r', q⟩ := hl j y v' e1 e2 e3
        refine ⟨u', r', ?_⟩
        rcases q with q | ⟨k, c', e, z'⟩
        · exact .inl q
        · refine .inr ⟨k, c', e, z'.sameBut hs ?_⟩
          rintro rfl
          exact hj (nodup_ix hN e1 (I.ok.inj _ _ _ e hc ▸ hi))
    · by_cases hcc : c' = c
      · subst hcc; exact ⟨_, hc'⟩
      · obtain ⟨w2, z2⟩ := I.cell y c' e
        exact ⟨w2, z2.sameBut hs hcc⟩
    · obtain ⟨e, n, ne, nf, d⟩ := I.pin p hp
      refine ⟨(hs.2 p.1 ?_).trans e, n, ne, nf, d⟩
      intro q
      rw [q, hoc] at e
      have q' : oc = p.2 := Option.some.inj e
      exact d w' (by rw [← q']; exact hocd)
theorem store_ok {M : Model} {A : Around} {E : Value → Shared → Prop} {i : Nat} {x : Str} {v : V} {u : Value} {Q : Unit → Shared → Prop} (I : Inv X pins σ H s) (hN : X.N.Nodup) (hi : X.N[i]? = some x) (hx : Loc X.env.scope x) (r : RelV v u)
    (h : ∀ s', Inv X pins (σ.set i (some v)) H s' → Q () s') (hf : X.fn x = true ∨ X.env.scope.names.lookup x = some .local := by first | exact .inl rfl | exact .inr rfl | assumption) : wpAny M A (storeName X.env x u) Q E s :=
  store_ok2 I hN hi hx r (fun s' I' _ => h s' I') hf
theorem Inv.call' {s' : Shared} {ch : List Addr} (I : Inv X pins σ H s) (ho : s'.os = s.os) (u : Un (frs X.stack) ch H H' s.heap s'.heap) (hok : HOk X.prog X.w H' s'.heap) (hg : AllBare s'.gens)
    (hch : ∀ b ∈ ch, (b ∈ X.ex ∨ X.s₀.heap.objs.size ≤ b) ∧ b ≠ X.env.locals ∧ (∀ x c, X.env.cells.lookup x = some c → c ≠ b) ∧ ∀ p ∈ X.pn ++ pins, p.1 ≠ b) : Inv X pins σ H' s' := by
  obtain ⟨h', g', d', t', o'⟩ := s'
  have e : o' = s.os := ho
  subst e
  exact I.call (g' := g') (t' := t') (d' := d') u hok hg hch
end
abbrev XK := Value → Option Addr → Hp → Prop
abbrev St := List (Option V)
abbrev VK := V → Hp → Prop
abbrev TE := St → Hp → VK → Prop
abbrev TT := St → Hp → (Bool → Hp → Prop) → Prop
abbrev TA := St → Hp → (List V → Hp → Prop) → Prop
structure Ends where
  nx : St → Hp → Prop
  rt : VK
  bk : St → Hp → Prop := fun _ _ => False
  ct : St → Hp → Prop := fun _ _ => False
abbrev TS := Ends → St → Hp → Prop
def EP (X : Cx) (pins : List (Addr × Obj)) (σ : St) (Q : VK) (u : Value) (s' : Shared) : Prop := ∃ v H', Inv X pins σ H' s' ∧ RelV v u ∧ Q v H'
def TP (X : Cx) (pins : List (Addr × Obj)) (σ : St) (Q : Bool → Hp → Prop) (b : Bool) (s' : Shared) : Prop := ∃ H', Inv X pins σ H' s' ∧ Q b H'
def AP (X : Cx) (pins : List (Addr × Obj)) (σ : St) (Q : List V → Hp → Prop) (us : List Value) (s' : Shared) : Prop := ∃ vs H', Inv X pins σ H' s' ∧ Vals vs us ∧ Q vs H'
def SP (X : Cx) (pins : List (Addr × Obj)) (D : Ends) (f : Flow) (s' : Shared) : Prop :=
  match f with
  | .next => ∃ σ' H', Inv X pins σ' H' s' ∧ D.nx σ' H'
  | .brk => ∃ σ' H', Inv X pins σ' H' s' ∧ D.bk σ' H'
  | .cont => ∃ σ' H', Inv X pins σ' H' s' ∧ D.ct σ' H'
  | .ret u => ∃ v σ' H', Inv X pins σ' H' s' ∧ RelV v u ∧ D.rt v H'
def PE (X : Cx) (e : Expr) (t : TE) : Prop :=
  ∀ (pins : List (Addr × Obj)) (s : Shared) (σ : St) (H : Hp) (Q : VK), Inv X pins σ H s → t σ H Q → wpAny (model X.prog X.w) X.A (eval e X.env) (EP X pins σ Q) X.xe s
def PT (X : Cx) (e : Expr) (t : TT) : Prop :=
  ∀ (pins : List (Addr × Obj)) (s : Shared) (σ : St) (H : Hp) (Q : Bool → Hp → Prop), Inv X pins σ H s → t σ H Q → wpAny (model X.prog X.w) X.A (isTrue e X.env (eval e X.env)) (TP X pins σ Q) X.xe s
def PW (X : Cx) (e : Expr) (t : TT) : Prop :=
  ∀ (whole : Sem Value) (pins : List (Addr × Obj)) (s : Shared) (σ : St) (H : Hp) (Q : Bool → Hp → Prop), Inv X pins σ H s → t σ H Q → wpAny (model X.prog X.w) X.A (isTrue e X.env whole) (TP X pins σ Q) X.xe s
theorem PW.pt {X : Cx} {e : Expr} {t : TT} (h : PW X e t) : PT X e t := h _
def PA (X : Cx) (es : List Expr) (t : TA) : Prop :=
  ∀ (pos : Pos) (pins : List (Addr × Obj)) (s : Shared) (σ : St) (H : Hp) (Q : List V → Hp → Prop), Inv X pins σ H s → t σ H Q → wpAny (model X.prog X.w) X.A (spliced (backTo pos (starEach es X.env))) (AP X pins σ Q) X.xe s
def PS (X : Cx) (st : Stmt) (t : TS) : Prop :=
  ∀ (pins : List (Addr × Obj)) (s : Shared) (σ : St) (H : Hp) (D : Ends), Inv X pins σ H s → t D σ H → wpAny (model X.prog X.w) X.A (exec st X.env) (SP X pins D) X.xe s
def PSs (X : Cx) (st : List Stmt) (t : TS) : Prop :=
  ∀ (pins : List (Addr × Obj)) (s : Shared) (σ : St) (H : Hp) (D : Ends), Inv X pins σ H s → t D σ H → wpAny (model X.prog X.w) X.A (execs st X.env) (SP X pins D) X.xe s
theorem thn {α : Type} {t : Sem α} {Q Q' : α → Shared → Prop} {M : Model} {A : Around} {E : Value → Shared → Prop} {s : Shared} (h : wpAny M A t Q E s) (hQ : ∀ a s, Q a s → Q' a s) : wpAny M A t Q' E s := wpAny_mono h hQ fun _ _ x => x
end L2
namespace L2
open PySem PySem.Spec PyProof.Rows
section
variable {X : Cx}
def tVar (i : Nat) : TE := fun σ H Q => ∃ v, σ[i]? = some (some v) ∧ Q v H
def tC (v : V) : TE := fun _ H Q => Q v H
theorem pe_var {i : Nat} {x : Str} {pos : Pos} (hN : X.N[i]? = some x) (hv : Vis X.env.scope x) (hd : (x == ("__debug__" : Str)) = false := by decide) (hcd : (x == ("__classdict__" : Str)) = false := by decide) : PE X (.Name x pos) (tVar i) := by
  intro pins s σ H Q I h
  obtain ⟨v, e, h⟩ := h
  obtain ⟨m, hn, hl⟩ := I.loc
  obtain ⟨u, r, l⟩ := hl i x v hN e hv
  have fin : EP X pins σ Q u s := ⟨v, H, I, r, h⟩
  rcases l with ⟨hk, hm⟩ | ⟨hk, c, hc, hcell⟩
  · exact wpAny_Name (wpAny_loadName_local I.ok.kind hk hn hm fin) hd
  · rcases hk with hk | hk
    · exact wpAny_Name (wpAny_loadName_cell I.ok.kind hk hc hcell fin) hd
    · exact wpAny_Name (wpAny_loadName_free I.ok.kind hk hc hcell fin hcd) hd
theorem pe_int {i j pos} : PE X (.Constant (.int i) j pos) (tC (.int i)) := fun _ _ _ H _ I h => wpAny_Constant_int ⟨.int i, H, I.tok _, ⟨_, rfl⟩, h⟩
theorem pe_bl {b j pos} : PE X (.Constant (.bool b) j pos) (tC (.bl b)) := fun _ _ _ H _ I h => Constant_bool ⟨.bl b, H, I, rfl, h⟩
theorem pe_non {j pos} : PE X (.Constant .none j pos) (tC .non) := fun _ _ _ H _ I h => Constant_none ⟨.non, H, I, rfl, h⟩
theorem pe_str {x j pos} : PE X (.Constant (.str x) j pos) (tC (.str x)) := fun _ _ _ H _ I h => Calls.Constant_str ⟨.str x, H, I.tok _, ⟨_, rfl⟩, h⟩
def Gl (X : Cx) (x : Str) : Prop := X.env.kindOf x = some .globalImplicit
theorem ld_glob {E : Value → Shared → Prop} {pins : List (Addr × Obj)} {s : Shared} {σ : St} {H : Hp} {x : Str} {u : Value} {pos : Pos} {Q : Value → Shared → Prop} (I : Inv X pins σ H s) (hg : Gl X x) (hm : X.mg x = some u) (h : Q u s)
    (hd : (x == ("__debug__" : Str)) = false := by decide) : wpAny (model X.prog X.w) X.A (eval (.Name x pos) X.env) Q E s :=
  Calls.Name_function_global I.ok.kind hg (Calls.loadGlobal_global (by rw [I.ok.glob]; exact I.mod.glob.keeps I.bk) hm h) hd
theorem ld_blt {E : Value → Shared → Prop} {pins : List (Addr × Obj)} {s : Shared} {σ : St} {H : Hp} {x : Str} {u : Value} {pos : Pos} {Q : Value → Shared → Prop} (I : Inv X pins σ H s) (hg : Gl X x) (hm : X.mg x = none) (hv : bootBuiltins x = some u) (h : Q u s)
    (hn : x ≠ "__name__" := by decide) (hd : (x == ("__debug__" : Str)) = false := by decide) : wpAny (model X.prog X.w) X.A (eval (.Name x pos) X.env) Q E s := by
  obtain ⟨mb, h1, h2⟩ := I.mod.blt
  exact Calls.Name_function_global I.ok.kind hg (Calls.loadGlobal_builtin (by rw [I.ok.glob]; exact I.mod.glob.keeps I.bk) hm (by rw [I.ok.blt]; exact h1.keeps I.bk) ((h2 x hn).trans hv) h) hd
theorem pe_glob {x : Str} {v : V} {u : Value} {pos : Pos} (hg : Gl X x) (hm : X.mg x = some u) (r : RelV v u) (hd : (x == ("__debug__" : Str)) = false := by decide) : PE X (.Name x pos) (tC v) :=
  fun _ _ _ H _ I h => ld_glob I hg hm ⟨v, H, I, r, h⟩ hd
theorem pe_bltn {x : Str} {v : V} {u : Value} {pos : Pos} (hg : Gl X x) (hm : X.mg x = none) (hv : bootBuiltins x = some u) (r : RelV v u) (hn : x ≠ "__name__" := by decide) (hd : (x == ("__debug__" : Str)) = false := by decide) : PE X (.Name x pos) (tC v) :=
  fun _ _ _ H _ I h => ld_blt I hg hm hv ⟨v, H, I, r, h⟩ hn hd
variable {a b : Expr} {ta tb : TE} {pos : Pos}
def tB (t : TE) : TT := fun σ H Q => t σ H fun x H1 => ∃ c, x = .bl c ∧ Q c H1
theorem pt_val {e : Expr} {t : TE} (h : PE X e t) (he : ∀ whole, isTrue e X.env whole = (do let v ← whole; standAt e.pos; holding [v] (truthy v)) := by intro _; rfl) : PT X e (tB t) := by
  intro pins s σ H Q I hw
  refine isTrue_plain (thn (h pins s σ H _ I hw) fun v s1 ⟨x, H1, I1, r1, q1⟩ => ?_) (he _)
  obtain ⟨d, rfl, q⟩ := q1
  cases r1
  exact wpAny_truthy_bool ⟨H1, I1, q⟩
variable {tA tB' : TT} {rest : List Expr}
def tAnd (t u : TT) : TT := fun σ H Q => t σ H fun c H1 => if c = true then u σ H1 Q else Q false H1
def tOr (t u : TT) : TT := fun σ H Q => t σ H fun c H1 => if c = true then Q true H1 else u σ H1 Q
def tNot (t : TT) : TT := fun σ H Q => t σ H fun c H1 => Q (!c) H1
theorem pw_and1 (ha : PT X a tA) : PW X (.BoolOp .And [a] pos) tA := by
  intro wh pins s σ H Q I h
  refine isTrue_and (thn (ha pins s σ H Q I h) fun c s1 e => ?_)
  cases c with
  | true => exact isTrue_and_nil e
  | false => exact e
theorem pw_or1 (ha : PT X a tA) : PW X (.BoolOp .Or [a] pos) tA := by
  intro wh pins s σ H Q I h
  refine isTrue_or (thn (ha pins s σ H Q I h) fun c s1 e => ?_)
  cases c with
  | false => exact isTrue_or_nil e
  | true => exact e
theorem pw_and (ha : PT X a tA) (hb : PW X (.BoolOp .And (b :: rest) pos) tB') : PW X (.BoolOp .And (a :: b :: rest) pos) (tAnd tA tB') := by
  intro wh pins s σ H Q I h
  refine isTrue_and (thn (ha pins s σ H _ I h) fun c s1 ⟨H1, I1, q1⟩ => ?_)
  cases c with
  | true => exact hb wh pins s1 σ H1 Q I1 q1
  | false => exact ⟨H1, I1, q1⟩
theorem pw_or (ha : PT X a tA) (hb : PW X (.BoolOp .Or (b :: rest) pos) tB') : PW X (.BoolOp .Or (a :: b :: rest) pos) (tOr tA tB') := by
  intro wh pins s σ H Q I h
  refine isTrue_or (thn (ha pins s σ H _ I h) fun c s1 ⟨H1, I1, q1⟩ => ?_)
  cases c with
  | true => exact ⟨H1, I1, q1⟩
  | false => exact hb wh pins s1 σ H1 Q I1 q1
theorem pt_not (ha : PT X a tA) : PT X (.UnaryOp .Not a pos) (tNot tA) := by
  intro pins s σ H Q I h
  exact isTrue_not (ha pins s σ H (fun c H1 => Q (!c) H1) I h)
def tAndV (ta tb : TE) : TE := fun σ H Q => ta σ H fun x H1 => ∃ c, x = .bl c ∧ if c = true then tb σ H1 Q else Q (.bl false) H1
def tOrV (ta tb : TE) : TE := fun σ H Q => ta σ H fun x H1 => ∃ c, x = .bl c ∧ if c = true then Q (.bl true) H1 else tb σ H1 Q
def tNotV (ta : TE) : TE := fun σ H Q => ta σ H fun x H1 => ∃ c, x = .bl c ∧ Q (.bl (!c)) H1
theorem pe_one {op} {t : TE} (h : PE X a t) : PE X (.BoolOp op [a] pos) t := fun pins s σ H Q I hw => BoolOp_one (h pins s σ H Q I hw)
theorem pe_and (ha : PE X a ta) (hb : PE X (.BoolOp .And (b :: rest) pos) tb) : PE X (.BoolOp .And (a :: b :: rest) pos) (tAndV ta tb) := by
  intro pins s σ H Q I h
  refine BoolOp_and (thn (ha pins s σ H _ I h) fun v s1 ⟨x, H1, I1, r1, q1⟩ => ?_)
  obtain ⟨c, rfl, q1⟩ := q1
  cases r1
  refine wpAny_truthy_bool ?_
  cases c with
  | true => exact hb pins s1 σ H1 Q I1 q1
  | false => exact ⟨.bl false, H1, I1, rfl, q1⟩
theorem pe_not (ha : PE X a ta) : PE X (.UnaryOp .Not a pos) (tNotV ta) := by
  intro pins s σ H Q I h
  refine UnaryOp_ (thn (ha pins s σ H _ I h) fun v s1 ⟨x, H1, I1, r1, q1⟩ => ?_)
  obtain ⟨c, rfl, q1⟩ := q1
  cases r1
  exact not_of (wpAny_truthy_bool ⟨.bl (!c), H1, I1, rfl, q1⟩)
def tIf (t : TT) (ta tb : TE) : TE := fun σ H Q => t σ H fun c H1 => if c = true then ta σ H1 Q else tb σ H1 Q
theorem pe_ifExp {c : Expr} (hc : PT X c tA) (ha : PE X a ta) (hb : PE X b tb) : PE X (.IfExp c a b pos) (tIf tA ta tb) := by
  intro pins s σ H Q I h
  refine wpAny_IfExp (thn (hc pins s σ H _ I h) fun d s1 ⟨H1, I1, q1⟩ => ?_)
  cases d with
  | true => exact ha pins s1 σ H1 Q I1 q1
  | false => exact hb pins s1 σ H1 Q I1 q1
end
end L2
namespace L2
open PySem PySem.Spec PyProof.Rows
def SqL (K : PySem.W.Frag) (H : Hp) (a : Addr) (xs : List V) : Prop :=
  Rd H a (.lst xs) ∨
    ∃ (o : Obj) (its : Array Value) (n : Nat), K.lookup a = some o ∧ o.cls = .type "list" ∧ o.dict = none ∧ o.data = .seq its n ∧ its.size ≤ sizeLine ∧ Vals xs its.toList
def SqT (K : PySem.W.Frag) (H : Hp) (a : Addr) (xs : List V) : Prop :=
  Rd H a (.tup xs) ∨
    ∃ (o : Obj) (its : Array Value) (n : Nat), K.lookup a = some o ∧ o.cls = .type "tuple" ∧ o.data = .seq its n ∧ its.size ≤ sizeLine ∧ Vals xs its.toList
def absV : Value → Option V
  | .none => some .non
  | .bool b => some (.bl b)
  | .int i _ => some (.int i)
  | .str x _ => some (.str x)
  | .bytes b _ => some (.byt b)
  | .float b _ => some (.flt b)
  | .ref a => some (.ref a)
  | .type n => some (.ty n)
  | _ => none
theorem RelV.abs {x : V} {u : Value} (r : RelV x u) : absV u = some x := by
  cases x with
  | non => cases r; rfl
  | bl _ => cases r; rfl
  | int _ => obtain ⟨t, rfl⟩ := r; rfl
  | str _ => obtain ⟨t, rfl⟩ := r; rfl
  | byt _ => obtain ⟨t, rfl⟩ := r; rfl
  | flt _ => obtain ⟨t, rfl⟩ := r; rfl
  | ref _ => cases r; rfl
  | ty _ => cases r; rfl
theorem RelV.inj {x y : V} {u : Value} (r : RelV x u) (q : RelV y u) : x = y := Option.some.inj (r.abs.symm.trans q.abs)
theorem Vals.inj : ∀ {xs ys : List V} {us : List Value}, Vals xs us → Vals ys us → xs = ys
  | _, _, _, .nil, .nil => rfl
  | _, _, _, .cons r t, .cons r' t' => by rw [r.inj r', Vals.inj t t']
section
variable {X : Cx} {pins : List (Addr × Obj)} {σ : St} {H : Hp} {s : Shared} {a : Addr} {xs ys : List V}
theorem SqL.of {K : PySem.W.Frag} (h : H a = some (.lst xs)) : SqL K H a xs := .inl (.inl h)
theorem SqT.of {K : PySem.W.Frag} (h : H a = some (.tup xs)) : SqT K H a xs := .inl (.inl h)
theorem Inv.list (I : Inv X pins σ H s) (h : SqL X.K H a xs) : ∃ its : List Value, Vals xs its ∧ PlainL s.heap a its.toArray ∧ xs.length ≤ sizeLine := by
  rcases h with h | ⟨o, its, n, hk, hc, hd, hs, hz, r⟩
  · obtain ⟨z, its, n, r, e⟩ := h.ok I.hok
    exact ⟨its, r, ⟨_, n, e, rfl, rfl, rfl⟩, z⟩
  · refine ⟨its.toList, r, ⟨o, n, I.kIn a o hk, hc, hd, by simpa using hs⟩, ?_⟩
    have e := r.length
    simp only [Array.length_toList] at e
    omega
theorem Inv.tuple (I : Inv X pins σ H s) (h : SqT X.K H a xs) : ∃ its : List Value, Vals xs its ∧ IsTup s.heap a its.toArray ∧ xs.length ≤ sizeLine := by
  rcases h with h | ⟨o, its, n, hk, hc, hs, hz, r⟩
  · obtain ⟨z, its, r, p⟩ := h.ok I.hok
    exact ⟨its, r, p, z⟩
  · refine ⟨its.toList, r, ⟨o, I.kIn a o hk, hc, n, by simpa using hs⟩, ?_⟩
    have e := r.length
    simp only [Array.length_toList] at e
    omega
theorem Inv.list_inj (I : Inv X pins σ H s) (h : SqL X.K H a xs) (h' : SqL X.K H a ys) : xs = ys := by
  obtain ⟨its, r, ⟨o, n, e, _, _, d⟩, _⟩ := I.list h
  obtain ⟨its', r', ⟨o', n', e', _, _, d'⟩, _⟩ := I.list h'
  rw [e] at e'; cases e'
  rw [d] at d'
  injection d' with d1 _
  have : its = its' := by simpa using congrArg Array.toList d1
  subst this
  exact r.inj r'
theorem Inv.tuple_inj (I : Inv X pins σ H s) (h : SqT X.K H a xs) (h' : SqT X.K H a ys) : xs = ys := by
  obtain ⟨its, r, ⟨o, e, _, n, d⟩, _⟩ := I.tuple h
  obtain ⟨its', r', ⟨o', e', _, n', d'⟩, _⟩ := I.tuple h'
  rw [e] at e'; cases e'
  rw [d] at d'
  injection d' with d1 _
  have : its = its' := by simpa using congrArg Array.toList d1
  subst this
  exact r.inj r'
end
abbrev Cx.wish (X : Cx) (E : Value → Shared → Prop) : Cx := { X with xe := E }
abbrev Cx.nox (X : Cx) : Cx := X.wish fun _ _ => False
theorem Cx.Ok.wish {X : Cx} (ok : X.Ok) (E : Value → Shared → Prop) : (X.wish E).Ok :=
  ⟨ok.mod, ok.kind, ok.glob, ok.blt, ok.above, ok.inj, ok.has, ok.cab, ok.hd, ok.frames, ok.stk, ok.exf, ok.bs, ok.bsz, ok.noex, ok.exfs, ok.funs, ok.frf⟩
theorem Cx.Ok.unwish {X : Cx} {E : Value → Shared → Prop} (ok : (X.wish E).Ok) : X.Ok :=
  ⟨ok.mod, ok.kind, ok.glob, ok.blt, ok.above, ok.inj, ok.has, ok.cab, ok.hd, ok.frames, ok.stk, ok.exf, ok.bs, ok.bsz, ok.noex, ok.exfs, ok.funs, ok.frf⟩
section
variable {X : Cx} {pins : List (Addr × Obj)} {σ : St} {H : Hp} {s : Shared} {E : Value → Shared → Prop}
theorem Inv.wish (I : Inv X pins σ H s) (E : Value → Shared → Prop) : Inv (X.wish E) pins σ H s := ⟨I.ok.wish E, I.os, I.bare, I.base, I.loc, I.cell, I.free, I.freeC, I.pin, I.hok, I.len⟩
theorem Inv.unwish (I : Inv (X.wish E) pins σ H s) : Inv X pins σ H s := ⟨I.ok.unwish, I.os, I.bare, I.base, I.loc, I.cell, I.free, I.freeC, I.pin, I.hok, I.len⟩
theorem SP.unwish {D : Ends} {f : Flow} {s' : Shared} (h : SP (X.wish E) pins D f s') : SP X pins D f s' := by
  cases f with
  | next => obtain ⟨σ', H', I, q⟩ := h; exact ⟨σ', H', I.unwish, q⟩
  | brk => obtain ⟨σ', H', I, q⟩ := h; exact ⟨σ', H', I.unwish, q⟩
  | cont => obtain ⟨σ', H', I, q⟩ := h; exact ⟨σ', H', I.unwish, q⟩
  | ret u => obtain ⟨v, σ', H', I, r, q⟩ := h; exact ⟨v, σ', H', I.unwish, r, q⟩
theorem PE.nox {e : Expr} {t : TE} (h : PE X.nox e t) : PE X e t := fun pins s σ H Q I hw =>
  wpAny_mono (h pins s σ H Q (I.wish _) hw) (fun _ _ ⟨v, H', I', r, q⟩ => ⟨v, H', I'.unwish, r, q⟩) fun _ _ z => False.elim z
theorem PT.nox {e : Expr} {t : TT} (h : PT X.nox e t) : PT X e t := fun pins s σ H Q I hw =>
  wpAny_mono (h pins s σ H Q (I.wish _) hw) (fun _ _ ⟨H', I', q⟩ => ⟨H', I'.unwish, q⟩) fun _ _ z => False.elim z
theorem PSs.nox {st : List Stmt} {t : TS} (h : PSs X.nox st t) : PSs X st t := fun pins s σ H D I hw =>
  wpAny_mono (h pins s σ H D (I.wish _) hw) (fun _ _ q => q.unwish) fun _ _ z => False.elim z
end
section
variable {X : Cx} {st : Stmt} {rest : List Stmt} {t u : TS} {e : Expr} {te : TE} {pos : Pos}
def tNext : TS := fun D σ H => D.nx σ H
def tSeq (t u : TS) : TS := fun D σ H => t { D with nx := u D } σ H
theorem pss_nil : PSs X [] tNext := fun _ _ σ H _ I h => wpAny_execs_nil ⟨σ, H, I, h⟩
theorem pss_cons (h1 : PS X st t) (h2 : PSs X rest u) : PSs X (st :: rest) (tSeq t u) := by
  intro pins s σ H D I h
  refine wpAny_execs_cons (thn (h1 pins s σ H { D with nx := u D } I h) fun f s1 q => ?_)
  cases f with
  | next =>
    obtain ⟨σ', H', I', q⟩ := q
    exact h2 pins s1 σ' H' D I' q
  | ret v => exact q
  | brk => exact q
  | cont => exact q
theorem pss_one (h1 : PS X st t) : PSs X [st] t := by
  intro pins s σ H D I h
  refine wpAny_execs_cons (thn (h1 pins s σ H D I h) fun f s1 q => ?_)
  cases f with
  | next => exact wpAny_execs_nil q
  | ret v => exact q
  | brk => exact q
  | cont => exact q
def tBreak : TS := fun D σ H => D.bk σ H
def tCont : TS := fun D σ H => D.ct σ H
theorem Inv.quiet {pins : List (Addr × Obj)} {σ : St} {H : Hp} {s : Shared} (I : Inv X pins σ H s) : interactive X.env = false := by simp [interactive, I.ok.kind]
def tDrop (te : TE) : TS := fun D σ H => te σ H fun _ H1 => D.nx σ H1
theorem ps_expr (he : PE X e te) (hs : swapsWith e none pos.line X.env = pure false := by rfl) : PS X (.Expr e pos) (tDrop te) := by
  intro pins s σ H D I h
  exact wpAny_Expr_any (thn (he pins s σ H _ I h) fun v s1 ⟨x, H1, I1, r1, q1⟩ => ⟨σ, H1, I1, q1⟩) I.quiet hs
def tRet (te : TE) : TS := fun D σ H => te σ H D.rt
theorem ps_ret (he : PE X e te) : PS X (.Return (some e) pos) (tRet te) := by
  intro pins s σ H D I h
  exact wpAny_Return_some (thn (he pins s σ H _ I h) fun v s1 ⟨x, H1, I1, r1, q1⟩ => ⟨x, σ, H1, I1, r1, q1⟩)
def tRetN : TS := fun D _ H => D.rt .non H
def tIfS (c : TT) (t u : TS) : TS := fun D σ H => c σ H fun b H1 => if b = true then t D σ H1 else u D σ H1
theorem ps_if {c : Expr} {a b : List Stmt} {tc : TT} (hc : PT X c tc) (ha : PSs X a t) (hb : PSs X b u) : PS X (.If c a b pos) (tIfS tc t u) := by
  intro pins s σ H D I h
  refine wpAny_If (thn (hc pins s σ H _ I h) fun d s1 ⟨H1, I1, q1⟩ => ?_)
  cases d with
  | true => exact ha pins s1 σ H1 D I1 q1
  | false => exact hb pins s1 σ H1 D I1 q1
def tNever : TS := fun _ _ _ => False
end
abbrev TG := V → St → Hp → (St → Hp → Prop) → Prop
abbrev TGs := List V → St → Hp → (St → Hp → Prop) → Prop
def PG (X : Cx) (target : Expr) (t : TG) : Prop :=
  ∀ (pins : List (Addr × Obj)) (s : Shared) (σ : St) (H : Hp) (v : V) (u : Value) (Q : St → Hp → Prop), Inv X pins σ H s → RelV v u → t v σ H Q →
    wpAny (model X.prog X.w) X.A (assign target X.env u) (fun _ s' => ∃ σ' H', Inv X pins σ' H' s' ∧ Q σ' H') X.xe s
def PGs (X : Cx) (ts : List Expr) (t : TGs) : Prop :=
  ∀ (pins : List (Addr × Obj)) (s : Shared) (σ : St) (H : Hp) (vs : List V) (us : List Value) (Q : St → Hp → Prop), Inv X pins σ H s → Vals vs us → t vs σ H Q →
    wpAny (model X.prog X.w) X.A (assignInOrder ((assignEach ts X.env).map (·.2)) us) (fun _ s' => ∃ σ' H', Inv X pins σ' H' s' ∧ Q σ' H') X.xe s
abbrev TSet := V → V → V → Hp → (Hp → Prop) → Prop
def PSet (X : Cx) (t : TSet) : Prop :=
  ∀ (pins : List (Addr × Obj)) (s : Shared) (σ : St) (H : Hp) (o i v : V) (ov iv u : Value) (Q : Hp → Prop), Inv X pins σ H s → RelV o ov → RelV i iv → RelV v u → t o i v H Q →
    wpAny (model X.prog X.w) X.A (setItem ov iv u) (fun _ s' => ∃ H', Inv X pins σ H' s' ∧ Q H') X.xe s
abbrev TIp := V → V → Hp → VK → Prop
section
variable {X : Cx} {pos : Pos}
def gName (i : Nat) : TG := fun v σ H Q => Q (σ.set i (some v)) H
theorem pg_name {i : Nat} {x : Str} (hN : X.N.Nodup) (hi : X.N[i]? = some x) (hx : Loc X.env.scope x) (hf : X.fn x = true ∨ X.env.scope.names.lookup x = some .local := by first | exact .inl rfl | exact .inr rfl | assumption) : PG X (.Name x pos) (gName i) := by
  intro pins s σ H v u Q I r h
  exact wpAny_assign_Name (store_ok I hN hi hx r (fun s' I' => ⟨_, H, I', h⟩) hf)
def gNil : TGs := fun vs σ H Q => vs = [] ∧ Q σ H
def gCons (t : TG) (u : TGs) : TGs := fun vs σ H Q => ∃ v r, vs = v :: r ∧ t v σ H fun σ' H' => u r σ' H' Q
theorem pgs_nil : PGs X [] gNil := by
  intro pins s σ H vs us Q I r h
  obtain ⟨e, h⟩ := h
  subst e
  cases r
  exact assignInOrder_nil ⟨σ, H, I, h⟩
theorem pgs_cons {e : Expr} {es : List Expr} {t : TG} {u : TGs} (h1 : PG X e t) (h2 : PGs X es u)
    (hs : (assignEach (e :: es) X.env).map (·.2) = assign e X.env :: (assignEach es X.env).map (·.2) := by rfl) : PGs X (e :: es) (gCons t u) := by
  intro pins s σ H vs us Q I r h
  obtain ⟨v, vr, e1, h⟩ := h
  subst e1
  cases r with
  | cons r rr =>
    rw [hs]
    refine assignInOrder_cons (thn (h1 pins s σ H _ _ _ I r h) fun _ s1 ⟨σ1, H1, I1, q1⟩ => ?_)
    exact h2 pins s1 σ1 H1 _ _ Q I1 rr q1
def gTup (K : PySem.W.Frag) (n : Nat) (t : TGs) : TG := fun v σ H Q => ∃ a xs, v = .ref a ∧ SqT K H a xs ∧ xs.length = n ∧ t xs σ H Q
theorem pg_tup {es : List Expr} {k : Nat} {t : TGs} {n : Nat} (hc : Calm X) (h : PGs X es t)
    (hn : (assignEach es X.env).length = n := by rfl) (hst : (assignEach es X.env).findIdx? (·.1) = none := by rfl) : PG X (.Tuple es k pos) (gTup X.K n t) := by
  intro pins s σ H v u Q I r hw
  obtain ⟨a, xs, e1, hq, hl, hw⟩ := hw
  subst e1
  cases r
  obtain ⟨its, rv, ht, hz⟩ := I.tuple hq
  refine tup_unpacked (I.calm hc) ht (by simp [hn, ← hl, rv.length]) hst fun h' hx => ?_
  have I1 : Inv X pins σ H { s with heap := h' } := I.kept (t' := s.toks) fun b o e => hx b o (Nat.ne_of_lt (Heap.lt_size e)) e
  exact h pins _ σ H xs _ Q I1 (by simpa using rv) hw
def gSub (to ti : TE) (t : TSet) : TG := fun v σ H Q => to σ H fun o H1 => ti σ H1 fun i H2 => t o i v H2 fun H3 => Q σ H3
theorem pg_sub {o i : Expr} {to ti : TE} {t : TSet} (ho : PE X o to) (hi : PE X i ti) (hs : PSet X t)
    (ha : ∀ v, assign (.Subscript o i pos) X.env v = (do
      let ov ← holding [v] (eval o X.env)
      let iv ← holding [v, ov] (eval i X.env)
      standAt pos
      holding [v, ov, iv] (setItem ov iv v)
      release [v, ov, iv] []) := by intro _; rfl) : PG X (.Subscript o i pos) (gSub to ti t) := by
  intro pins s σ H v u Q I r h
  rw [ha]
  refine wpAny_bind (wpAny_holding (thn (ho pins s σ H _ I h) fun ov s1 ⟨x, H1, I1, r1, q1⟩ => ?_))
  refine wpAny_bind (wpAny_holding (thn (hi pins s1 σ H1 _ I1 q1) fun iv s2 ⟨y, H2, I2, r2, q2⟩ => ?_))
  refine wpAny_bind (wpAny_standAt (wpAny_bind (wpAny_holding (thn (hs pins s2 σ H2 x y v ov iv u _ I2 r1 r2 r q2) fun _ s3 ⟨H3, I3, q3⟩ => ?_))))
  exact wpAny_release ⟨σ, H3, I3, q3⟩
def tAsg (te : TE) (g : TG) : TS := fun D σ H => te σ H fun x H1 => g x σ H1 D.nx
theorem ps_asg {tg e : Expr} {te : TE} {g : TG} (he : PE X e te) (hg : PG X tg g) (hs : swapsWithSole [tg] e pos.line X.env = pure false := by rfl) (hw : swappedStores [tg] e X.env = pure none := by rfl)
    (h1 : (assignEach [tg] X.env).map (·.2) = [assign tg X.env] := by rfl) : PS X (.Assign [tg] e pos) (tAsg te g) := by
  intro pins s σ H D I h
  refine wpAny_Assign_stores (thn (he pins s σ H _ I h) fun v s1 ⟨x, H1, I1, r1, q1⟩ => ?_) hs hw
  rw [h1]
  exact thn (hg pins s1 σ H1 x v _ I1 r1 q1) fun _ s2 q => q
theorem ps_set {i : Nat} {x : Str} {e : Expr} {te : TE} {pos' : Pos} (hN : X.N.Nodup) (hi : X.N[i]? = some x) (hx : Loc X.env.scope x) (he : PE X e te) (hs : swapsWith e (some (.Name x pos')) pos.line X.env = pure false := by rfl) (hf : X.fn x = true ∨ X.env.scope.names.lookup x = some .local := by first | exact .inl rfl | exact .inr rfl | assumption) :
    PS X (.Assign [.Name x pos'] e pos) (tAsg te (gName i)) := by
  intro pins s σ H D I h
  refine wpAny_Assign_Name (thn (he pins s σ H _ I h) fun v s1 ⟨y, H1, I1, r1, q1⟩ => ?_) hs
  exact store_ok I1 hN hi hx r1 (fun s2 I2 => ⟨_, H1, I2, q1⟩) hf
def tAug (i : Nat) (te : TE) (ti : TIp) : TS := fun D σ H => ∃ x, σ[i]? = some (some x) ∧ te σ H fun y H1 => ti x y H1 fun z H2 => D.nx (σ.set i (some z)) H2
def ipI (f : Int → Int → Int) : TIp := fun x y H Q => ∃ i j, x = .int i ∧ y = .int j ∧ Q (.int (f i j)) H
end
section
variable {X : Cx} {pos : Pos}
def tWhile (c : TT) (tb : TS) : TS := fun D σ H => ∃ W : Nat → St → Hp → Prop, (∃ m, W m σ H) ∧ ∀ m σ H, W m σ H →
  c σ H fun b H1 => if b = true then ∃ N : St → Hp → Prop, (∀ σ' H', N σ' H' → ∃ m', m' < m ∧ W m' σ' H') ∧ tb { D with nx := N, ct := N, bk := D.nx } σ H1 else D.nx σ H1
theorem ps_while {c : Expr} {body : List Stmt} {tc : TT} {tb : TS} (hp : PassesOwn (model X.prog X.w) X.A X.env X.xe) (hc : PT X c tc) (hb : PSs X body tb) : PS X (.While c body [] pos) (tWhile tc tb) := by
  intro pins s σ H D I h
  obtain ⟨W, ⟨m0, w0⟩, turn⟩ := h
  refine wpAny_While (codeAny_whileLoop (fun n s' => ∃ σ' H', Inv X pins σ' H' s' ∧ W n σ' H') ?_ m0 ⟨σ, H, I, w0⟩)
  rintro n s1 ⟨σ1, H1, I1, w1⟩
  refine wpAny_passesOwn hp (thn (hc pins s1 σ1 H1 _ I1 (turn n σ1 H1 w1)) fun b s2 ⟨H2, I2, q2⟩ => ?_)
  cases b with
  | true =>
    obtain ⟨N, hN, q2⟩ := q2
    rw [if_pos rfl]
    refine wpAny_passesOwn hp (thn (hb pins s2 σ1 H2 _ I2 q2) fun f s3 q3 => ?_)
    cases f with
    | next =>
      obtain ⟨σ3, H3, I3, n3⟩ := q3
      obtain ⟨m', hm, w3⟩ := hN σ3 H3 n3
      exact ⟨m', hm, σ3, H3, I3, w3⟩
    | cont =>
      obtain ⟨σ3, H3, I3, n3⟩ := q3
      obtain ⟨m', hm, w3⟩ := hN σ3 H3 n3
      exact ⟨m', hm, σ3, H3, I3, w3⟩
    | brk => exact q3
    | ret v => exact q3
  | false =>
    rw [if_neg Bool.false_ne_true]
    exact wpAny_execs_nil ⟨σ1, H2, I2, q2⟩
end
structure It where
  go : Nat → Hp → Prop
  yld : Nat → Hp → V → Hp → Prop
  stop : Nat → Hp → Prop
def FpOk (X : Cx) (pins : List (Addr × Obj)) (H : Hp) (b : Addr) : Prop :=
  H b = none ∧ b ≠ X.env.locals ∧ b ∉ X.fs ∧ (b ∈ X.ex ∨ X.s₀.heap.objs.size ≤ b) ∧ (∀ x c, X.env.cells.lookup x = some c → c ≠ b) ∧ ∀ p ∈ X.pn ++ pins, p.1 ≠ b
theorem Inv.fpOk {X : Cx} {pins : List (Addr × Obj)} {σ : St} {H H' : Hp} {s : Shared} {b : Addr} (I : Inv X pins σ H s) (hb : s.heap.objs.size ≤ b) (hn : H' b = none) : FpOk X pins H' b := by
  refine ⟨hn, Nat.ne_of_gt (Nat.lt_of_lt_of_le I.lt hb), I.nofs hb, .inr (Nat.le_trans I.sz hb), fun x c e z => ?_, fun p hp z => ?_⟩
  · obtain ⟨v, q⟩ := I.cell x c e
    exact absurd (Nat.lt_of_lt_of_le q.lt (by rw [z]; exact hb)) (Nat.lt_irrefl _)
  · exact absurd (Nat.lt_of_lt_of_le (Heap.lt_size (I.pin p hp).1) (by rw [z]; exact hb)) (Nat.lt_irrefl _)
structure Turn (P : Program) (w : World) (K : PySem.W.Frag) (tg : Expr) (J : It) (fp : List Addr) (it : Addr) (tn : Nat → Heap → Prop) : Prop where
  mem : it ∈ fp
  obj : ∀ i h, tn i h → ∀ b ∈ fp, ∃ o, h.get? b = some o ∧ ∀ v, o.data ≠ .cell v
  keep : ∀ i h h', tn i h → (∀ b ∈ fp, ∀ o, h.get? b = some o → h'.get? b = some o) → tn i h'
  item : ∀ (X : Cx), X.prog = P → X.w = w → X.K = K → Calm X → ∀ (i : Nat) (pins : List (Addr × Obj)) (s : Shared) (σ : St) (H : Hp) (E : Value → Shared → Prop), Inv X pins σ H s → (∀ b ∈ fp, FpOk X pins H b) → tn i s.heap → J.go i H →
    wpAny (model P w) X.A (pyNext (.ref it)) (fun r s1 => ∃ u, r = some u ∧
      wpAny (model P w) X.A (letOwnedTupleGo tg (.ref it) u) (fun _ s2 => ∃ x H', Inv X pins σ H' s2 ∧ RelV x u ∧ J.yld i H x H' ∧ tn (i + 1) s2.heap ∧ ∀ b ∈ fp, H' b = none) E s1) E s
  done : ∀ (X : Cx), X.prog = P → X.w = w → X.K = K → Calm X → ∀ (i : Nat) (pins : List (Addr × Obj)) (s : Shared) (σ : St) (H : Hp) (E : Value → Shared → Prop), Inv X pins σ H s → (∀ b ∈ fp, FpOk X pins H b) → tn i s.heap → J.stop i H →
    wpAny (model P w) X.A (pyNext (.ref it)) (fun r s1 => r = none ∧ Inv X pins σ H s1) E s
  self : ∀ (A : Around) (i : Nat) (s : Shared) (Q : Value → Shared → Prop) (E : Value → Shared → Prop), tn i s.heap → Q (.ref it) s → wpAny (model P w) A (pyIter (.ref it)) Q E s
abbrev TI := St → Hp → (It → Hp → Prop) → Prop
def PIE (X : Cx) (pins : List (Addr × Obj)) (σ : St) (tg : Expr) (R : It → Hp → Prop) (itv : Value) (s2 : Shared) : Prop :=
  ∃ (it : Addr) (fp : List Addr) (tn : Nat → Heap → Prop) (J : It) (H' : Hp), itv = .ref it ∧ Inv X pins σ H' s2 ∧ Turn X.prog X.w X.K tg J fp it tn ∧ tn 0 s2.heap ∧ (∀ b ∈ fp, FpOk X pins H' b) ∧ R J H'
def PI (X : Cx) (tg iter : Expr) (wi : TI) : Prop :=
  ∀ (pins : List (Addr × Obj)) (s : Shared) (σ : St) (H : Hp) (R : It → Hp → Prop), Inv X pins σ H s → wi σ H R →
    wpAny (model X.prog X.w) X.A (eval iter X.env) (fun v s1 => wpAny (model X.prog X.w) X.A (pyIter v) (PIE X pins σ tg R) X.xe s1) X.xe s
theorem go_of {M : Model} {A : Around} {E : Value → Shared → Prop} {s : Shared} {tg : Expr} {it : Addr} {u : Value} {o : Obj} {n : String} {vs : Array Value} {Q : Unit → Shared → Prop} (ho : s.heap.get? it = some o) (hc : o.cls = .type n) (hd : o.data = .fields vs)
    (hn : ["enumerate", "zip", "dict_itemiterator", "dict_reverseitemiterator", "odict_iterator", "itertools.zip_longest", "itertools.pairwise"].contains n = false) (hQ : Q () s) : wpAny M A (letOwnedTupleGo tg (.ref it) u) Q E s := by
  unfold letOwnedTupleGo
  cases tg <;> first
    | exact wpAny_pure hQ
    | (cases u <;> first
        | exact wpAny_pure hQ
        | (refine wpAny_bind (wpAny_load ho ?_)
           rw [hc, hd]
           show wpAny M A (if (["enumerate", "zip", "dict_itemiterator", "dict_reverseitemiterator", "odict_iterator", "itertools.zip_longest", "itertools.pairwise"].contains n && vs[0]? == some (rawInt _)) = true then _ else _) Q E s
           rw [if_neg (by intro h; rw [hn, Bool.false_and] at h; cases h)]
           exact wpAny_pure hQ))
def Itl (K : PySem.W.Frag) (a : Addr) : It :=
  ⟨fun i H => ∃ xs x, SqL K H a xs ∧ xs[i]? = some x, fun i H x H' => H' = H ∧ ∀ xs, SqL K H a xs → xs[i]? = some x, fun i H => ∃ xs, SqL K H a xs ∧ xs.length ≤ i⟩
def Itt (K : PySem.W.Frag) (a : Addr) : It :=
  ⟨fun i H => ∃ xs x, SqT K H a xs ∧ xs[i]? = some x, fun i H x H' => H' = H ∧ ∀ xs, SqT K H a xs → xs[i]? = some x, fun i H => ∃ xs, SqT K H a xs ∧ xs.length ≤ i⟩
def Itr (lo : Int) (n : Nat) : It := ⟨fun i _ => i < n, fun i H x H' => H' = H ∧ x = .int (lo + i), fun i _ => n ≤ i⟩
theorem turn_list {P : Program} {w : World} {K : PySem.W.Frag} {tg : Expr} (a it : Addr) : Turn P w K tg (Itl K a) [it] it (fun i h => h.IsListIter it a i) where
  mem := by simp
  obj := fun i h st b hb => by
    have e : b = it := by simpa using hb
    subst e
    obtain ⟨o, e, c, d⟩ := st
    exact ⟨o, e, fun v z => by rw [d] at z; cases z⟩
  keep := fun i h h' st k => st.at fun o e => k it (by simp) o e
  item := by
    intro X hP hw hK hc i pins s σ H E I hf st hg
    subst hP hw hK
    obtain ⟨xs, x, hq, hx⟩ := hg
    obtain ⟨its, rv, p, hz⟩ := I.list hq
    obtain ⟨u, hu, ru⟩ := rv.get hx
    obtain ⟨f0, f1, f2, f3, f4, f5⟩ := hf it (by simp)
    refine wpAny_pyNext_list_item st p.isList (x := u) (by simpa using hu) fun h' st' sb => ?_
    have I1 : Inv X pins σ H { s with heap := h' } := I.turned (t' := s.toks) (fun b o hb e => (sb.2 b hb).trans e) f0 f1 f3 f4 f5
    obtain ⟨o, e, c, d⟩ := id st'
    exact ⟨u, rfl, go_of (s := { s with heap := h' }) e c d (by decide) ⟨x, H, I1, ru, ⟨rfl, fun ys hy => by rw [I.list_inj hy hq]; exact hx⟩, st', fun b hb => (hf b hb).1⟩⟩
  done := by
    intro X hP hw hK hc i pins s σ H E I hf st hg
    subst hP hw hK
    obtain ⟨xs, hq, hx⟩ := hg
    obtain ⟨its, rv, p, hz⟩ := I.list hq
    obtain ⟨f0, f1, f2, f3, f4, f5⟩ := hf it (by simp)
    have hl := rv.length
    exact list_end (I.calm hc) st p.isList (by simp; omega) fun h' eb => ⟨rfl, I.turned (t' := s.toks) (fun b o hb e => eb b o hb e) f0 f1 f3 f4 f5⟩
  self := fun _ _ _ _ _ st h => wpAny_pyIter_listiter st h
theorem turn_tuple {P : Program} {w : World} {K : PySem.W.Frag} {tg : Expr} (a it : Addr) : Turn P w K tg (Itt K a) [it] it (fun i h => h.IsTupleIter it a i) where
  mem := by simp
  obj := fun i h st b hb => by
    have e : b = it := by simpa using hb
    subst e
    obtain ⟨o, e, c, d⟩ := st
    exact ⟨o, e, fun v z => by rw [d] at z; cases z⟩
  keep := fun i h h' st k => st.at fun o e => k it (by simp) o e
  item := by
    intro X hP hw hK hc i pins s σ H E I hf st hg
    subst hP hw hK
    obtain ⟨xs, x, hq, hx⟩ := hg
    obtain ⟨its, rv, p, hz⟩ := I.tuple hq
    obtain ⟨u, hu, ru⟩ := rv.get hx
    obtain ⟨f0, f1, f2, f3, f4, f5⟩ := hf it (by simp)
    refine wpAny_pyNext_tuple_item st (show s.heap.IsTuple a its.toArray from p) (x := u) (by simpa using hu) fun h' st' sb => ?_
    have I1 : Inv X pins σ H { s with heap := h' } := I.turned (t' := s.toks) (fun b o hb e => (sb.2 b hb).trans e) f0 f1 f3 f4 f5
    obtain ⟨o, e, c, d⟩ := id st'
    exact ⟨u, rfl, go_of (s := { s with heap := h' }) e c d (by decide) ⟨x, H, I1, ru, ⟨rfl, fun ys hy => by rw [I.tuple_inj hy hq]; exact hx⟩, st', fun b hb => (hf b hb).1⟩⟩
  done := by
    intro X hP hw hK hc i pins s σ H E I hf st hg
    subst hP hw hK
    obtain ⟨xs, hq, hx⟩ := hg
    obtain ⟨its, rv, p, hz⟩ := I.tuple hq
    obtain ⟨f0, f1, f2, f3, f4, f5⟩ := hf it (by simp)
    have hl := rv.length
    exact tuple_end (I.calm hc) st (show s.heap.IsTuple a its.toArray from p) (by simp; omega) fun h' eb => ⟨rfl, I.turned (t' := s.toks) (fun b o hb e => eb b o hb e) f0 f1 f3 f4 f5⟩
  self := fun _ _ _ _ _ st h => wpAny_pyIter_tupleiter st h
theorem turn_range {P : Program} {w : World} {K : PySem.W.Frag} {tg : Expr} (it : Addr) (lo : Int) (n : Nat) : Turn P w K tg (Itr lo n) [it] it (fun i h => IsRangeIter h it (lo + (i : Nat) * 1) ((n : Int) - (i : Nat)) 1) where
  mem := by simp
  obj := fun i h st b hb => by
    have e : b = it := by simpa using hb
    subst e
    exact ⟨_, st, fun v z => by
      have z' : Data.fields _ = Data.cell v := z
      cases z'⟩
  keep := fun i h h' st k => k it (by simp) _ st
  item := by
    intro X hP hw hK hc i pins s σ H E I hf st hg
    subst hP hw hK
    obtain ⟨f0, f1, f2, f3, f4, f5⟩ := hf it (by simp)
    refine wpAny_pyNext_range_item st (by have : i < n := hg; omega) fun h' st2 sb => ?_
    have st' : IsRangeIter h' it (lo + ((i + 1 : Nat) : Int) * 1) ((n : Int) - ((i + 1 : Nat) : Int)) 1 := by
      rw [show lo + ((i + 1 : Nat) : Int) * 1 = lo + (i : Nat) * 1 + 1 by omega, show (n : Int) - ((i + 1 : Nat) : Int) = n - (i : Nat) - 1 by omega]
      exact st2
    have I1 : Inv X pins σ H { s with heap := h', toks := s.toks + 1 } := I.turned (fun b o hb e => (sb.2 b hb).trans e) f0 f1 f3 f4 f5
    refine ⟨_, rfl, go_of (s := { s with heap := h', toks := s.toks + 1 }) (n := "range_iterator") st' rfl rfl (by decide) ⟨.int (lo + i), H, I1, ⟨s.toks, ?_⟩, ⟨rfl, rfl⟩, st', fun b hb => (hf b hb).1⟩⟩
    rw [Int.mul_one]
  done := by
    intro X hP hw hK hc i pins s σ H E I hf st hg
    subst hP hw hK
    obtain ⟨f0, f1, f2, f3, f4, f5⟩ := hf it (by simp)
    exact range_end (I.calm hc) st (by have : n ≤ i := hg; omega) fun h' eb => ⟨rfl, I.turned (t' := s.toks) (fun b o hb e => eb b o hb e) f0 f1 f3 f4 f5⟩
  self := fun _ _ _ _ _ st h => wpAny_pyIter_rangeiter st h
end L2
namespace L2
open PySem PySem.Spec PyProof.Rows
section
variable {X : Cx} {tg : Expr}
def iList (K : PySem.W.Frag) (tl : TE) : TI := fun σ H R => tl σ H fun x H1 => ∃ a, x = .ref a ∧ (∃ xs, SqL K H1 a xs) ∧ R (Itl K a) H1
def iTup (K : PySem.W.Frag) (tl : TE) : TI := fun σ H R => tl σ H fun x H1 => ∃ a, x = .ref a ∧ (∃ xs, SqT K H1 a xs) ∧ R (Itt K a) H1
theorem pi_list {l : Expr} {tl : TE} (hl : PE X l tl) : PI X tg l (iList X.K tl) := by
  intro pins s σ H R I h
  refine thn (hl pins s σ H _ I h) fun v s1 ⟨x, H1, I1, r1, q1⟩ => ?_
  obtain ⟨a, e, ⟨xs, hq⟩, q⟩ := q1
  subst e
  cases r1
  obtain ⟨its, rv, p, hz⟩ := I1.list hq
  refine wpAny_pyIter_list p.isList ?_
  refine ⟨s1.heap.objs.size, [s1.heap.objs.size], _, _, H1, rfl, I1.kept (t' := s1.toks) fun b o e => Heap.get?_push_of_some _ e, turn_list a _, ⟨_, Heap.get?_push_size _ rfl, rfl, rfl⟩, fun b hb => ?_, q⟩
  have e : b = s1.heap.objs.size := by simpa using hb
  subst e
  exact I1.fpOk (Nat.le_refl _) (I1.hok.fresh (Nat.le_refl _))
theorem pi_tup {l : Expr} {tl : TE} (hl : PE X l tl) : PI X tg l (iTup X.K tl) := by
  intro pins s σ H R I h
  refine thn (hl pins s σ H _ I h) fun v s1 ⟨x, H1, I1, r1, q1⟩ => ?_
  obtain ⟨a, e, ⟨xs, hq⟩, q⟩ := q1
  subst e
  cases r1
  obtain ⟨its, rv, p, hz⟩ := I1.tuple hq
  refine wpAny_pyIter_tuple (show s1.heap.IsTuple a its.toArray from p) ?_
  refine ⟨s1.heap.objs.size, [s1.heap.objs.size], _, _, H1, rfl, I1.kept (t' := s1.toks) fun b o e => Heap.get?_push_of_some _ e, turn_tuple a _, ⟨_, Heap.get?_push_size _ rfl, rfl, rfl⟩, fun b hb => ?_, q⟩
  have e : b = s1.heap.objs.size := by simpa using hb
  subst e
  exact I1.fpOk (Nat.le_refl _) (I1.hok.fresh (Nat.le_refl _))
theorem range_it {pins : List (Addr × Obj)} {σ : St} {H : Hp} {s : Shared} {R : It → Hp → Prop} {E : Value → Shared → Prop} {lo hi : Int} {t u v : Tok} {tk : Nat} (I : Inv X pins σ H s) (h1 : -(2 ^ 62) ≤ lo) (h2 : lo < 2 ^ 62) (h3 : -(2 ^ 62) ≤ hi) (h4 : hi < 2 ^ 62)
    (q : R (Itr lo (hi - lo).toNat) H) : wpAny (model X.prog X.w) X.A (pyIter (.ref s.heap.objs.size)) (PIE X pins σ tg R) E { s with heap := s.heap.push { cls := .type "range", data := .fields #[.int lo t, .int hi u, .int 1 v] }, toks := tk } := by
  refine wpAny_pyIter_range (IsRange.new ..) (small_one h1 h2 h3 h4) ?_
  have I1 : Inv X pins σ H { s with heap := s.heap.push { cls := .type "range", data := .fields #[.int lo t, .int hi u, .int 1 v] }, toks := tk } := I.kept fun b o e => Heap.get?_push_of_some _ e
  refine ⟨(s.heap.push { cls := .type "range", data := .fields #[.int lo t, .int hi u, .int 1 v] }).objs.size, [(s.heap.push { cls := .type "range", data := .fields #[.int lo t, .int hi u, .int 1 v] }).objs.size], _, _, H, rfl,
    I1.kept (t' := tk) fun b o e => Heap.get?_push_of_some _ e, turn_range _ lo (hi - lo).toNat, ?_, fun b hb => ?_, q⟩
  · have e1 : lo + ((0 : Nat) : Int) * 1 = lo := by simp
    have e2 : (((hi - lo).toNat : Nat) : Int) - ((0 : Nat) : Int) = Builtin.Range.rangeSize lo hi 1 := by rw [rangeSize_one]; split <;> omega
    show IsRangeIter _ _ (lo + ((0 : Nat) : Int) * 1) ((((hi - lo).toNat : Nat) : Int) - ((0 : Nat) : Int)) 1
    rw [e1, e2]
    exact Heap.get?_push_size _ rfl
  · have e : b = (s.heap.push { cls := .type "range", data := .fields #[.int lo t, .int hi u, .int 1 v] }).objs.size := by simpa using hb
    subst e
    exact I1.fpOk (Nat.le_refl _) (I1.hok.fresh (Nat.le_refl _))
def iRng1 (ta : TA) : TI := fun σ H R => ta σ H fun vs H1 => ∃ j : Int, vs = [.int j] ∧ -(2 ^ 62) ≤ j ∧ j < 2 ^ 62 ∧ R (Itr 0 j.toNat) H1
def iRng2 (ta : TA) : TI := fun σ H R => ta σ H fun vs H1 => ∃ i j : Int, vs = [.int i, .int j] ∧ (-(2 ^ 62) ≤ i ∧ i < 2 ^ 62 ∧ -(2 ^ 62) ≤ j ∧ j < 2 ^ 62) ∧ R (Itr i (j - i).toNat) H1
theorem pi_range1 {a : Expr} {ta : TA} {p pos : Pos} (hg : Gl X "range") (hm : X.mg "range" = none) (ha : PA X [a] ta) (hs : starEach [a] X.env = [(false, eval a X.env)] := by rfl) : PI X tg (.Call (.Name "range" p) [a] [] pos) (iRng1 ta) := by
  intro pins s σ H R I h
  refine Call_ (ld_blt I hg hm boot_range (PyProof.Rows.callWith_type1 (thn (ha pos pins s σ H _ I h) fun us s1 ⟨vs, H1, I1, r1, q1⟩ => ?_) hs rfl))
  obtain ⟨j, e, q1, q2, q⟩ := q1
  subst e
  cases r1 with
  | cons r rr =>
    cases rr
    obtain ⟨t, rfl⟩ := r
    exact call_range_1 (range_it I1 (by omega) (by omega) q1 q2 (by simpa using q))
theorem pi_range2 {a b : Expr} {ta : TA} {p pos : Pos} (hg : Gl X "range") (hm : X.mg "range" = none) (ha : PA X [a, b] ta) (hs : starEach [a, b] X.env = [(false, eval a X.env), (false, eval b X.env)] := by rfl) (hs2 : starEach [b] X.env = [(false, eval b X.env)] := by rfl) :
    PI X tg (.Call (.Name "range" p) [a, b] [] pos) (iRng2 ta) := by
  intro pins s σ H R I h
  refine Call_ (ld_blt I hg hm boot_range (PyProof.Rows.callWith_type1 (thn (ha pos pins s σ H _ I h) fun us s1 ⟨vs, H1, I1, r1, q1⟩ => ?_) (by rw [hs, hs2]) (by rw [hs2]; rfl)))
  obtain ⟨i, j, e, ⟨q1, q2, q3, q4⟩, q⟩ := q1
  subst e
  cases r1 with
  | cons r rr =>
    cases rr with
    | cons r' rr =>
      cases rr
      obtain ⟨t, rfl⟩ := r
      obtain ⟨t', rfl⟩ := r'
      exact call_range_2 (range_it I1 q1 q2 q3 q4 q)
def tFor (wi : TI) (g : TG) (tb : TS) : TS := fun D σ H => wi σ H fun J H1 => ∃ W : Nat → Nat → St → Hp → Prop, (∃ m, W 0 m σ H1) ∧ ∀ i m σ H, W i m σ H →
  (J.stop i H ∧ D.nx σ H) ∨ (J.go i H ∧ ∃ N : St → Hp → Prop, (∀ σ' H', N σ' H' → ∃ m', m' < m ∧ W (i + 1) m' σ' H') ∧ ∀ x H', J.yld i H x H' → g x σ H' fun σ2 H2 => tb { D with nx := N, ct := N, bk := D.nx } σ2 H2)
def pinsAt (fp : List Addr) (h : Heap) : List (Addr × Obj) := fp.filterMap fun b => (h.get? b).map fun o => (b, o)
theorem mem_pinsAt {fp : List Addr} {h : Heap} {b : Addr} {o : Obj} (hb : b ∈ fp) (e : h.get? b = some o) : (b, o) ∈ pinsAt fp h := List.mem_filterMap.mpr ⟨b, hb, by rw [e]; rfl⟩
theorem of_pinsAt {fp : List Addr} {h : Heap} {p : Addr × Obj} (hp : p ∈ pinsAt fp h) : p.1 ∈ fp ∧ h.get? p.1 = some p.2 := by
  obtain ⟨b, hb, e⟩ := List.mem_filterMap.mp hp
  cases q : h.get? b with
  | none => rw [q] at e; cases e
  | some o =>
    rw [q] at e
    have e' : (b, o) = p := Option.some.inj e
    subst e'
    exact ⟨hb, q⟩
theorem Inv.pinned {pins : List (Addr × Obj)} {σ : St} {H : Hp} {s : Shared} {fp : List Addr} (I : Inv X pins σ H s) (hf : ∀ b ∈ fp, FpOk X pins H b) (ho : ∀ b ∈ fp, ∃ o, s.heap.get? b = some o ∧ ∀ v, o.data ≠ .cell v) : Inv X (pins ++ pinsAt fp s.heap) σ H s :=
  I.pins_of fun p hp => (List.mem_append.mp hp).elim (fun z => I.pin p (List.mem_append_right _ z)) fun z => by
    obtain ⟨hb, e⟩ := of_pinsAt z
    obtain ⟨f0, f1, f2, _⟩ := hf p.1 hb
    obtain ⟨o, e', d⟩ := ho p.1 hb
    rw [e] at e'; cases e'
    exact ⟨e, f0, f1, f2, d⟩
theorem Inv.unpinned {pins pl : List (Addr × Obj)} {σ : St} {H : Hp} {s : Shared} (I : Inv X (pins ++ pl) σ H s) : Inv X pins σ H s := I.pins_of fun p hp => I.pin p (List.mem_append_right _ (List.mem_append_left _ hp))
theorem ps_for {iter : Expr} {body : List Stmt} {wi : TI} {g : TG} {tb : TS} {pos : Pos} (hp : PassesOwn (model X.prog X.w) X.A X.env X.xe) (hc : Calm X) (hi : PI X tg iter wi) (hg : PG X tg g) (hb : PSs X body tb)
    (hs : ∀ x, foldedSetIterable iter X.env x = pure x := by intro _; rfl) : PS X (.For tg iter body [] pos) (tFor wi g tb) := by
  intro pins s σ H D I h
  refine wpAny_For (thn (hi pins s σ H _ I h) fun v s1 h1 => thn h1 fun itv s2 h2 => ?_) hs
  obtain ⟨it, fp, tn, J, H2, e, I2, T, st2, f2, W, ⟨m0, w0⟩, turn⟩ := h2
  subst e
  have stat : ∀ {H' : Hp}, (∀ b ∈ fp, H' b = none) → ∀ b ∈ fp, FpOk X pins H' b := fun hn b hb => ⟨hn b hb, (f2 b hb).2⟩
  refine codeAny_forLoop_any (fun n s' => ∃ i σ' H', Inv X pins σ' H' s' ∧ tn i s'.heap ∧ (∀ b ∈ fp, H' b = none) ∧ W i n σ' H') ?_ m0 ⟨0, σ, H2, I2, st2, fun b hb => (f2 b hb).1, w0⟩
  rintro n s3 ⟨i, σ3, H3, I3, st3, fr3, w3⟩
  rcases turn i n σ3 H3 w3 with ⟨stop, qn⟩ | ⟨go, N, hN, step⟩
  · refine wpAny_passesOwn hp (thn (T.done X rfl rfl rfl hc i pins s3 σ3 H3 X.xe I3 (stat fr3) st3 stop) fun r s4 ⟨hr, I4⟩ => ?_)
    subst hr
    exact wpAny_execs_nil ⟨σ3, H3, I4, qn⟩
  · refine wpAny_passesOwn hp (thn (T.item X rfl rfl rfl hc i pins s3 σ3 H3 X.xe I3 (stat fr3) st3 go) fun r s4 ⟨u, hr, h4⟩ => ?_)
    subst hr
    refine wpAny_passesOwn hp (thn h4 fun _ s5 ⟨x, H5, I5, r5, y5, st5, fr5⟩ => ?_)
    have I5' := I5.pinned (stat fr5) (T.obj _ _ st5)
    refine wpAny_passesOwn hp (thn (hg _ s5 σ3 H5 x u _ I5' r5 (step x H5 y5)) fun _ s6 ⟨σ6, H6, I6, q6⟩ => ?_)
    refine wpAny_passesOwn hp (thn (hb _ s6 σ6 H6 _ I6 q6) fun f s7 q7 => ?_)
    have again : ∀ {σ7 : St} {H7 : Hp}, Inv X (pins ++ pinsAt fp s5.heap) σ7 H7 s7 → N σ7 H7 → ∃ m, m < n ∧ ∃ i σ' H', Inv X pins σ' H' s7 ∧ tn i s7.heap ∧ (∀ b ∈ fp, H' b = none) ∧ W i m σ' H' := fun {σ7 H7} I7 n7 => by
      obtain ⟨m', hm, w7⟩ := hN σ7 H7 n7
      refine ⟨m', hm, i + 1, σ7, H7, I7.unpinned, T.keep _ _ _ st5 fun b hb o e => (I7.pin (b, o) (List.mem_append_right _ (List.mem_append_right _ (mem_pinsAt hb e)))).1, fun b hb => ?_, w7⟩
      obtain ⟨o, e, d⟩ := T.obj _ _ st5 b hb
      exact (I7.pin (b, o) (List.mem_append_right _ (List.mem_append_right _ (mem_pinsAt hb e)))).2.1
    cases f with
    | next => obtain ⟨σ7, H7, I7, n7⟩ := q7; exact again I7 n7
    | cont => obtain ⟨σ7, H7, I7, n7⟩ := q7; exact again I7 n7
    | brk => obtain ⟨σ7, H7, I7, q7⟩ := q7; exact ⟨σ7, H7, I7.unpinned, q7⟩
    | ret v => obtain ⟨x7, σ7, H7, I7, r7, q7⟩ := q7; exact ⟨x7, σ7, H7, I7.unpinned, r7, q7⟩
end
theorem for_list {K : PySem.W.Frag} {a : Addr} {xs : List V} {g : TG} {tb : TS} {D : Ends} {σ : St} {H : Hp} (Pv : Nat → St → Hp → Prop) (h0 : Pv 0 σ H) (hl : ∀ i σ H, i ≤ xs.length → Pv i σ H → SqL K H a xs)
    (hs : ∀ i x σ H, xs[i]? = some x → Pv i σ H → g x σ H fun σ2 H2 => tb { D with nx := Pv (i + 1), ct := Pv (i + 1), bk := D.nx } σ2 H2) (hd : ∀ σ H, Pv xs.length σ H → D.nx σ H) :
    ∃ W : Nat → Nat → St → Hp → Prop, (∃ m, W 0 m σ H) ∧ ∀ i m σ H, W i m σ H →
      ((Itl K a).stop i H ∧ D.nx σ H) ∨ ((Itl K a).go i H ∧ ∃ N : St → Hp → Prop, (∀ σ' H', N σ' H' → ∃ m', m' < m ∧ W (i + 1) m' σ' H') ∧ ∀ x H', (Itl K a).yld i H x H' → g x σ H' fun σ2 H2 => tb { D with nx := N, ct := N, bk := D.nx } σ2 H2) := by
  refine ⟨fun i m σ H => m = xs.length - i ∧ i ≤ xs.length ∧ Pv i σ H, ⟨xs.length, by simp, Nat.zero_le _, h0⟩, ?_⟩
  rintro i m σ H ⟨rfl, hi, p⟩
  have q := hl i σ H hi p
  by_cases hlt : i < xs.length
  · refine .inr ⟨⟨xs, xs[i], q, by simp [hlt]⟩, Pv (i + 1), fun σ' H' p' => ⟨xs.length - (i + 1), by omega, rfl, hlt, p'⟩, fun x H' y => ?_⟩
    obtain ⟨e, y⟩ := y
    subst e
    exact hs i x σ _ (y xs q) p
  · have e : i = xs.length := by omega
    subst e
    exact .inl ⟨⟨xs, q, Nat.le_refl _⟩, hd σ H p⟩
theorem for_tup {K : PySem.W.Frag} {a : Addr} {xs : List V} {g : TG} {tb : TS} {D : Ends} {σ : St} {H : Hp} (Pv : Nat → St → Hp → Prop) (h0 : Pv 0 σ H) (hl : ∀ i σ H, i ≤ xs.length → Pv i σ H → SqT K H a xs)
    (hs : ∀ i x σ H, xs[i]? = some x → Pv i σ H → g x σ H fun σ2 H2 => tb { D with nx := Pv (i + 1), ct := Pv (i + 1), bk := D.nx } σ2 H2) (hd : ∀ σ H, Pv xs.length σ H → D.nx σ H) :
    ∃ W : Nat → Nat → St → Hp → Prop, (∃ m, W 0 m σ H) ∧ ∀ i m σ H, W i m σ H →
      ((Itt K a).stop i H ∧ D.nx σ H) ∨ ((Itt K a).go i H ∧ ∃ N : St → Hp → Prop, (∀ σ' H', N σ' H' → ∃ m', m' < m ∧ W (i + 1) m' σ' H') ∧ ∀ x H', (Itt K a).yld i H x H' → g x σ H' fun σ2 H2 => tb { D with nx := N, ct := N, bk := D.nx } σ2 H2) := by
  refine ⟨fun i m σ H => m = xs.length - i ∧ i ≤ xs.length ∧ Pv i σ H, ⟨xs.length, by simp, Nat.zero_le _, h0⟩, ?_⟩
  rintro i m σ H ⟨rfl, hi, p⟩
  have q := hl i σ H hi p
  by_cases hlt : i < xs.length
  · refine .inr ⟨⟨xs, xs[i], q, by simp [hlt]⟩, Pv (i + 1), fun σ' H' p' => ⟨xs.length - (i + 1), by omega, rfl, hlt, p'⟩, fun x H' y => ?_⟩
    obtain ⟨e, y⟩ := y
    subst e
    exact hs i x σ _ (y xs q) p
  · have e : i = xs.length := by omega
    subst e
    exact .inl ⟨⟨xs, q, Nat.le_refl _⟩, hd σ H p⟩
theorem for_range {lo : Int} {n : Nat} {g : TG} {tb : TS} {D : Ends} {σ : St} {H : Hp} (Pv : Nat → St → Hp → Prop) (h0 : Pv 0 σ H)
    (hs : ∀ i σ H, i < n → Pv i σ H → g (.int (lo + i)) σ H fun σ2 H2 => tb { D with nx := Pv (i + 1), ct := Pv (i + 1), bk := D.nx } σ2 H2) (hd : ∀ σ H, Pv n σ H → D.nx σ H) :
    ∃ W : Nat → Nat → St → Hp → Prop, (∃ m, W 0 m σ H) ∧ ∀ i m σ H, W i m σ H →
      ((Itr lo n).stop i H ∧ D.nx σ H) ∨ ((Itr lo n).go i H ∧ ∃ N : St → Hp → Prop, (∀ σ' H', N σ' H' → ∃ m', m' < m ∧ W (i + 1) m' σ' H') ∧ ∀ x H', (Itr lo n).yld i H x H' → g x σ H' fun σ2 H2 => tb { D with nx := N, ct := N, bk := D.nx } σ2 H2) := by
  refine ⟨fun i m σ H => m = n - i ∧ i ≤ n ∧ Pv i σ H, ⟨n, by simp, Nat.zero_le _, h0⟩, ?_⟩
  rintro i m σ H ⟨rfl, hi, p⟩
  by_cases hlt : i < n
  · refine .inr ⟨hlt, Pv (i + 1), fun σ' H' p' => ⟨n - (i + 1), by omega, rfl, hlt, p'⟩, fun x H' y => ?_⟩
    obtain ⟨e, y⟩ := y
    subst e y
    exact hs i σ _ hlt p
  · have e : i = n := by omega
    subst e
    exact .inl ⟨Nat.le_refl _, hd σ H p⟩
end L2
namespace L2
open PySem PySem.Spec PyProof.Rows
abbrev R2 := V → V → Hp → VK → Prop
def OpR (X : Cx) (f : Value → Value → Sem Value) (r : R2) : Prop :=
  ∀ (pins : List (Addr × Obj)) (s : Shared) (σ : St) (H : Hp) (x y : V) (v u : Value) (Q : VK), Inv X pins σ H s → RelV x v → RelV y u → r x y H Q →
    wpAny (model X.prog X.w) X.A (f v u) (EP X pins σ Q) X.xe s
def CallR (X : Cx) (f : Value) (r : List V → Hp → VK → Prop) : Prop :=
  ∀ (pins : List (Addr × Obj)) (s : Shared) (σ : St) (H : Hp) (xs : List V) (us : List Value) (Q : VK), Inv X pins σ H s → Vals xs us → r xs H Q →
    wpAny (model X.prog X.w) X.A (call f us) (EP X pins σ Q) X.xe s
def TruR (X : Cx) (r : V → Hp → (Bool → Hp → Prop) → Prop) : Prop :=
  ∀ (pins : List (Addr × Obj)) (s : Shared) (σ : St) (H : Hp) (x : V) (v : Value) (Q : Bool → Hp → Prop), Inv X pins σ H s → RelV x v → r x H Q →
    wpAny (model X.prog X.w) X.A (truthy v) (TP X pins σ Q) X.xe s
def tOp (r : R2) (ta tb : TE) : TE := fun σ H Q => ta σ H fun x H1 => tb σ H1 fun y H2 => r x y H2 Q
def tUn (r : V → Hp → VK → Prop) (ta : TE) : TE := fun σ H Q => ta σ H fun x H1 => r x H1 Q
def rI (C : Int → Int → Prop) (g : Int → Int → V) : R2 := fun x y H Q => ∃ i j, x = .int i ∧ y = .int j ∧ C i j ∧ Q (g i j) H
def rI0 (g : Int → Int → V) : R2 := fun x y H Q => ∃ i j, x = .int i ∧ y = .int j ∧ Q (g i j) H
def rU (g : Int → V) : V → Hp → VK → Prop := fun x H Q => ∃ i, x = .int i ∧ Q (g i) H
section
variable {X : Cx} {a b c : Expr} {ta tb tc : TE} {pos : Pos}
theorem binT (ha : PE X a ta) (hb : PE X b tb) {pins : List (Addr × Obj)} {s : Shared} {σ : St} {H : Hp} {R : V → V → Hp → Prop} (I : Inv X pins σ H s)
    (h : ta σ H fun x H1 => tb σ H1 fun y H2 => R x y H2) {Q : Value → Shared → Prop} {f : Value → Value → Sem Value}
    (hf : ∀ v u s2 x y H2, Inv X pins σ H2 s2 → RelV x v → RelV y u → R x y H2 → wpAny (model X.prog X.w) X.A (f v u) Q X.xe s2) :
    wpAny (model X.prog X.w) X.A (eval a X.env) (fun v s₁ => wpAny (model X.prog X.w) X.A (eval b X.env) (fun u s₂ => wpAny (model X.prog X.w) X.A (f v u) Q X.xe s₂) X.xe s₁) X.xe s := by
  refine thn (ha pins s σ H _ I h) fun v s1 ⟨x, H1, I1, r1, q1⟩ => ?_
  refine thn (hb pins s1 σ H1 _ I1 q1) fun u s2 ⟨y, H2, I2, r2, q2⟩ => ?_
  exact hf v u s2 x y H2 I2 r1 r2 q2
theorem pe_op {op : Operator} {r : R2} (ho : OpR X (binaryOp op) r) (ha : PE X a ta) (hb : PE X b tb) : PE X (.BinOp a op b pos) (tOp r ta tb) := by
  intro pins s σ H Q I h
  exact wpAny_BinOp (binT ha hb I h fun v u s2 x y H2 I2 rx ry q => ho pins s2 σ H2 x y v u Q I2 rx ry q)
theorem opI {f : Value → Value → Sem Value} {C : Int → Int → Prop} {g : Int → Int → Int}
    (rule : ∀ (i j : Int) (t u : Tok) (s : Shared) (Q : Value → Shared → Prop) (E : Value → Shared → Prop), C i j → Q (.int (g i j) s.toks) { s with toks := s.toks + 1 } → wpAny (model X.prog X.w) X.A (f (.int i t) (.int j u)) Q E s) :
    OpR X f (rI C fun i j => .int (g i j)) := by
  intro pins s σ H x y v u Q I rx ry h
  obtain ⟨i, j, rfl, rfl, hc, q⟩ := h
  obtain ⟨t, rfl⟩ := rx
  obtain ⟨t', rfl⟩ := ry
  exact rule i j t t' s _ _ hc ⟨.int (g i j), H, I.tok _, ⟨_, rfl⟩, q⟩
theorem opI0 {f : Value → Value → Sem Value} {g : Int → Int → Int}
    (rule : ∀ (i j : Int) (t u : Tok) (s : Shared) (Q : Value → Shared → Prop) (E : Value → Shared → Prop), Q (.int (g i j) s.toks) { s with toks := s.toks + 1 } → wpAny (model X.prog X.w) X.A (f (.int i t) (.int j u)) Q E s) :
    OpR X f (rI0 fun i j => .int (g i j)) := by
  intro pins s σ H x y v u Q I rx ry h
  obtain ⟨i, j, rfl, rfl, q⟩ := h
  obtain ⟨t, rfl⟩ := rx
  obtain ⟨t', rfl⟩ := ry
  exact rule i j t t' s _ _ ⟨.int (g i j), H, I.tok _, ⟨_, rfl⟩, q⟩
theorem opB0 {f : Value → Value → Sem Value} {g : Int → Int → Bool}
    (rule : ∀ (i j : Int) (t u : Tok) (s : Shared) (Q : Value → Shared → Prop) (E : Value → Shared → Prop), Q (.bool (g i j)) s → wpAny (model X.prog X.w) X.A (f (.int i t) (.int j u)) Q E s) :
    OpR X f (rI0 fun i j => .bl (g i j)) := by
  intro pins s σ H x y v u Q I rx ry h
  obtain ⟨i, j, rfl, rfl, q⟩ := h
  obtain ⟨t, rfl⟩ := rx
  obtain ⟨t', rfl⟩ := ry
  exact rule i j t t' s _ _ ⟨.bl (g i j), H, I, rfl, q⟩
def CDiv (i j : Int) : Prop := 0 < j ∧ j < 1073741824
def CPow (i j : Int) : Prop := 0 ≤ j ∧ j ≤ 1000000 ∧ i.natAbs < 2 ^ 64
def CMul (i j : Int) : Prop := (-(2 ^ 64) < i ∧ i < 2 ^ 64) ∨ (-(2 ^ 64) < j ∧ j < 2 ^ 64)
theorem CMul.ok {i j : Int} (h : CMul i j) : IntMulOk i j := by
  rcases h with ⟨h1, h2⟩ | ⟨h1, h2⟩
  · exact .of_left (intBits_le_64 h1 h2)
  · exact .of_right (intBits_le_64 h1 h2)
theorem op_add : OpR X (binaryOp .Add) (rI0 fun i j => .int (i + j)) := opI0 fun _ _ _ _ _ _ _ q => add_int q
theorem op_sub : OpR X (binaryOp .Sub) (rI0 fun i j => .int (i - j)) := opI0 fun _ _ _ _ _ _ _ q => sub_int q
theorem op_mul : OpR X (binaryOp .Mult) (rI CMul fun i j => .int (i * j)) := opI fun _ _ _ _ _ _ _ hc q => mul_int q hc.ok
theorem op_fdiv : OpR X (binaryOp .FloorDiv) (rI CDiv fun i j => .int (i / j)) := opI fun i j _ _ _ _ _ hc q => by
  have h1 : (0 : Int) < j := hc.1
  have h2 : j < 1073741824 := hc.2
  exact floordiv_int (by omega) (by rw [Int.fdiv_eq_ediv_of_nonneg i (by omega)]; exact q) (.inl (PyProof.noPylong_small (by omega)))
theorem op_mod : OpR X (binaryOp .Mod) (rI (fun _ j => 0 < j) fun i j => .int (i % j)) := opI fun i j _ _ _ _ _ hc q => by
  have h1 : (0 : Int) < j := hc
  exact mod_int' (by omega) (by rw [Int.fmod_eq_emod_of_nonneg i (by omega)]; exact q)
theorem op_pow : OpR X (binaryOp .Pow) (rI CPow fun i j => .int (i ^ j.toNat)) := opI fun _ _ _ _ _ _ _ hc q => pow_int_small hc.1 hc.2.1 hc.2.2 q
end
def scal : V → V → Bool
  | .non, .non => true | .non, .int _ => true | .int _, .non => true | .non, .bl _ => true | .bl _, .non => true | .non, .str _ => true | .str _, .non => true
  | .int _, .int _ => true | .bl _, .bl _ => true | .str _, .str _ => true | .byt _, .byt _ => true
  | .int _, .str _ => true | .str _, .int _ => true | .bl _, .str _ => true | .str _, .bl _ => true
  | _, _ => false
def rEq : R2 := fun x y H Q => scal x y = true ∧ Q (.bl (decide (x = y))) H
def rNe : R2 := fun x y H Q => scal x y = true ∧ Q (.bl (!decide (x = y))) H
theorem dec_int {i j : Int} : decide (V.int i = V.int j) = (i == j) := by
  rw [Bool.eq_iff_iff]
  simp
theorem dec_bl {i j : Bool} : decide (V.bl i = V.bl j) = (i == j) := by
  rw [Bool.eq_iff_iff]
  simp
theorem dec_str {i j : Str} : decide (V.str i = V.str j) = (i == j) := by
  rw [Bool.eq_iff_iff]
  simp
theorem dec_byt {i j : Array UInt8} : decide (V.byt i = V.byt j) = (i.toList == j.toList) := by
  rw [Bool.eq_iff_iff]
  cases i
  cases j
  simp
section
variable {X : Cx} {a b c : Expr} {ta tb tc : TE} {pos : Pos}
theorem fin_bl {pins : List (Addr × Obj)} {σ : St} {H : Hp} {s : Shared} {Q : VK} {k k' : Bool} (I : Inv X pins σ H s) (q : Q (.bl k) H) (e : k = k') : EP X pins σ Q (.bool k') s := by
  subst e
  exact ⟨.bl k, H, I, rfl, q⟩
theorem op_eq : OpR X (compareOp .Eq) rEq := by
  intro pins s σ H x y v u Q I rx ry h
  obtain ⟨hs, q⟩ := h
  cases x with
  | non =>
    cases rx
    cases y with
    | non => cases ry; exact PySem.EqNone.eq_none_none (fin_bl I q (by simp))
    | bl j => cases ry; exact PySem.EqNone.eq_none_bool (fin_bl I q (by simp))
    | int j => obtain ⟨t', rfl⟩ := ry; exact PySem.EqNone.eq_none_int (fin_bl I q (by simp))
    | str j => obtain ⟨t', rfl⟩ := ry; exact PySem.EqNone.eq_none_str (fin_bl I q (by simp))
    | _ => exact absurd (show false = true from hs) Bool.false_ne_true
  | bl i =>
    cases rx
    cases y with
    | non => cases ry; exact PySem.EqNone.eq_bool_none (fin_bl I q (by simp))
    | bl j => cases ry; exact eq_bool (fin_bl I q dec_bl)
    | str j => obtain ⟨t', rfl⟩ := ry; exact PySem.EqMixed.eq_bool_str (fin_bl I q (by simp))
    | _ => exact absurd (show false = true from hs) Bool.false_ne_true
  | int i =>
    obtain ⟨t, rfl⟩ := rx
    cases y with
    | non => cases ry; exact PySem.EqNone.eq_int_none (fin_bl I q (by simp))
    | int j => obtain ⟨t', rfl⟩ := ry; exact eq_int (fin_bl I q dec_int)
    | str j => obtain ⟨t', rfl⟩ := ry; exact PySem.EqMixed.eq_int_str (fin_bl I q (by simp))
    | _ => exact absurd (show false = true from hs) Bool.false_ne_true
  | str i =>
    obtain ⟨t, rfl⟩ := rx
    cases y with
    | non => cases ry; exact PySem.EqNone.eq_str_none (fin_bl I q (by simp))
    | bl j => cases ry; exact PySem.EqMixed.eq_str_bool (fin_bl I q (by simp))
    | int j => obtain ⟨t', rfl⟩ := ry; exact PySem.EqMixed.eq_str_int (fin_bl I q (by simp))
    | str j => obtain ⟨t', rfl⟩ := ry; exact eq_str (fin_bl I q dec_str)
    | _ => exact absurd (show false = true from hs) Bool.false_ne_true
  | byt i =>
    obtain ⟨t, rfl⟩ := rx
    cases y with
    | byt j => obtain ⟨t', rfl⟩ := ry; exact PySem.W.eq_bytes (fin_bl I q dec_byt)
    | _ => exact absurd (show false = true from hs) Bool.false_ne_true
  | _ => cases y <;> exact absurd (show false = true from hs) Bool.false_ne_true
theorem op_ne : OpR X (compareOp .NotEq) rNe := by
  intro pins s σ H x y v u Q I rx ry h
  obtain ⟨hs, q⟩ := h
  cases x with
  | non =>
    cases rx
    cases y with
    | non => cases ry; exact PySem.EqNone.ne_none_none (fin_bl I q (by simp))
    | bl j => cases ry; exact PySem.EqNone.ne_none_bool (fin_bl I q (by simp))
    | int j => obtain ⟨t', rfl⟩ := ry; exact PySem.EqNone.ne_none_int (fin_bl I q (by simp))
    | str j => obtain ⟨t', rfl⟩ := ry; exact PySem.EqNone.ne_none_str (fin_bl I q (by simp))
    | _ => exact absurd (show false = true from hs) Bool.false_ne_true
  | bl i =>
    cases rx
    cases y with
    | non => cases ry; exact PySem.EqNone.ne_bool_none (fin_bl I q (by simp))
    | bl j => cases ry; exact ne_bool (fin_bl I q (congrArg not dec_bl))
    | str j => obtain ⟨t', rfl⟩ := ry; exact PySem.EqMixed.ne_bool_str (fin_bl I q (by simp))
    | _ => exact absurd (show false = true from hs) Bool.false_ne_true
  | int i =>
    obtain ⟨t, rfl⟩ := rx
    cases y with
    | non => cases ry; exact PySem.EqNone.ne_int_none (fin_bl I q (by simp))
    | int j => obtain ⟨t', rfl⟩ := ry; exact ne_int (fin_bl I q (congrArg not dec_int))
    | str j => obtain ⟨t', rfl⟩ := ry; exact PySem.EqMixed.ne_int_str (fin_bl I q (by simp))
    | _ => exact absurd (show false = true from hs) Bool.false_ne_true
  | str i =>
    obtain ⟨t, rfl⟩ := rx
    cases y with
    | non => cases ry; exact PySem.EqNone.ne_str_none (fin_bl I q (by simp))
    | bl j => cases ry; exact PySem.EqMixed.ne_str_bool (fin_bl I q (by simp))
    | int j => obtain ⟨t', rfl⟩ := ry; exact PySem.EqMixed.ne_str_int (fin_bl I q (by simp))
    | str j => obtain ⟨t', rfl⟩ := ry; exact ne_str (fin_bl I q (congrArg not dec_str))
    | _ => exact absurd (show false = true from hs) Bool.false_ne_true
  | byt i =>
    obtain ⟨t, rfl⟩ := rx
    cases y with
    | byt j => obtain ⟨t', rfl⟩ := ry; exact PySem.W.ne_bytes (fin_bl I q (congrArg not dec_byt))
    | _ => exact absurd (show false = true from hs) Bool.false_ne_true
  | _ => cases y <;> exact absurd (show false = true from hs) Bool.false_ne_true
theorem op_lt : OpR X (compareOp .Lt) (rI0 fun i j => .bl (decide (i < j))) := opB0 fun _ _ _ _ _ _ _ q => lt_int q
theorem op_gt : OpR X (compareOp .Gt) (rI0 fun i j => .bl (decide (j < i))) := opB0 fun _ _ _ _ _ _ _ q => gt_int q
theorem op_ge : OpR X (compareOp .GtE) (rI0 fun i j => .bl (decide (j ≤ i))) := opB0 fun _ _ _ _ _ _ _ q => ge_int q
theorem op_isN : OpR X (compareOp .Is) (fun x y H Q => y = .non ∧ Q (.bl (decide (x = .non))) H) := by
  intro pins s σ H x y v u Q I rx ry h
  obtain ⟨rfl, q⟩ := h
  cases ry
  refine is_none_gen (fin_bl I q ?_)
  cases x <;> first
    | (cases rx; rfl)
    | (obtain ⟨t, rfl⟩ := rx; rfl)
theorem op_notN : OpR X (compareOp .IsNot) (fun x y H Q => y = .non ∧ Q (.bl (!decide (x = .non))) H) := by
  intro pins s σ H x y v u Q I rx ry h
  obtain ⟨rfl, q⟩ := h
  cases ry
  refine isnot_none_gen (fin_bl I q ?_)
  cases x <;> first
    | (cases rx; rfl)
    | (obtain ⟨t, rfl⟩ := rx; rfl)
theorem nomark (b : Expr) {op : CmpOp} (h : op ≠ .In := by decide) (h2 : op ≠ .NotIn := by decide) : behindInMarks op b = false := by
  have e1 : (op == CmpOp.In) = false := by cases op <;> first | rfl | exact absurd rfl h
  have e2 : (op == CmpOp.NotIn) = false := by cases op <;> first | rfl | exact absurd rfl h2
  cases b <;> simp [behindInMarks, e1, e2]
theorem pe_cmpR {op : CmpOp} {r : R2} (ho : OpR X (compareOp op) r) (ha : PE X a ta) (hb : PE X b tb) (hm : behindInMarks op b = false) : PE X (.Compare a [op] [b] pos) (tOp r ta tb) := by
  intro pins s σ H Q I h
  exact wpAny_Compare1 (binT ha hb I h fun v u s2 x y H2 I2 rx ry q => ho pins s2 σ H2 x y v u Q I2 rx ry q) hm
def tTest (t : TE) : TT := fun σ H Q => t σ H fun x H' => ∃ k, x = .bl k ∧ Q k H'
theorem pt_cmpR {op : CmpOp} {r : R2} (ho : OpR X (compareOp op) r) (ha : PE X a ta) (hb : PE X b tb) (hm : behindInMarks op b = false) : PT X (.Compare a [op] [b] pos) (tTest (tOp r ta tb)) := by
  intro pins s σ H Q I h
  refine wpAny_isTrue_Compare1 (thn (ha pins s σ H _ I h) fun v s1 ⟨x, H1, I1, r1, q1⟩ => thn (hb pins s1 σ H1 _ I1 q1) fun u s2 ⟨y, H2, I2, r2, q2⟩ =>
    thn (ho pins s2 σ H2 x y v u _ I2 r1 r2 q2) fun c s3 ⟨z, H3, I3, r3, k, e, q3⟩ => ?_) hm
  subst e
  cases r3
  exact wpAny_truthy_bool ⟨H3, I3, q3⟩
def tChain (r r' : R2) (ta tb tc : TE) : TE := fun σ H Q => ta σ H fun x H1 => tb σ H1 fun y H2 => r x y H2 fun z H3 => ∃ k, z = .bl k ∧
  (if k = true then tc σ H3 fun w' H4 => r' y w' H4 Q else Q (.bl false) H3)
def TruV (K : PySem.W.Frag) (x : V) (H : Hp) (k : Bool) : Prop :=
  match x with
  | .non => k = false
  | .bl b => k = b
  | .int i => k = (i != 0)
  | .str y => y.length ≤ sizeLine ∧ k = ((y.length : Int) != 0)
  | .byt y => y.size ≤ sizeLine ∧ k = ((y.size : Int) != 0)
  | .ref p => (∃ xs, SqL K H p xs ∧ k = !xs.isEmpty) ∨ (∃ xs, SqT K H p xs ∧ k = !xs.isEmpty) ∨ ∃ kvs, H p = some (.dK kvs) ∧ k = !kvs.isEmpty
  | _ => False
theorem isEmpty_kv {κ : Type} {kvs : List (κ × V)} {vs : List (κ × Value)} (r : KV kvs vs) : (!vs.isEmpty) = !kvs.isEmpty := by
  cases r <;> rfl
theorem isEmpty_of {xs : List V} {its : List Value} (r : Vals xs its) : (!its.toArray.isEmpty) = !xs.isEmpty := by
  cases r <;> simp
theorem line63 : (sizeLine : Nat) < 2 ^ 63 := by rw [sizeLine_eq]; decide
theorem tru_ok : TruR X (fun x H Q => ∃ k, TruV X.K x H k ∧ Q k H) := by
  intro pins s σ H x v Q I rx h
  obtain ⟨k, e, q⟩ := h
  have hl := line63
  have hs : sizeLine = 16777216 := sizeLine_eq
  cases x with
  | non =>
    cases rx
    have e' : k = false := e
    subst e'
    exact truthy_none ⟨H, I, q⟩
  | bl b =>
    cases rx
    have e' : k = b := e
    subst e'
    exact wpAny_truthy_bool ⟨H, I, q⟩
  | int i =>
    obtain ⟨t, rfl⟩ := rx
    have e' : k = (i != 0) := e
    subst e'
    exact PySem.P.truthy_int ⟨H, I, q⟩
  | str y =>
    obtain ⟨t, rfl⟩ := rx
    obtain ⟨hy, e'⟩ : y.length ≤ sizeLine ∧ k = ((y.length : Int) != 0) := e
    subst e'
    exact PySem.P.truthy_str (by omega) ⟨H, I.tok _, q⟩
  | byt y =>
    obtain ⟨t, rfl⟩ := rx
    obtain ⟨hy, e'⟩ : y.size ≤ sizeLine ∧ k = ((y.size : Int) != 0) := e
    subst e'
    exact PySem.W.truthy_bytes (by omega) ⟨H, I.tok _, q⟩
  | ref p =>
    cases rx
    have e' : (∃ xs, SqL X.K H p xs ∧ k = !xs.isEmpty) ∨ (∃ xs, SqT X.K H p xs ∧ k = !xs.isEmpty) ∨ ∃ kvs, H p = some (.dK kvs) ∧ k = !kvs.isEmpty := e
    rcases e' with ⟨xs, hx, e'⟩ | ⟨xs, hx, e'⟩ | ⟨kvs, hx, e'⟩
    · subst e'
      obtain ⟨its, r, pl, hz⟩ := I.list hx
      have hlen := r.length
      exact wpAny_truthy_list pl.isList (by simp only [List.size_toArray]; omega) ⟨H, I.tok _, by rw [isEmpty_of r]; exact q⟩
    · subst e'
      obtain ⟨its, r, pl, hz⟩ := I.tuple hx
      have hlen := r.length
      exact truthy_tuple pl (by simp only [List.size_toArray]; omega) ⟨H, I.tok _, by rw [isEmpty_of r]; exact q⟩
    · subst e'
      obtain ⟨hz, hS, vs, r, m⟩ : kvs.length ≤ sizeLine ∧ (p == sysModules) = false ∧ ∃ vs, KV kvs vs ∧ s.heap.DictOf (mixKind X.prog X.w) p vs := I.hok p _ hx
      have hlen : kvs.length = vs.length := Paired.length r
      exact wpAny_truthy_dict hS m (by omega) ⟨H, I.tok _, by rw [isEmpty_kv r]; exact q⟩
  | _ => exact (show False from e).elim
theorem pt_truth (ha : PE X a ta) (he : ∀ whole, isTrue a X.env whole = (do let v ← whole; standAt a.pos; holding [v] (truthy v))) :
    PT X a (fun σ H Q => ta σ H fun x H' => ∃ k, TruV X.K x H' k ∧ Q k H') := by
  intro pins s σ H Q I h
  exact isTrue_plain (thn (ha pins s σ H _ I h) fun v s1 ⟨x, H1, I1, r1, q1⟩ => tru_ok pins s1 σ H1 x v Q I1 r1 q1) (he _)
theorem vals1 {x : V} {us : List Value} (r : Vals [x] us) : ∃ u, us = [u] ∧ RelV x u := by
  cases r with
  | cons r1 r2 => cases r2; exact ⟨_, rfl, r1⟩
theorem vals2 {x y : V} {us : List Value} (r : Vals [x, y] us) : ∃ u w', us = [u, w'] ∧ RelV x u ∧ RelV y w' := by
  cases r with
  | cons r1 r2 =>
    cases r2 with
    | cons r3 r4 => cases r4; exact ⟨_, _, rfl, r1, r3⟩
theorem call_min2 (hc : X.calm = true) : CallR X (.builtin "min") (fun xs H Q => ∃ i j, xs = [.int i, .int j] ∧ Q (.int (if j < i then j else i)) H) := by
  intro pins s σ H xs us Q I r h
  obtain ⟨i, j, rfl, q⟩ := h
  obtain ⟨u, w', rfl, ⟨t, rfl⟩, ⟨t', rfl⟩⟩ := vals2 r
  refine min_two_ints (I.ok.hd hc) fun h' tk k => ⟨_, H, I.kept k, ?_, q⟩
  by_cases hj : j < i
  · rw [if_pos hj, if_pos hj]; exact ⟨_, rfl⟩
  · rw [if_neg hj, if_neg hj]; exact ⟨_, rfl⟩
end
end L2
namespace L2
open PySem PySem.Spec PyProof.Rows
structure ObjM (h : Heap) (x dx C : Addr) (mA : Str → Option Value) : Prop where
  obj : h.get? x = some (PySem.W.instObj C dx)
  ns : h.Ns1 dx mA
  ne : dx ≠ x
theorem lookIn_ns {h : Heap} {dx : Addr} {mA : Str → Option Value} (n : h.Ns1 dx mA) : ∃ od, h.get? dx = some od ∧ ∀ name, PySem.W.lookIn name od = some (mA name) := by
  obtain ⟨o, es, ep, ho, hd, hk, _, hm⟩ := n
  refine ⟨o, ho, fun name => ?_⟩
  have e := hm name
  unfold nsFind findBy at e
  rw [← Array.find?_toList] at e
  unfold PySem.W.lookIn
  rw [hd]
  dsimp only
  split
  · rename_i y q
    rw [q] at e
    exact congrArg some e
  · rename_i q
    rw [q] at e
    have a : es.toList.any (·.refKey) = false := by
      rw [List.any_eq_false]
      intro y hy
      obtain ⟨z, t, hkey⟩ := hk y (Array.mem_toList_iff.mp hy)
      simp [DictEntry.refKey, hkey]
    have a' : ¬ es.toList.any (·.refKey) = true := by rw [a]; exact Bool.false_ne_true
    rw [if_neg a']
    exact congrArg some e
theorem ObjM.look {h : Heap} {x dx C : Addr} {mA : Str → Option Value} (I : ObjM h x dx C mA) : ∃ od, PySem.W.InstAt h x (PySem.W.instObj C dx) C (some od) ∧ ∀ name, PySem.W.lookIn name od = some (mA name) :=
  let ⟨od, ho, hl⟩ := lookIn_ns I.ns
  ⟨od, ⟨I.obj, rfl, rfl, ho⟩, hl⟩
section
variable {prog : Program} {w : World} {A : Around} {E : Value → Shared → Prop} {s : Shared} {K : PySem.W.Frag} {x dx C f : Addr} {mA : Str → Option Value} {name : Str} {v : Value}
theorem get_map {expr : Bool} {Q : Value → Shared → Prop} (X : K.In s.heap) (I : ObjM s.heap x dx C mA) (hg : PySem.W.plainGet K C name = true) (hh : PySem.W.hasDictIn K C = true)
    (ha : PySem.W.findIn K (.ref C) name = some none) (hv : mA name = some v) (hv' : PySem.W.handedIn v = true) (h : Q v { s with toks := s.toks + 1 }) :
    wpAny (model prog w) A (getAttr (.ref x) name expr) Q E s := by
  obtain ⟨od, J, hl⟩ := I.look
  exact PySem.W.get_value X J (PySem.W.plainGet_of hg).1 (PySem.W.findObj_own hh ha rfl (by rw [hl, hv])) hv' h
theorem get_meth {pl : Sem Bool} {Q : Value × List Value → Shared → Prop} (X : K.In s.heap) (I : ObjM s.heap x dx C mA) (hg : PySem.W.plainGet K C name = true)
    (hf : PySem.W.findIn K (.ref C) name = some (some (.ref f))) (ht : PySem.W.isFn K (.ref f) = true) (hv : mA name = none) (h : Q (.ref f, [.ref x]) s) :
    wpAny (model prog w) A (getMethod (.ref x) name pl) Q E s := by
  obtain ⟨od, J, hl⟩ := I.look
  exact PySem.W.method_fn X J (PySem.W.plainGet_of hg).1 (PySem.W.plainGet_of hg).2 hf (beq_iff_eq.mp ht) (by show (PySem.W.lookIn name od).map (·.isSome) = some false; rw [hl, hv]; rfl) h
theorem set_map {ns : List Str} {Q : Unit → Shared → Prop} (X : K.In s.heap) (I : ObjM s.heap x dx C mA)
    (hs : PySem.W.findIn K (.ref C) "__setattr__" = some (some (.builtin "object.__setattr__"))) (hp : PySem.W.plainOver K C = true) (ht : PySem.W.takerIn K C name = some none) (hh : PySem.W.hasDictIn K C = true)
    (hw : PySem.Within mA ns) (hsz : ns.length ≤ sizeLine)
    (h : ∀ h', ObjM h' x dx C (fun y => if y = name then some v else mA y) → Heap.SameBut dx s.heap h' → Q () { s with heap := h', toks := s.toks + 2 }) :
    wpAny (model prog w) A (setAttr (.ref x) name v) Q E s := by
  obtain ⟨od, J, hl⟩ := I.look
  refine PySem.W.set_plain X J hs (PySem.W.osa_open (s := { s with toks := s.toks + 1 }) (r := none) X J hp ht fun b => ?_)
  obtain ⟨cd, hc, hd'⟩ := PySem.W.any_some hh
  have hx : s.heap.get? x = some ⟨.ref C, some dx, .plain, #[]⟩ := I.obj
  refine wpAny_bind (wpAny_pure (wpAny_bind (wpAny_bind (wpAny_loadPart hx (wpAny_bind (PySem.W.Looks.here (s := { s with toks := s.toks + 1 }) (PySem.W.looks_clsIn X hc) ?_))))))
  rw [hd']
  refine wpAny_pure (a := some dx) (wpAny_bind (wpAny_pure (wpAny_bind ?_)))
  refine wpAny_nsSet1 (s := { s with toks := s.toks + 1 }) I.ns fun h' hn2 hs2 => ?_
  obtain ⟨oD, esD, epD, hoD, hdD, hcD⟩ := hn2.count (PySem.Within.cons name v hw)
  refine wpAny_bind (wpAny_lookBehind hoD (by rw [hdD]; exact pastItsLine_dict (Nat.le_trans hcD (by rw [List.length_cons]; omega))) ?_)
  exact wpAny_pure (h _ ⟨(hs2.2 _ (Ne.symm I.ne)).trans I.obj, hn2, I.ne⟩ hs2)
theorem make_map {R : Result → Shared → Prop} {vs : List Value} {kw : List (Str × Value)} (X : K.In s.heap) (hm : PySem.W.makesIn K C = true)
    (hi : PySem.W.findIn K (.ref C) "__init__" = some (some (.ref f))) (hf : PySem.W.typeIn K (.ref f) = some (.type "function"))
    (h : codeAny (model prog w) (A.under (.builtin "type.__call__" ⟨.ref C :: vs, kw⟩)) (.call (.ref f) ⟨.ref (s.heap.objs.size + 1) :: vs, kw⟩) (PySem.W.InitBack (s.heap.objs.size + 1) R)
      { s with heap := (s.heap.push PySem.W.emptyDict).push (PySem.W.instObj C s.heap.objs.size) }) :
    codeAny (model prog w) A (.call (.ref C) ⟨vs, kw⟩) R s := by
  obtain ⟨hh, g, d, t, os⟩ := s
  exact PySem.W.make_core (PySem.W.makes_of X hm) (PySem.W.looks_findIn X hi) (fun self => PySem.W.bind_fn X self hf) (.inl rfl) h
end
def putF (f : Str) (v : V) : List (Str × V) → List (Str × V)
  | [] => [(f, v)]
  | (g, x) :: r => if g = f then (g, v) :: r else (g, x) :: putF f v r
theorem lookup_putF (f g : Str) (v : V) : ∀ fs : List (Str × V), (putF f v fs).lookup g = if g = f then some v else fs.lookup g
  | [] => by
    show List.lookup g [(f, v)] = _
    by_cases h : g = f
    · have hb : (g == f) = true := beq_iff_eq.mpr h
      simp only [List.lookup, hb, if_pos h]
    · have hb : (g == f) = false := beq_eq_false_iff_ne.mpr h
      simp only [List.lookup, hb, if_neg h]
  | (k, x) :: r => by
    have ih := lookup_putF f g v r
    rw [show putF f v ((k, x) :: r) = (if k = f then (k, v) :: r else (k, x) :: putF f v r) from rfl]
    by_cases hk : k = f
    · rw [if_pos hk]
      by_cases h : g = k
      · have hb : (g == k) = true := beq_iff_eq.mpr h
        simp only [List.lookup, hb, if_pos (h.trans hk)]
      · have hb : (g == k) = false := beq_eq_false_iff_ne.mpr h
        simp only [List.lookup, hb, if_neg (fun e : g = f => h (e.trans hk.symm))]
    · rw [if_neg hk]
      by_cases h : g = k
      · have hb : (g == k) = true := beq_iff_eq.mpr h
        simp only [List.lookup, hb, if_neg (fun e : g = f => hk (h.symm.trans e))]
      · have hb : (g == k) = false := beq_eq_false_iff_ne.mpr h
        simp only [List.lookup, hb]
        exact ih
theorem keys_putF (f : Str) (v : V) : ∀ fs : List (Str × V), f ∈ (putF f v fs).map (·.1) ∧ ∀ g, g ∈ fs.map (·.1) → g ∈ (putF f v fs).map (·.1)
  | [] => ⟨by simp [putF], fun g h => by simp at h⟩
  | (k, x) :: r => by
    obtain ⟨i1, i2⟩ := keys_putF f v r
    rw [show putF f v ((k, x) :: r) = (if k = f then (k, v) :: r else (k, x) :: putF f v r) from rfl]
    by_cases hk : k = f
    · rw [if_pos hk]
      subst hk
      exact ⟨by simp, fun g h => by simpa using h⟩
    · rw [if_neg hk]
      refine ⟨?_, fun g h => ?_⟩
      · rw [List.map_cons]
        exact List.mem_cons_of_mem _ i1
      · rw [List.map_cons] at h ⊢
        rcases List.mem_cons.mp h with e | e
        · exact List.mem_cons.mpr (.inl e)
        · exact List.mem_cons_of_mem _ (i2 g e)
theorem length_putF (f : Str) (v : V) : ∀ fs : List (Str × V), (putF f v fs).length ≤ fs.length + 1
  | [] => by simp [putF]
  | (k, x) :: r => by
    have ih := length_putF f v r
    rw [show putF f v ((k, x) :: r) = (if k = f then (k, v) :: r else (k, x) :: putF f v r) from rfl]
    by_cases hk : k = f
    · rw [if_pos hk, List.length_cons, List.length_cons]; omega
    · rw [if_neg hk, List.length_cons, List.length_cons]; omega
theorem RelO.some_of {v : V} {o : Option Value} (r : RelO (some v) o) : ∃ u, o = some u ∧ RelV v u := by
  cases o with
  | none => exact (show False from r).elim
  | some u => exact ⟨u, rfl, r⟩
theorem RelO.none_of {o : Option Value} (r : RelO none o) : o = none := by
  cases o with
  | none => rfl
  | some u => exact (show False from r).elim
theorem handed_of {v : V} {u : Value} (r : RelV v u) : PySem.W.handedIn u = true := by
  cases v with
  | non => cases (show u = Value.none from r); rfl
  | bl b => cases (show u = Value.bool b from r); rfl
  | int i => obtain ⟨t, e⟩ := (show ∃ t, u = Value.int i t from r); cases e; rfl
  | str x => obtain ⟨t, e⟩ := (show ∃ t, u = Value.str x t from r); cases e; rfl
  | byt b => obtain ⟨t, e⟩ := (show ∃ t, u = Value.bytes b t from r); cases e; rfl
  | flt b => obtain ⟨t, e⟩ := (show ∃ t, u = Value.float b t from r); cases e; rfl
  | ref a => cases (show u = Value.ref a from r); rfl
  | ty n => cases (show u = Value.type n from r); rfl
section
variable {P : Program} {w : World} {H H' : Hp} {h h' : Heap} {a C dx : Addr} {fs fs' : List (Str × V)}
theorem ins_get (hok : HOk P w H h) (e : H a = some (.ins C dx fs)) : ∃ mA, ObjM h a dx C mA ∧ (∀ f, RelO (fs.lookup f) (mA f)) ∧ PySem.Within mA (fs.map (·.1)) ∧ fs.length ≤ 1000 ∧ H dx = some (.own a) := by
  obtain ⟨d, z, ne, ob, mA, n, r, q⟩ := (show ObjOk P w H h a (.ins C dx fs) from hok a _ e)
  exact ⟨mA, ⟨ob, n, ne⟩, r, q, z, d⟩
end
structure Cls (K : PySem.W.Frag) (C : Addr) : Prop where
  pg : PySem.W.plainGet K C Str.empty = true
  hd : PySem.W.hasDictIn K C = true
  po : PySem.W.plainOver K C = true
  sa : PySem.W.findIn K (.ref C) "__setattr__" = some (some (.builtin "object.__setattr__"))
theorem Cls.get {K : PySem.W.Frag} {C : Addr} (c : Cls K C) (f : Str) : PySem.W.plainGet K C f = true := c.pg
def NoAttr (K : PySem.W.Frag) (C : Addr) (f : Str) : Prop := PySem.W.findIn K (.ref C) f = some none
theorem NoAttr.taker {K : PySem.W.Frag} {C : Addr} {f : Str} (n : NoAttr K C f) : PySem.W.takerIn K C f = some none := by
  unfold PySem.W.takerIn
  rw [show PySem.W.findIn K (.ref C) f = some none from n]
  rfl
structure Meth (K : PySem.W.Frag) (C : Addr) (m : Str) (f : Addr) : Prop where
  at_ : PySem.W.findIn K (.ref C) m = some (some (.ref f))
  fn : PySem.W.isFn K (.ref f) = true
  kp : PySem.W.keepIn K (.ref f) = true
section
variable {X : Cx} {pins : List (Addr × Obj)} {σ : St} {H : Hp} {s : Shared} {a C dx : Addr} {fs : List (Str × V)} {f : Str} {v : V} {A : Around} {E : Value → Shared → Prop}
theorem getattr_ok {b : Bool} {Q : Value → Shared → Prop} (I : Inv X pins σ H s) (e : H a = some (.ins C dx fs)) (c : Cls X.K C) (n : NoAttr X.K C f) (l : fs.lookup f = some v)
    (h : ∀ u s', Inv X pins σ H s' → RelV v u → Q u s') : wpAny (model X.prog X.w) A (getAttr (.ref a) f b) Q E s := by
  obtain ⟨mA, O, r, _, _, _⟩ := ins_get I.hok e
  obtain ⟨u, hu, ru⟩ := RelO.some_of (v := v) (o := mA f) (by rw [← l]; exact r f)
  exact get_map I.kIn O (c.get f) c.hd n hu (handed_of ru) (h u _ (I.tok _) ru)
theorem getmeth_ok {m : Str} {g : Addr} {pl : Sem Bool} {Q : Value × List Value → Shared → Prop} (I : Inv X pins σ H s) (e : H a = some (.ins C dx fs)) (c : Cls X.K C) (k : Meth X.K C m g) (l : fs.lookup m = none)
    (h : Q (.ref g, [.ref a]) s) : wpAny (model X.prog X.w) A (getMethod (.ref a) m pl) Q E s := by
  obtain ⟨mA, O, r, _, _, _⟩ := ins_get I.hok e
  have hn : mA m = none := RelO.none_of (by rw [← l]; exact r m)
  exact get_meth I.kIn O (c.get m) k.at_ k.fn hn h
theorem setattr_ok {y : V} {u : Value} {Q : Unit → Shared → Prop} (I : Inv X pins σ H s) (e : H a = some (.ins C dx fs)) (c : Cls X.K C) (n : NoAttr X.K C f) (hl : fs.length < 1000) (ry : RelV y u)
    (h : ∀ s', Inv X pins σ (upd H a (.ins C dx (putF f y fs))) s' → Q () s') : wpAny (model X.prog X.w) A (setAttr (.ref a) f u) Q E s := by
  obtain ⟨mA, O, r, wi, _, ho⟩ := ins_get I.hok e
  have hz : (fs.map (·.1)).length ≤ sizeLine := by rw [List.length_map, sizeLine_eq]; omega
  refine set_map I.kIn O c.sa c.po n.taker c.hd wi hz fun h' O' sb => h _ ?_
  have hd : ∃ o, h'.get? dx = some o := let ⟨o, _, _, e', _⟩ := O'.ns; ⟨o, e'⟩
  refine I.write (x := a) (e := dx) (by rw [e]; exact True.intro) (.inr ho) (fun b q hb z => (sb.2 b hb).trans z) hd ?_
  refine ⟨by rw [upd_ne O.ne]; exact ho, ?_, O.ne, O'.obj, _, O'.ns, fun g => ?_, fun g hg => ?_⟩
  · have := length_putF f y fs; omega
  · show RelO ((putF f y fs).lookup g) (if g = f then some u else mA g)
    rw [lookup_putF]
    by_cases q : g = f
    · rw [if_pos q, if_pos q]; exact ry
    · rw [if_neg q, if_neg q]; exact r g
  · by_cases q : g = f
    · rw [q]; exact (keys_putF f y fs).1
    · refine (keys_putF f y fs).2 g (wi g fun z => hg ?_)
      show (if g = f then some u else mA g) = none
      rw [if_neg q]; exact z
theorem Inv.made (I : Inv X pins σ H s) : Inv X pins σ (upd (upd H s.heap.objs.size (.own (s.heap.objs.size + 1))) (s.heap.objs.size + 1) (.ins C s.heap.objs.size []))
    { s with heap := (s.heap.push PySem.W.emptyDict).push (PySem.W.instObj C s.heap.objs.size) } := by
  have e1 : (s.heap.push PySem.W.emptyDict).get? s.heap.objs.size = some PySem.W.emptyDict := Heap.get?_push_size s.heap rfl
  have e2 : ((s.heap.push PySem.W.emptyDict).push (PySem.W.instObj C s.heap.objs.size)).get? (s.heap.objs.size + 1) = some (PySem.W.instObj C s.heap.objs.size) := by
    have := Heap.get?_push_size (s.heap.push PySem.W.emptyDict) (o := PySem.W.instObj C s.heap.objs.size) rfl
    rwa [Heap.size_push] at this
  have e3 : (s.heap.push PySem.W.emptyDict).Ns s.heap.objs.size (fun _ => none) := ⟨PySem.W.emptyDict, #[], _, e1, rfl, (fun e he => absurd he (by simp)), fun _ => rfl⟩
  have I1 := I.laid (a := s.heap.objs.size) (o := .own (s.heap.objs.size + 1)) (h' := s.heap.push PySem.W.emptyDict) (t' := s.toks) (fun b u q => Heap.get?_push_of_some _ q) (Nat.le_refl _) ⟨_, e1⟩
  refine I1.laid (a := s.heap.objs.size + 1) (o := .ins C s.heap.objs.size []) (t' := s.toks) (fun b u q => Heap.get?_push_of_some _ q) (Nat.le_of_eq (Heap.size_push _ _)) ?_
  have ne : s.heap.objs.size ≠ s.heap.objs.size + 1 := Nat.ne_of_lt (Nat.lt_succ_self _)
  refine ⟨by rw [upd_ne ne, upd_same], Nat.zero_le _, ne, e2, fun _ => none, (Heap.Ns1.of_empty e3).at fun o q => Heap.get?_push_of_some _ q, fun _ => True.intro, fun y hy => absurd rfl hy⟩
theorem attr_of {prog : Program} {w : World} {env : Env} {e : Expr} {f : Str} {pos : Pos} {s : Shared} {Q : Value → Shared → Prop} (hb : attributeBase e f env (eval e env) = eval e env)
    (h : wpAny (model prog w) A (eval e env) (fun o s₁ => wpAny (model prog w) A (getAttr o f true) Q E s₁) E s) : wpAny (model prog w) A (eval (.Attribute e f pos) env) Q E s :=
  Attribute_any_ h (by rw [arm_eval_Attribute, hb])
end
def tFld (K : PySem.W.Frag) (ta : TE) (f : Str) : TE := fun σ H Q => ta σ H fun x H1 => ∃ a C dx fs v, x = .ref a ∧ H1 a = some (.ins C dx fs) ∧ Cls K C ∧ NoAttr K C f ∧ fs.lookup f = some v ∧ Q v H1
def sFld (K : PySem.W.Frag) (ta tv : TE) (f : Str) : TS := fun D σ H => tv σ H fun y H1 => ta σ H1 fun x H2 => ∃ a C dx fs, x = .ref a ∧ H2 a = some (.ins C dx fs) ∧ Cls K C ∧ NoAttr K C f ∧ fs.length < 1000 ∧
  D.nx σ (upd H2 a (.ins C dx (putF f y fs)))
section
variable {X : Cx} {o e value : Expr} {f : Str} {pos pos' tpos : Pos} {ta tv : TE}
theorem pe_fld (he : PE X e ta) (hb : attributeBase e f X.env (eval e X.env) = eval e X.env) : PE X (.Attribute e f pos) (tFld X.K ta f) := by
  intro pins s σ H Q I h
  refine attr_of hb (thn (he pins s σ H _ I h) fun u s1 ⟨x, H1, I1, rx, a, C, dx, fs, v, ex, ea, c, n, l, q⟩ => ?_)
  subst ex
  obtain rfl : u = Value.ref a := rx
  exact getattr_ok I1 ea c n l fun u' s2 I2 ru => ⟨v, H1, I2, ru, q⟩
theorem ps_fld (ha : PE X o ta) (hv : PE X value tv) (hs : swapsWith value (some (.Attribute o f pos')) pos.line X.env = pure false) : PS X (.Assign [.Attribute o f pos'] value pos) (sFld X.K ta tv f) := by
  intro pins s σ H D I h
  refine plainObj_wpAny_Assign_Attribute (thn (hv pins s σ H _ I h) fun u s1 ⟨y, H1, I1, ry, q⟩ => thn (ha pins s1 σ H1 _ I1 q) fun ov s2 ⟨x, H2, I2, rx, a, C, dx, fs, ex, ea, c, n, l, q2⟩ => ?_) hs
  subst ex
  obtain rfl : ov = Value.ref a := rx
  exact setattr_ok I2 ea c n l ry fun s3 I3 => ⟨σ, _, I3, q2⟩
end
section
variable {X : Cx} {pins : List (Addr × Obj)} {σ : St} {H : Hp} {s : Shared} {A : Around} {E : Value → Shared → Prop} {Q : Value → Shared → Prop} {c : Value} {b : Bool}
inductive TyOf (K : PySem.W.Frag) (H : Hp) : V → Value → Prop where
  | non : TyOf K H .non (.type "NoneType")
  | bl (x : Bool) : TyOf K H (.bl x) (.type "bool")
  | int (i : Int) : TyOf K H (.int i) (.type "int")
  | str (x : Str) : TyOf K H (.str x) (.type "str")
  | flt (x : UInt64) : TyOf K H (.flt x) (.type "float")
  | lst {a : Addr} {xs : List V} (e : H a = some (.lst xs)) : TyOf K H (.ref a) (.type "list")
  | frz {a : Addr} {o : Obj} {xs : List V} (e : H a = some (.frz o (.lst xs))) : TyOf K H (.ref a) (.type "list")
  | tup {a : Addr} {xs : List V} (e : H a = some (.tup xs)) : TyOf K H (.ref a) (.type "tuple")
  | dK {a : Addr} {kvs : List (Key × V)} (e : H a = some (.dK kvs)) : TyOf K H (.ref a) (.type "dict")
  | dT {a : Addr} {kvs : List (List Key × V)} (e : H a = some (.dT kvs)) : TyOf K H (.ref a) (.type "dict")
  | ins {a C dx : Addr} {fs : List (Str × V)} (e : H a = some (.ins C dx fs)) (cl : Cls K C) (ha : PySem.W.findIn K (.ref C) "__class__" = some (some (.builtin "object.__class__")))
      (hn : PySem.W.specialIn K (.builtin "object.__class__") "__get__" = some (some (.builtin "getset_descriptor.__get__"))) (htk : PySem.W.takesIn K (.builtin "object.__class__") = some true)
      (hm : PySem.W.mroIn K C (.type "object") = some true) : TyOf K H (.ref a) (.ref C)
theorem isinst_ok {x : V} {u t : Value} (I : Inv X pins σ H s) (rx : RelV x u) (ty : TyOf X.K H x t) (e : PySem.W.kitOne X.K t c = some b) (h : ∀ tk, Q (.bool b) { s with toks := tk }) :
    wpAny (model X.prog X.w) A (call (.builtin "isinstance") [u, c]) Q E s := by
  cases ty with
  | non => cases (show u = Value.none from rx); exact PySem.W.kia_one PySem.W.kitx_none I.kIn True.intro e (fun z => nomatch z) h
  | bl y => cases (show u = Value.bool y from rx); exact PySem.W.kia_one PySem.W.kitx_bool I.kIn True.intro e (fun z => nomatch z) h
  | int i => obtain ⟨t, q⟩ := (show ∃ t, u = Value.int i t from rx); cases q; exact PySem.W.kia_one PySem.W.kitx_int I.kIn True.intro e (fun z => nomatch z) h
  | str y => obtain ⟨t, q⟩ := (show ∃ t, u = Value.str y t from rx); cases q; exact PySem.W.kia_one PySem.W.kitx_str I.kIn True.intro e (fun z => nomatch z) h
  | flt y => obtain ⟨t, q⟩ := (show ∃ t, u = Value.float y t from rx); cases q; exact PySem.W.kia_one PySem.W.kitx_float I.kIn True.intro e (fun z => nomatch z) h
  | @lst a xs ea =>
    cases (show u = Value.ref a from rx)
    obtain ⟨_, _, n, _, h1⟩ := (show ObjOk X.prog X.w H s.heap a (.lst xs) from I.hok a _ ea)
    exact PySem.W.kia_one PySem.W.kitx_list I.kIn ⟨_, h1, rfl⟩ e (fun z => nomatch z) h
  | @frz a ob xs ea =>
    cases (show u = Value.ref a from rx)
    obtain ⟨_, _, _, n, _, h1⟩ := (show ObjOk X.prog X.w H s.heap a (.frz ob (.lst xs)) from I.hok a _ ea)
    exact PySem.W.kia_one PySem.W.kitx_list I.kIn ⟨_, h1, rfl⟩ e (fun z => nomatch z) h
  | @tup a xs ea =>
    cases (show u = Value.ref a from rx)
    obtain ⟨_, _, _, p⟩ := (show ObjOk X.prog X.w H s.heap a (.tup xs) from I.hok a _ ea)
    obtain ⟨o, h1, h2, _⟩ := p
    exact PySem.W.kia_one PySem.W.kitx_tuple I.kIn ⟨o, h1, h2⟩ e (fun z => nomatch z) h
  | @dK a kvs ea =>
    cases (show u = Value.ref a from rx)
    obtain ⟨_, _, vs, _, p⟩ := (show ObjOk X.prog X.w H s.heap a (.dK kvs) from I.hok a _ ea)
    obtain ⟨o, es, ep, h1, h2, _⟩ := p
    exact PySem.W.kia_one PySem.W.kitx_dict I.kIn ⟨o, h1, h2.1⟩ e (fun z => nomatch z) h
  | @dT a kvs ea =>
    cases (show u = Value.ref a from rx)
    obtain ⟨_, _, xs, _, o, es, ep, h1, h2, _⟩ := (show ObjOk X.prog X.w H s.heap a (.dT kvs) from I.hok a _ ea)
    exact PySem.W.kia_one PySem.W.kitx_dict I.kIn ⟨o, h1, h2.1⟩ e (fun z => nomatch z) h
  | @ins a C dx fs ea cl ha hn htk hm =>
    cases (show u = Value.ref a from rx)
    obtain ⟨mA, O, _⟩ := ins_get I.hok ea
    obtain ⟨od, J, _⟩ := O.look
    exact PySem.W.kia_one (PySem.W.kitx_own (cl.get _) cl.hd ha hn htk hm) I.kIn J e (fun z => nomatch z) h
end
end L2
namespace L2
open PySem PySem.Spec PyProof.Rows
structure Room (k : Nat) (A : Around) : Prop where
  hd : A.handled = none
  dp : A.depth + 3 * k + 5 < recursionLimit
  un : A.units + 16 * k + 200 < cLine
theorem Room.mono {j k : Nat} {A : Around} (r : Room k A) (h : j ≤ k) : Room j A := ⟨r.hd, by have := r.dp; omega, by have := r.un; omega⟩
theorem Room.deeper {k : Nat} {A : Around} (r : Room (k + 1) A) (env : Env) : Room k (A.deeper env) :=
  ⟨r.hd, by have := r.dp; show A.depth + 1 + 3 * k + 5 < _; omega, by have := r.un; show A.units + 3 + 16 * k + 200 < _; omega⟩
theorem Room.in1 {k : Nat} {A : Around} (r : Room (k + 1) A) : Room k A.in1 :=
  ⟨r.hd, by have := r.dp; show A.depth + 3 * k + 5 < _; omega, by have := r.un; show A.units + 1 + 16 * k + 200 < _; omega⟩
theorem make_depth {A : Around} {C : Addr} {us : List Value} {kw : List (Str × Value)} : (A.under (.builtin "type.__call__" ⟨.ref C :: us, kw⟩)).depth = A.depth + 1 := by
  first | rfl | simp [Around.under, Code.weight, Code.isCreation, Code.isGuard, Code.isCaller, Code.frames, Code.isFrame, guardIds]
theorem make_units {A : Around} {C : Addr} {us : List Value} {kw : List (Str × Value)} : (A.under (.builtin "type.__call__" ⟨.ref C :: us, kw⟩)).units = A.units + 1 := by
  first | rfl | simp [Around.under, Code.cUnits, Code.frames, Code.isFrame]
theorem Room.make {k : Nat} {A : Around} (r : Room (k + 1) A) (C : Addr) (us : List Value) (kw : List (Str × Value)) : Room k (A.under (.builtin "type.__call__" ⟨.ref C :: us, kw⟩)) :=
  ⟨r.hd, by have := r.dp; rw [make_depth]; omega, by have := r.un; rw [make_units]; omega⟩
theorem Room.depth {k : Nat} {A : Around} (r : Room k A) : A.depth < recursionLimit := by have := r.dp; omega
theorem Room.units {k : Nat} {A : Around} (r : Room k A) : A.units + 64 < cLine := by have := r.un; omega
theorem Room.units0 {k : Nat} {A : Around} (r : Room k A) : A.units < cLine := by have := r.un; omega
def tNil : TA := fun _ H Q => Q [] H
def tCons (ta : TE) (tr : TA) : TA := fun σ H Q => ta σ H fun x H1 => tr σ H1 fun xs H2 => Q (x :: xs) H2
section
variable {X : Cx} {e : Expr} {es : List Expr} {te : TE} {t : TA} {pos : Pos}
theorem pa_nil : PA X [] tNil := fun _ _ _ _ H Q I h => Calls.spliced_nil ⟨[], H, I, .nil, h⟩
theorem pa_cons (ha : PE X e te) (hr : PA X es t) (hs : starEach (e :: es) X.env = (false, eval e X.env) :: starEach es X.env := by rfl) : PA X (e :: es) (tCons te t) := by
  intro pos pins s σ H Q I h
  rw [hs]
  show wpAny _ _ (spliced ((false, eval e X.env) :: backTo pos (starEach es X.env))) _ _ s
  refine Calls.spliced_cons (thn (ha pins s σ H _ I h) fun u s1 ⟨x, H1, I1, r1, q1⟩ => ?_)
  exact thn (hr pos pins s1 σ H1 _ I1 q1) fun us s2 ⟨xs, H2, I2, r2, q2⟩ => ⟨x :: xs, H2, I2, .cons r1 r2, q2⟩
def tTup (t : TA) : TE := fun σ H Q => t σ H fun xs H1 => xs.length ≤ sizeLine ∧ ∀ p, H1 p = none → Q (.ref p) (upd H1 p (.tup xs))
def tLst (t : TA) : TE := fun σ H Q => t σ H fun xs H1 => xs.length ≤ sizeLine ∧ ∀ p, H1 p = none → Q (.ref p) (upd H1 p (.lst xs))
theorem pe_tup {x1} (h : PA X es t) : PE X (.Tuple es x1 pos) (tTup t) := by
  intro pins s σ H Q I hq
  refine wpAny_Tuple_spliced (thn (h pos pins s σ H _ I hq) fun us s1 ⟨xs, H1, I1, r, z, q⟩ => ⟨by rw [← r.length]; exact z, ?_⟩)
  have hf : H1 s1.heap.objs.size = none := I1.hok.fresh (Nat.le_refl _)
  refine ⟨.ref s1.heap.objs.size, upd H1 s1.heap.objs.size (.tup xs), I1.laid (t' := s1.toks) (fun b u e => Heap.get?_push_of_some _ e) (Nat.le_refl _) ?_, rfl, q _ hf⟩
  exact ⟨z, us, r, ⟨_, Heap.get?_push_size _ rfl, rfl, _, rfl⟩⟩
theorem pe_lst (h : PA X es t) : PE X (.List es pos) (tLst t) := by
  intro pins s σ H Q I hq
  refine wpAny_List_spliced (thn (h pos pins s σ H _ I hq) fun us s1 ⟨xs, H1, I1, r, z, q⟩ => ⟨by rw [← r.length]; exact z, ?_⟩)
  have hf : H1 s1.heap.objs.size = none := I1.hok.fresh (Nat.le_refl _)
  refine ⟨.ref s1.heap.objs.size, upd H1 s1.heap.objs.size (.lst xs), I1.laid (t' := s1.toks) (fun b u e => Heap.get?_push_of_some _ e) (Nat.le_refl _) ?_, rfl, q _ hf⟩
  exact ⟨z, us, 0, r, Heap.get?_push_size _ rfl⟩
end
abbrev Sp := List V → Hp → VK → XK → Prop
abbrev CXT := List Env → Hp → Shared → XK → Value → Shared → Prop
structure Env0 (P : Program) (w : World) (K : PySem.W.Frag) (mg : Str → Option Value) (base : Heap) (A : Around) (outer : List Env) (s : Shared) (H : Hp) : Prop where
  frames : A.frames = some outer
  mod : Mod K mg base
  bs : ∀ b o, base.get? b = some o → s.heap.get? b = some o ∧ H b = none
  bsz : base.objs.size ≤ s.heap.objs.size
  funs : s.heap.FunFrames base outer
  frf : ∀ b ∈ frs outer, H b = none
  hok : HOk P w H s.heap
  bare : AllBare s.gens
def CE (outer : List Env) (P : Program) (w : World) (H : Hp) (s : Shared) (Q : VK) (u : Value) (s' : Shared) : Prop :=
  ∃ v H', s'.os = s.os ∧ AllBare s'.gens ∧ Un (frs outer) [] H H' s.heap s'.heap ∧ HOk P w H' s'.heap ∧ RelV v u ∧ Q v H'
def CR (CX : CXT) (outer : List Env) (P : Program) (w : World) (H : Hp) (s : Shared) (Q : VK) (E : XK) (r : Result) (s' : Shared) : Prop :=
  match r with
  | .ok (.ret u) => CE outer P w H s Q u s'
  | .ok _ => False
  | .error e => CX outer H s E e s'
structure FnOk (P : Program) (w : World) (K : PySem.W.Frag) (mg : Str → Option Value) (base : Heap) (CX : CXT) (k : Nat) (f : Addr) (fd : FuncData) (ps : List Str) (sp : Sp) : Prop where
  len : ∀ vs H Q E, sp vs H Q E → vs.length = ps.length
  run : ∀ (A : Around) (outer : List Env) (s : Shared) (H : Hp) (args : Args) (us : List Value) (vs : List V) (Q : VK) (E : XK), Room k A → Env0 P w K mg base A outer s H → BindsTo s fd args (ps.zip us) → Vals vs us → sp vs H Q E →
    codeAny (model P w) A (.call (.ref f) args) (CR CX outer P w H s Q E) s
theorem FnOk.mono {P : Program} {w : World} {K : PySem.W.Frag} {mg : Str → Option Value} {base : Heap} {CX : CXT} {j k : Nat} {f : Addr} {fd : FuncData} {ps : List Str} {sp : Sp} (F : FnOk P w K mg base CX j f fd ps sp) (h : j ≤ k) :
    FnOk P w K mg base CX k f fd ps sp := ⟨F.len, fun A outer s H args us vs Q E hr => F.run A outer s H args us vs Q E (hr.mono h)⟩
theorem FnOk.imp {P : Program} {w : World} {K : PySem.W.Frag} {mg : Str → Option Value} {base : Heap} {CX : CXT} {k : Nat} {f : Addr} {fd : FuncData} {ps : List Str} {sp sp' : Sp} (F : FnOk P w K mg base CX k f fd ps sp)
    (h : ∀ vs H Q E, sp' vs H Q E → sp vs H Q E) : FnOk P w K mg base CX k f fd ps sp' :=
  ⟨fun vs H Q E q => F.len vs H Q E (h _ _ _ _ q), fun A outer s H args us vs Q E hr he hb hv hs => F.run A outer s H args us vs Q E hr he hb hv (h _ _ _ _ hs)⟩
theorem Env0.make {P : Program} {w : World} {K : PySem.W.Frag} {mg : Str → Option Value} {base : Heap} {A : Around} {outer : List Env} {s : Shared} {H : Hp} (e : Env0 P w K mg base A outer s H) (C : Addr) (us : List Value) (kw : List (Str × Value)) :
    Env0 P w K mg base (A.under (.builtin "type.__call__" ⟨.ref C :: us, kw⟩)) outer s H := ⟨by first | exact e.frames | (simpa [Around.under, Code.envs, Code.isFrame, pushEnvs] using e.frames), e.mod, e.bs, e.bsz, e.funs, e.frf, e.hok, e.bare⟩
theorem Env0.in1 {P : Program} {w : World} {K : PySem.W.Frag} {mg : Str → Option Value} {base : Heap} {A : Around} {outer : List Env} {s : Shared} {H : Hp} (e : Env0 P w K mg base A outer s H) :
    Env0 P w K mg base A.in1 outer s H := ⟨e.frames, e.mod, e.bs, e.bsz, e.funs, e.frf, e.hok, e.bare⟩
section
variable {X : Cx} {pins : List (Addr × Obj)} {σ : St} {H : Hp} {s s' : Shared}
theorem Inv.env0 (I : Inv X pins σ H s) : Env0 X.prog X.w X.K X.mg X.base X.A X.stack s H :=
  ⟨I.ok.frames, I.ok.mod, I.bs, Nat.le_trans I.ok.bsz I.sz, I.stack, I.stkFree, I.hok, I.bare⟩
theorem Inv.after {Q : VK} {u : Value} (I : Inv X pins σ H s) (h : CE X.stack X.prog X.w H s Q u s') : EP X pins σ Q u s' := by
  obtain ⟨v, H', os, bare, un, hok, r, q⟩ := h
  obtain ⟨hh, g, d, t, os'⟩ := s'
  obtain rfl : os' = s.os := os
  exact ⟨v, H', I.call (h' := hh) (g' := g) (d' := d) (t' := t) (ch := []) un hok bare (fun b z => absurd z (by simp)), r, q⟩
end
def tCall (sp : Sp) (dvs : List V) (E : XK) (t : TA) : TE := fun σ H Q => t σ H fun vs H1 => sp (vs ++ dvs) H1 Q E
def tMeth (C : Addr) (m : Str) (sp : Sp) (dvs : List V) (E : XK) (ta : TE) (t : TA) : TE := fun σ H Q => ta σ H fun x H1 => ∃ a dx fs, x = .ref a ∧ H1 a = some (.ins C dx fs) ∧ fs.lookup m = none ∧
  t σ H1 fun vs H2 => sp (x :: (vs ++ dvs)) H2 Q E
def tMake (C : Addr) (sp : Sp) (dvs : List V) (E : XK) (t : TA) : TE := fun σ H Q => t σ H fun vs H1 => ∀ x dx, H1 x = none → H1 dx = none → dx ≠ x →
  sp (.ref x :: (vs ++ dvs)) (upd (upd H1 dx (.own x)) x (.ins C dx [])) (fun v H2 => v = .non ∧ Q (.ref x) H2) E
def Binds (K : PySem.W.Frag) (fd : FuncData) (ps : List Str) (ds : List Value) : Prop :=
  ∀ (s : Shared) (us : List Value), K.In s.heap → (us ++ ds).length = ps.length → BindsTo s fd ⟨us, []⟩ (ps.zip (us ++ ds))
theorem Binds.all {K : PySem.W.Frag} {fd : FuncData} {ps : List Str} (h : ∀ us : List Value, us.length = ps.length → bindArgs fd ⟨us, []⟩ = pure (ps.zip us)) : Binds K fd ps [] := fun s us _ hl => by
  rw [List.append_nil] at hl ⊢
  exact .of_eq (h us hl)
def Passes (CX : CXT) (X : Cx) (E : XK) : Prop := ∀ (pins : List (Addr × Obj)) (σ : St) (H : Hp) (s : Shared) (e : Value) (s' : Shared), Inv X pins σ H s → CX X.stack H s E e s' → X.xe e s'
section
variable {X : Cx} {CX : CXT} {k : Nat} {f C : Addr} {fd : FuncData} {ps : List Str} {sp : Sp} {dvs : List V} {ds : List Value} {E : XK} {x m : Str} {p pos apos : Pos} {e o : Expr} {es : List Expr} {ta : TE} {t : TA}
theorem run_fn {pins : List (Addr × Obj)} {σ : St} {H : Hp} {s : Shared} {Q : VK} {us : List Value} {vs : List V} (F : FnOk X.prog X.w X.K X.mg X.base CX k f fd ps sp) (hr : Room k X.A) (hb : Binds X.K fd ps ds) (hd : Vals dvs ds) (hx : Passes CX X E)
    (I : Inv X pins σ H s) (r : Vals vs us) (h : sp (vs ++ dvs) H Q E) : wpAny (model X.prog X.w) X.A (call (.ref f) us) (EP X pins σ Q) X.xe s := by
  have r2 : Vals (vs ++ dvs) (us ++ ds) := r.append hd
  have hl : (us ++ ds).length = ps.length := by rw [← r2.length]; exact F.len _ _ _ _ h
  refine wpAny_call (codeAny_mono (F.run X.A X.stack s H ⟨us, []⟩ (us ++ ds) (vs ++ dvs) Q E hr I.env0 (hb s us I.kIn hl) r2 h) fun r s' hq => ?_)
  cases r with
  | error e => exact hx pins σ H s e s' I hq
  | ok fl =>
    cases fl with
    | ret u => exact I.after hq
    | next => exact False.elim hq
    | brk => exact False.elim hq
    | cont => exact False.elim hq
theorem pe_call (F : FnOk X.prog X.w X.K X.mg X.base CX k f fd ps sp) (hr : Room k X.A) (hg : Gl X x) (hm : X.mg x = some (.ref f)) (hk : PySem.W.keepIn X.K (.ref f) = true) (hb : Binds X.K fd ps ds) (hd : Vals dvs ds) (hx : Passes CX X E)
    (ha : PA X (e :: es) t) (hdb : (x == ("__debug__" : Str)) = false := by decide) (he : starEach (e :: es) X.env = (false, eval e X.env) :: starEach es X.env := by rfl) (hpl : (backTo pos (starEach es X.env)).any (·.1) = false := by rfl) :
    PE X (.Call (.Name x p) (e :: es) [] pos) (tCall sp dvs E t) := by
  intro pins s σ H Q I h
  refine wpAny_Call_Name_kw (ld_glob I hg hm ?_ hdb)
  refine PySem.W.callWith_K (h₀ := X.base) I.ok.mod.kin hk (thn (ha pos pins s σ H _ I h) fun us s1 ⟨vs, H1, I1, r, q⟩ => ⟨I1.kIn, ?_⟩) he hpl
  exact run_fn F hr hb hd hx I1 r q
theorem pe_meth {pl : Sem Bool} (he : PE X o ta) (c : Cls X.K C) (hm : Meth X.K C m f) (F : FnOk X.prog X.w X.K X.mg X.base CX k f fd ps sp) (hr : Room k X.A) (hb : Binds X.K fd ps ds) (hd : Vals dvs ds) (hx : Passes CX X E) (ha : PA X (e :: es) t)
    (hst : starEach (e :: es) X.env = (false, eval e X.env) :: starEach es X.env := by rfl) (hpl : (backTo pos (starEach es X.env)).any (·.1) = false := by rfl)
    (ht : eval (.Call (.Attribute o m apos) (e :: es) [] pos) X.env = (do
      let ov ← eval o X.env
      standAt apos.atName
      let (f, first) ← holding [ov] (getMethod ov m pl)
      callWith pos f first (backTo pos (starEach (e :: es) X.env)) (backToKw pos (keywordEach [] X.env))) := by rfl) :
    PE X (.Call (.Attribute o m apos) (e :: es) [] pos) (tMeth C m sp dvs E ta t) := by
  intro pins s σ H Q I h
  refine PySem.W.methodCall_KW (pl := pl) (thn (he pins s σ H _ I h) fun u s1 ⟨x, H1, I1, rx, a, dx, fs, ex, ea, l, q⟩ => ?_) ht
  subst ex
  obtain rfl : u = Value.ref a := rx
  refine getmeth_ok I1 ea c hm l ?_
  refine PySem.W.callWith_K (first := [.ref a]) (h₀ := X.base) I.ok.mod.kin hm.kp (thn (ha pos pins s1 σ H1 _ I1 q) fun us s2 ⟨vs, H2, I2, r, q2⟩ => ⟨I2.kIn, ?_⟩) hst hpl
  exact run_fn (us := .ref a :: us) (vs := .ref a :: vs) F hr hb hd hx I2 (.cons rfl r) q2
theorem pe_meth0 {pl : Sem Bool} (he : PE X o ta) (c : Cls X.K C) (hm : Meth X.K C m f) (F : FnOk X.prog X.w X.K X.mg X.base CX k f fd ps sp) (hr : Room k X.A) (hb : Binds X.K fd ps ds) (hd : Vals dvs ds) (hx : Passes CX X E)
    (ht : eval (.Call (.Attribute o m apos) [] [] pos) X.env = (do
      let ov ← eval o X.env
      standAt apos.atName
      let (f, first) ← holding [ov] (getMethod ov m pl)
      callWith pos f first (backTo pos (starEach [] X.env)) (backToKw pos (keywordEach [] X.env))) := by rfl) :
    PE X (.Call (.Attribute o m apos) [] [] pos) (tMeth C m sp dvs E ta tNil) := by
  intro pins s σ H Q I h
  refine PySem.W.methodCall_KW (pl := pl) (thn (he pins s σ H _ I h) fun u s1 ⟨x, H1, I1, rx, a, dx, fs, ex, ea, l, q⟩ => ?_) ht
  subst ex
  obtain rfl : u = Value.ref a := rx
  refine getmeth_ok I1 ea c hm l ?_
  exact PySem.W.callWith_K0 (first := [.ref a]) I1.kIn hm.kp (run_fn (us := [.ref a]) (vs := [.ref a]) F hr hb hd hx I1 (.cons rfl .nil) q)
structure Mk (K : PySem.W.Frag) (C f : Addr) : Prop where
  makes : PySem.W.makesIn K C = true
  init : PySem.W.findIn K (.ref C) "__init__" = some (some (.ref f))
  fn : PySem.W.isFn K (.ref f) = true
  kp : PySem.W.keepIn K (.ref C) = true
theorem run_make {pins : List (Addr × Obj)} {σ : St} {H : Hp} {s : Shared} {Q : VK} {us : List Value} {vs : List V} (M : Mk X.K C f) (F : FnOk X.prog X.w X.K X.mg X.base CX k f fd ps sp) (hr : Room (k + 1) X.A) (hb : Binds X.K fd ps ds) (hd : Vals dvs ds)
    (hx : Passes CX X E) (I : Inv X pins σ H s) (r : Vals vs us)
    (h : ∀ x dx, H x = none → H dx = none → dx ≠ x → sp (.ref x :: (vs ++ dvs)) (upd (upd H dx (.own x)) x (.ins C dx [])) (fun v H2 => v = .non ∧ Q (.ref x) H2) E) :
    wpAny (model X.prog X.w) X.A (call (.ref C) us) (EP X pins σ Q) X.xe s := by
  have hq := h (s.heap.objs.size + 1) s.heap.objs.size (I.hok.fresh (Nat.le_succ _)) (I.hok.fresh (Nat.le_refl _)) (Nat.ne_of_lt (Nat.lt_succ_self _))
  have I2 := Inv.made (C := C) I
  have r2 : Vals (V.ref (s.heap.objs.size + 1) :: (vs ++ dvs)) (Value.ref (s.heap.objs.size + 1) :: (us ++ ds)) := .cons rfl (r.append hd)
  have hl : (Value.ref (s.heap.objs.size + 1) :: us ++ ds).length = ps.length := by
    have e := r2.length
    rw [F.len _ _ _ _ hq] at e
    exact e.symm
  refine wpAny_call (make_map (f := f) I.kIn M.makes M.init (beq_iff_eq.mp M.fn) (codeAny_mono (F.run _ X.stack _ _ ⟨Value.ref (s.heap.objs.size + 1) :: us, []⟩ (Value.ref (s.heap.objs.size + 1) :: (us ++ ds)) _ _ E (hr.make C us [])
    (I2.env0.make C us []) (hb _ (Value.ref (s.heap.objs.size + 1) :: us) I2.kIn hl) r2 hq) fun r s' hq' => ?_))
  cases r with
  | error e => exact hx pins σ _ _ e s' I2 hq'
  | ok fl =>
    cases fl with
    | ret u =>
      obtain ⟨v, H', I3, rv, ev, q3⟩ := I2.after hq'
      subst ev
      exact ⟨rv, ⟨V.ref (s.heap.objs.size + 1), H', I3, rfl, q3⟩⟩
    | next => exact False.elim hq'
    | brk => exact False.elim hq'
    | cont => exact False.elim hq'
theorem pe_make0 (M : Mk X.K C f) (F : FnOk X.prog X.w X.K X.mg X.base CX k f fd ps sp) (hr : Room (k + 1) X.A) (hg : Gl X x) (hm : X.mg x = some (.ref C)) (hb : Binds X.K fd ps ds) (hd : Vals dvs ds) (hx : Passes CX X E)
    (hdb : (x == ("__debug__" : Str)) = false := by decide) : PE X (.Call (.Name x p) [] [] pos) (tMake C sp dvs E tNil) := by
  intro pins s σ H Q I h
  refine wpAny_Call_Name_kw (ld_glob I hg hm ?_ hdb)
  exact PySem.W.callWith_K0 I.kIn M.kp (run_make (us := []) M F hr hb hd hx I .nil h)
end
section
variable {X : Cx} {CX : CXT} {k : Nat} {f C : Addr} {fd : FuncData} {ps ks : List Str} {sp : Sp} {E : XK} {x m : Str} {p pos apos kpos : Pos} {e o : Expr} {es : List Expr} {kws : List Keyword} {te ta : TE} {t tk : TA} {nm : Option Str}
variable {g : List Value → List Value → List Value} {gV : List V → List V → List V}
end
structure FnScope (N P : List Str) (sc : Scope) : Prop where
  kind : sc.kind = .function
  co : sc.isCoroutine = false
  gen : sc.isGenerator = false
  nd : N.Nodup
  pre : N.take P.length = P
  par : ∀ x ∈ P, sc.names.lookup x = some .local ∨ sc.names.lookup x = some .cell
  nofree : ∀ y ∈ sc.names, y.2 ≠ .free
theorem bindL_out {kindOf : Str → Option NameKind} {x : Str} : ∀ {binds : List (Str × Value)} {m : Str → Option Value}, (∀ v, (x, v) ∉ binds) → bindL kindOf binds m x = m x
  | [], _, _ => rfl
  | (n, v) :: r, m, h => by
    unfold bindL
    rw [bindL_out fun w hw => h w (List.mem_cons_of_mem _ hw)]
    split
    · have : x ≠ n := by rintro rfl; exact h v List.mem_cons_self
      simp [this]
    · rfl
theorem bindC_out {kindOf : Str → Option NameKind} {x : Str} : ∀ {binds : List (Str × Value)} {m : Str → Option Value}, (∀ v, (x, v) ∉ binds) → bindC kindOf binds m x = m x
  | [], _, _ => rfl
  | (n, v) :: r, m, h => by
    unfold bindC
    rw [bindC_out fun w hw => h w (List.mem_cons_of_mem _ hw)]
    split
    · rfl
    · have : x ≠ n := by rintro rfl; exact h v List.mem_cons_self
      simp [this]
theorem bindL_get {kindOf : Str → Option NameKind} {x : Str} {v : Value} : ∀ {P : List Str} {vs : List Value} {i : Nat} {m : Str → Option Value}, P.Nodup → P[i]? = some x → vs[i]? = some v → kindOf x = some .local →
    bindL kindOf (P.zip vs) m x = some v
  | [], _, _, _, _, h, _, _ => by simp at h
  | _ :: _, [], _, _, _, _, h, _ => by simp at h
  | p :: P, w :: vs, 0, m, nd, h1, h2, hk => by
    simp at h1 h2; subst h1; subst h2
    show bindL kindOf ((p, w) :: P.zip vs) m p = _
    unfold bindL
    rw [bindL_out fun v hv => (List.nodup_cons.mp nd).1 (List.of_mem_zip hv).1, if_pos hk]
    simp
  | p :: P, w :: vs, i + 1, m, nd, h1, h2, hk => by
    show bindL kindOf ((p, w) :: P.zip vs) m x = _
    unfold bindL
    exact bindL_get (i := i) (List.nodup_cons.mp nd).2 (by simpa using h1) (by simpa using h2) hk
theorem bindC_get {kindOf : Str → Option NameKind} {x : Str} {v : Value} : ∀ {P : List Str} {vs : List Value} {i : Nat} {m : Str → Option Value}, P.Nodup → P[i]? = some x → vs[i]? = some v → kindOf x ≠ some .local →
    bindC kindOf (P.zip vs) m x = some v
  | [], _, _, _, _, h, _, _ => by simp at h
  | _ :: _, [], _, _, _, _, h, _ => by simp at h
  | p :: P, w :: vs, 0, m, nd, h1, h2, hk => by
    simp at h1 h2; subst h1; subst h2
    show bindC kindOf ((p, w) :: P.zip vs) m p = _
    unfold bindC
    rw [bindC_out fun v hv => (List.nodup_cons.mp nd).1 (List.of_mem_zip hv).1, if_neg hk]
    simp
  | p :: P, w :: vs, i + 1, m, nd, h1, h2, hk => by
    show bindC kindOf ((p, w) :: P.zip vs) m x = _
    unfold bindC
    exact bindC_get (i := i) (List.nodup_cons.mp nd).2 (by simpa using h1) (by simpa using h2) hk
def start (N : List Str) (vs : List V) : St := vs.map some ++ List.replicate (N.length - vs.length) none
def cxOf (CX : CXT) (P : Program) (w : World) (K : PySem.W.Frag) (mg : Str → Option Value) (base : Heap) (N : List Str) (qual : Str) (scope : Scope) (f : Addr) (cd : Value) (A : Around) (outer : List Env) (s : Shared) (H : Hp) (E : XK) : Cx where
  prog := P
  w := w
  K := K
  mg := mg
  base := base
  A := A.deeper (envOfC qual scope s.heap.objs.size f cd)
  N := N
  s₀ := s
  H₀ := H
  env := envOfC qual scope s.heap.objs.size f cd
  outer := outer
  stack := envOfC qual scope s.heap.objs.size f cd :: outer
  ex := []
  calm := true
  fn := fun _ => true
  pn := []
  xe := fun e s' => wpAny (model P w) (A.deeper (envOfC qual scope s.heap.objs.size f cd)) (leaving (envOfC qual scope s.heap.objs.size f cd) e) (fun _ s'' => CX outer H s E e s'') (fun e' s'' => CX outer H s E e' s'') s'
theorem cell_has {sc : Scope} {n : Nat} {x : Str} (h : sc.names.lookup x = some .cell) : ∃ c, (cellsFrom n sc.names []).lookup x = some c := by
  have q := PySem.W.cellsFrom_some sc.names n [] (.inl h)
  exact Option.isSome_iff_exists.mp q
theorem inv_start {CX : CXT} {P : Program} {w : World} {K : PySem.W.Frag} {mg : Str → Option Value} {base : Heap} {N ps : List Str} {qual : Str} {scope : Scope} {f : Addr} {cd : Value} {A : Around} {outer : List Env} {s s1 : Shared} {H : Hp} {E : XK} {us : List Value} {vs : List V}
    (S : FnScope N ps scope) (hd : A.handled = none) (e0 : Env0 P w K mg base A outer s H) (hl : vs.length = ps.length) (r : Vals vs us)
    (x : InCallC s s.heap.objs.size (bindL (envOfC qual scope s.heap.objs.size f cd).kindOf (ps.zip us) fun _ => none) (cellsFrom (s.heap.objs.size + 1) scope.names []) (bindC (envOfC qual scope s.heap.objs.size f cd).kindOf (ps.zip us) fun _ => none) s1) :
    Inv (cxOf CX P w K mg base N qual scope f cd A outer s H E) [] (start N vs) H s1 := by
  have hpl : ps.length ≤ N.length := by have := congrArg List.length S.pre; rw [List.length_take] at this; omega
  obtain ⟨h1, tk, rfl, hk⟩ := x.done
  have noA : ∀ b : Addr, b ∉ (cxOf CX P w K mg base N qual scope f cd A outer s H E).ex := fun b z => absurd (show b ∈ ([] : List Addr) from z) (by simp)
  refine ⟨⟨e0.mod, S.kind, rfl, rfl, Nat.le_refl _, fun y z c h1 h2 => ?_, fun y hy => ?_, fun y c _ h => ?_, fun _ => hd, Around.frames_deeper e0.frames, .inr ⟨rfl, rfl⟩, fun b z => absurd z (noA b), e0.bs, e0.bsz, fun b _ _ => noA b, fun b z => absurd z (noA b), e0.funs, e0.frf⟩,
    rfl, e0.bare, Un.kept hk, ⟨_, x.toInCall.ns, fun i y v h1 h2 h3 => ?_⟩, fun y c h => ⟨_, x.cell y c h⟩, e0.hok.fresh (Nat.le_refl _), fun y c h => ?_, fun p hp => absurd (show p ∈ ([] : List (Addr × Obj)) from hp) (by simp), e0.hok.kept hk, ?_⟩
  · exact name_of_addr x.apart (PySem.mem_of_lookup h1) (PySem.mem_of_lookup h2)
  · have hy : scope.names.lookup y = some .cell ∨ scope.names.lookup y = some .free := hy
    rcases hy with hy | hy
    · exact cell_has hy
    · exact absurd rfl (S.nofree _ (PySem.mem_of_lookup hy))
  · exact Nat.le_of_lt (x.above y c (PySem.mem_of_lookup h))
  · have hi : i < vs.length := by
      unfold start at h2
      by_cases hi : i < vs.length
      · exact hi
      · rw [List.getElem?_append_right (by simpa using hi)] at h2
        rw [List.getElem?_replicate] at h2
        split at h2 <;> cases h2
    have ha : vs[i]? = some v := by
      unfold start at h2
      rw [List.getElem?_append_left (by simpa using hi), List.getElem?_map] at h2
      cases e : vs[i]? with
      | none => rw [e] at h2; cases h2
      | some a => rw [e] at h2; cases h2; rfl
    obtain ⟨u, hu, rv⟩ := r.get ha
    have hp : ps[i]? = some y := by
      rw [← S.pre, List.getElem?_take_of_lt (by omega)]; exact h1
    have ndP : ps.Nodup := by rw [← S.pre]; exact S.nd.sublist (List.take_sublist _ _)
    refine ⟨u, rv, ?_⟩
    rcases S.par y (List.mem_of_getElem? hp) with k | k
    · exact .inl ⟨k, bindL_get ndP hp hu k⟩
    · obtain ⟨c, e⟩ := cell_has (n := s.heap.objs.size + 1) k
      refine .inr ⟨.inl k, c, e, ?_⟩
      have q := x.cell y c e
      rw [bindC_get ndP hp hu (by show scope.names.lookup y ≠ _; rw [k]; decide)] at q
      exact q
  · exact e0.hok.fresh (Nat.le_of_lt (x.above y c (PySem.mem_of_lookup h)))
  · unfold start
    show _ = N.length
    rw [List.length_append, List.length_map, List.length_replicate]
    omega
theorem fn_of {CX : CXT} {P : Program} {w : World} {K : PySem.W.Frag} {mg : Str → Option Value} {base : Heap} {k : Nat} {f : Addr} {name qual : Str} {params : Arguments} {body : List Stmt} {scope : Scope} {dV kV doc pm cdv ct oc : Value} {an od : Option Addr}
    {osl : Array (Option Value)} {N ps : List Str} {sp : Sp} (lk : K.lookup f = some ⟨oc, od, .func (PySem.W.fnOf name qual params body scope dV kV doc pm an cdv ct), osl⟩) (hcd : PySem.W.codeIn K cdv qual = true) (S : FnScope N ps scope)
    (len : ∀ vs H Q E, sp vs H Q E → vs.length = ps.length)
    (hbody : ∀ (A : Around) (outer : List Env) (s : Shared) (H : Hp) (vs : List V) (Q : VK) (E : XK), Room k (A.deeper (envOfC qual scope s.heap.objs.size f cdv)) → sp vs H Q E →
      ∃ t, PSs (cxOf CX P w K mg base N qual scope f cdv A outer s H E) body t ∧ t { nx := fun _ H' => Q .non H', rt := Q } (start N vs) H) :
    FnOk P w K mg base CX (k + 1) f (PySem.W.fnOf name qual params body scope dV kV doc pm an cdv ct) ps sp := by
  refine ⟨len, fun A outer s H args us vs Q E hr e0 hb r hsp => ?_⟩
  have hl := len _ _ _ _ hsp
  have KX : K.In s.heap := e0.mod.kin.keeps fun b o e => (e0.bs b o e).1
  have lim : s.heap.NoLimit := e0.mod.nolimit.keeps fun b o e => (e0.bs b o e).1
  have hkind : ∀ y ∈ ps.zip us, scope.names.lookup y.1 = some .local ∨ (scope.names.lookup y.1 = some .cell ∧ ((cellsFrom (s.heap.objs.size + 1) scope.names []).lookup y.1).isSome = true) := fun ⟨n, v⟩ hy => by
    rcases S.par n (List.of_mem_zip hy).1 with q | q
    · exact .inl q
    · exact .inr ⟨q, PySem.W.cellsFrom_some _ _ _ (.inl q)⟩
  refine codeAny_call_function hr.depth (KX _ _ lk) rfl S.co S.gen rfl (PySem.W.codeRec_of KX hcd) (hb _ _ _ _ ?_)
  refine wpAny_newFunctionEnv_cells S.kind hkind fun env he s1 x => ?_
  subst he
  refine ⟨lim.keeps x.toInCall.keep, codeAny_func ?_⟩
  obtain ⟨t, ht, hq⟩ := hbody A outer s H vs Q E (hr.deeper _) hsp
  have I : Inv (cxOf CX P w K mg base N qual scope f cdv A outer s H E) [] (start N vs) H s1 := inv_start S hr.hd e0 hl r x
  refine wpAny_mono (ht [] s1 (start N vs) H _ I hq) (fun fl s' hs => ?_) fun e s' hs => hs
  have fin : ∀ {σ' : St} {H' : Hp} {v : V} {u : Value}, Inv (cxOf CX P w K mg base N qual scope f cdv A outer s H E) [] σ' H' s' → RelV v u → Q v H' → CE outer P w H s Q u s' :=
    fun {σ' H' v u} J rv q => ⟨v, H', J.os, J.bare, J.base, J.hok, rv, q⟩
  cases fl with
  | ret u =>
    obtain ⟨v, σ', H', J, rv, q⟩ := hs
    exact fin J rv q
  | next =>
    obtain ⟨σ', H', J, q⟩ := hs
    exact fin (v := V.non) (u := Value.none) J rfl q
  | brk =>
    obtain ⟨_, _, _, q⟩ := hs
    exact False.elim q
  | cont =>
    obtain ⟨_, _, _, q⟩ := hs
    exact False.elim q
end L2
namespace L2
open PySem PySem.Spec PyProof.Rows
section
variable {X : Cx} {x : Str} {p pos : Pos} {e : Expr} {es : List Expr} {t : TA} {id T : String} {r : List V → Hp → VK → Prop}
def tCB (r : List V → Hp → VK → Prop) (t : TA) : TE := fun σ H Q => t σ H fun vs H1 => r vs H1 Q
theorem pe_callB (hc : CallR X (.builtin id) r) (hg : Gl X x) (hm : X.mg x = none) (hv : bootBuiltins x = some (.builtin id)) (ha : PA X (e :: es) t) (hn : x ≠ "__name__" := by decide) (hdb : (x == ("__debug__" : Str)) = false := by decide)
    (he : starEach (e :: es) X.env = (false, eval e X.env) :: starEach es X.env := by rfl) (hpl : (backTo pos (starEach es X.env)).any (·.1) = false := by rfl) : PE X (.Call (.Name x p) (e :: es) [] pos) (tCB r t) := by
  intro pins s σ H Q I h
  refine wpAny_Call_Name_kw (ld_blt I hg hm hv ?_ hn hdb)
  exact PyProof.Rows.callWith_builtin1 (thn (ha pos pins s σ H _ I h) fun us s1 ⟨vs, H1, I1, r1, q1⟩ => hc pins s1 σ H1 vs us Q I1 r1 q1) he hpl
theorem pe_callTy (hc : CallR X (.type T) r) (hg : Gl X x) (hm : X.mg x = none) (hv : bootBuiltins x = some (.type T)) (ha : PA X (e :: es) t) (hn : x ≠ "__name__" := by decide) (hdb : (x == ("__debug__" : Str)) = false := by decide)
    (he : starEach (e :: es) X.env = (false, eval e X.env) :: starEach es X.env := by rfl) (hpl : (backTo pos (starEach es X.env)).any (·.1) = false := by rfl) : PE X (.Call (.Name x p) (e :: es) [] pos) (tCB r t) := by
  intro pins s σ H Q I h
  refine wpAny_Call_Name_kw (ld_blt I hg hm hv ?_ hn hdb)
  exact PyProof.Rows.callWith_type1 (thn (ha pos pins s σ H _ I h) fun us s1 ⟨vs, H1, I1, r1, q1⟩ => hc pins s1 σ H1 vs us Q I1 r1 q1) he hpl
end
end L2
namespace HT
open PySem PyProof.Rows
def lexLt : List Int → List Int → Bool
  | [], [] => false
  | [], _ :: _ => true
  | _ :: _, [] => false
  | x :: xs, y :: ys => if x = y then lexLt xs ys else decide (x < y)
theorem lexLt_cons (x y : Int) (xs ys : List Int) : lexLt (x :: xs) (y :: ys) = if x = y then lexLt xs ys else decide (x < y) := rfl
theorem lexLt_nil_nil : lexLt [] [] = false := rfl
theorem lexLt_nil_cons (y : Int) (ys : List Int) : lexLt [] (y :: ys) = true := rfl
theorem lexLt_cons_nil (x : Int) (xs : List Int) : lexLt (x :: xs) [] = false := rfl
theorem eqAt_int (A : Around) (s : Shared) (a : Int) (t : Tok) (c : Int) (u : Tok) : ∃ e, SeqAt.EqAt A s (.int a t) (.int c u) e ∧ (e = true ↔ a = c) :=
  ⟨(a == c), SeqAt.EqAt.int_int a t c u, by simp⟩
theorem rcLt_int (A : Around) (s : Shared) (a : Int) (t : Tok) (c : Int) (u : Tok) (prog : Program) (w : World) (E : Value → Shared → Prop) (Q : Value → Shared → Prop) (h : Q (.bool (decide (a < c))) s) :
    wpAny (model prog w) A (richCompare .Lt (.int a t) (.int c u)) Q E s :=
  (PyProof.Rows.lt_int h : wpAny (model prog w) A (compareOp .Lt (.int a t) (.int c u)) Q E s)
section
open PySem.SeqAt
open PySem.AutoSeq1 (wpAny_loadPart')
open PySem.MeetsSeq PySem.MeetsSeq2 PySem.MeetsSeq3
theorem tuple_lt_ints (l b : Addr) (items items2 : Array Value) (n n2 : Nat) (dd dd2 : Option Addr) (sl sl2 : Array (Option Value)) (ns ms : List Int) (hi : IntsAre items.toList ns) (hj : IntsAre items2.toList ms) :
    Meets (Builtin.«tuple.__lt__» ⟨[.ref l, .ref b], []⟩)
      (fun _ R s => s.heap.get? l = some { cls := .type "tuple", dict := dd, data := .seq items n, slots := sl } ∧ s.heap.get? b = some { cls := .type "tuple", dict := dd2, data := .seq items2 n2, slots := sl2 } ∧
        R (.ok (.ret (.bool (lexLt ns ms)))) s) :=
  .of_wp fun prog w A R s h => by
    obtain ⟨hp, g, d, tk, os⟩ := s; obtain ⟨hl, hb, h⟩ := h
    have f2 := AutoSeq1.sub_tuple_tuple
    have z1 : items.size = ns.length := by rw [← hi.length]; simp
    have z2 : items2.size = ms.length := by rw [← hj.length]; simp
    wp_walk using wpAny_loadPart' hl, wpAny_loadPart' hb, wpAny_forIn_list _ (fun rest b s' => b.1 = none ∧ s' = ⟨hp, g, d, tk, os⟩ ∧ ∃ (vs ws : List Value) (ns' ms' : List Int), rest = vs.zip ws ∧
      IntsAre vs ns' ∧ IntsAre ws ms' ∧ ns'.length + items2.size = ms'.length + items.size ∧ R (.ok (.ret (.bool (lexLt ns' ms')))) ⟨hp, g, d, tk, os⟩) _
    case turn =>
      rintro ⟨y, x⟩ rest b s' ⟨hb', rfl, vs, ws, ns', ms', hz, hvi, hwi, hlen, hR⟩
      cases hvi with
      | nil => rw [List.zip_nil_left] at hz; cases hz
      | cons a t hvi' =>
        cases hwi with
        | nil => rw [List.zip_nil_right] at hz; cases hz
        | cons c u hwi' =>
          rw [List.zip_cons_cons] at hz
          injection hz with hyx hrest
          injection hyx with hy hx
          subst hy hx
          rw [lexLt_cons] at hR
          simp only [List.length_cons] at hlen
          obtain ⟨e, he, hiff⟩ := eqAt_int A.in1 ⟨hp, g, d, tk, os⟩ a t c u
          refine wpAny_bind (he prog w _ _ ?_)
          cases e with
          | true =>
            rw [if_pos (hiff.mp rfl)] at hR
            wp_walk
            exact ⟨rfl, rfl, _, _, _, _, hrest, hvi', hwi', by omega, hR⟩
          | false =>
            rw [if_neg (fun q => absurd (hiff.mpr q) Bool.false_ne_true)] at hR
            have hri := rcLt_int A.in1 ⟨hp, g, d, tk, os⟩ a t c u prog w
            wp_walk using hri
            exact ⟨_, rfl, by simpa using hR⟩
    case fin =>
      rintro ⟨b1, b2⟩ s' ⟨hb', rfl, vs, ws, ns', ms', hz, hvi, hwi, hlen, hR⟩
      simp only at hb'
      subst hb'
      have hv : lexLt ns' ms' = decide (items.size < items2.size) := by
        cases hvi with
        | nil =>
          cases hwi with
          | nil =>
            simp only [List.length_nil] at hlen
            rw [lexLt_nil_nil]
            exact (decide_eq_false (by omega)).symm
          | cons c u hw =>
            simp only [List.length_nil, List.length_cons] at hlen
            rw [lexLt_nil_cons]
            exact (decide_eq_true (by omega)).symm
        | cons a t hv =>
          cases hwi with
          | nil =>
            simp only [List.length_nil, List.length_cons] at hlen
            rw [lexLt_cons_nil]
            exact (decide_eq_false (by omega)).symm
          | cons c u hw =>
            rw [List.zip_cons_cons] at hz
            cases hz
      rw [hv] at hR
      wp_walk
      exact ⟨_, rfl, by simpa [Builtin.Tuple.tupleCompareSizes] using hR⟩
    case h =>
      exact ⟨rfl, rfl, items.toList, items2.toList, ns, ms, rfl, hi, hj, by omega, h⟩
end
section
variable {prog : Program} {w : World} {A : Around} {E : Value → Shared → Prop} {s : Shared}
theorem lt_tupInts {l b : Addr} {items items2 : Array Value} {ns ms : List Int} {Q : Value → Shared → Prop} (hl : IsTup s.heap l items) (hb : IsTup s.heap b items2) (hi : IntsAre items.toList ns) (hj : IntsAre items2.toList ms)
    (hu : A.units < cLine) (h : Q (.bool (lexLt ns ms)) s) : wpAny (model prog w) A (compareOp .Lt (.ref l) (.ref b)) Q E s := by
  obtain ⟨⟨cls, dd, data, sl⟩, ho, hc, n, hd⟩ := id hl
  obtain ⟨⟨cls2, dd2, data2, sl2⟩, ho2, hc2, n2, hd2⟩ := id hb
  simp only at hc hd hc2 hd2
  subst hc hd hc2 hd2
  exact richCompare_meets_room (op := .Lt) ⟨_, ho, rfl⟩ ⟨_, ho2, rfl⟩ PySem.F.slot_tuple_lt PySem.F.entry_tuple_lt (PySem.F.args_tuple_lt_2 _ _) (tuple_lt_ints l b items items2 n n2 dd dd2 sl sl2 ns ms hi hj)
    ⟨ho, ho2, show Value.bool (lexLt ns ms) ≠ Value.notImplemented ∧ Q (.bool (lexLt ns ms)) s from ⟨(fun x => nomatch x), h⟩⟩ hu
def sIx (n d : Nat) : Option Int → Nat
  | none => d
  | some v => if v < 0 then (v + (n : Int)).toNat else min v.toNat n
end
end HT
namespace L2
open PySem PySem.Spec PyProof.Rows
abbrev TO := St → Hp → (Option Int → Hp → Prop) → Prop
def tNoPart : TO := fun _ H Q => Q none H
def tPart (t : TE) : TO := fun σ H Q => t σ H fun x H1 => ∃ i, x = .int i ∧ Q (some i) H1
theorem intsAre_of {ns : List Int} : ∀ {us : List Value}, Vals (ns.map V.int) us → IntsAre us ns := by
  induction ns with
  | nil => intro us r; rw [List.map_nil] at r; cases r; exact .nil
  | cons n ns ih =>
    intro us r
    rw [List.map_cons] at r
    cases r with
    | cons r1 r2 =>
      obtain ⟨t, e⟩ := r1
      subst e
      exact .cons n t (ih r2)
section
variable {X : Cx} {e : Expr} {te : TE} {lo hi : Option Expr} {tl th : TO} {pos p2 : Pos}
def tSl (r : V → Option Int → Option Int → Hp → VK → Prop) (te : TE) (tl th : TO) : TE := fun σ H Q => te σ H fun x H1 => tl σ H1 fun l H2 => th σ H2 fun u H3 => r x l u H3 Q
def cutV (xs : List V) (lo hi : Option Int) : List V := (xs.drop (HT.sIx xs.length 0 lo)).take (HT.sIx xs.length xs.length hi - HT.sIx xs.length 0 lo)
def rLtT (K : PySem.W.Frag) : R2 := fun x y H Q => ∃ a b ns ms, x = .ref a ∧ y = .ref b ∧ SqT K H a (ns.map V.int) ∧ SqT K H b (ms.map V.int) ∧ Q (.bl (HT.lexLt ns ms)) H
theorem op_ltT (hu : X.A.units < cLine) : OpR X (compareOp .Lt) (rLtT X.K) := by
  intro pins s σ H x y v u Q I rx ry h
  obtain ⟨a, b, ns, ms, rfl, rfl, ha, hb, q⟩ := h
  cases rx
  cases ry
  obtain ⟨its, r1, p1, _⟩ := I.tuple ha
  obtain ⟨its2, r2, p2, _⟩ := I.tuple hb
  have i1 : IntsAre its.toArray.toList ns := intsAre_of r1
  have i2 : IntsAre its2.toArray.toList ms := intsAre_of r2
  exact HT.lt_tupInts p1 p2 i1 i2 hu ⟨.bl (HT.lexLt ns ms), H, I, rfl, q⟩
def rCatT (K : PySem.W.Frag) : R2 := fun x y H Q => ∃ a b xs ys, x = .ref a ∧ y = .ref b ∧ SqT K H a xs ∧ SqT K H b ys ∧ xs ≠ [] ∧ xs.length + ys.length ≤ sizeLine ∧
  (ys = [] → Q (.ref a) H) ∧ (ys ≠ [] → ∀ p, H p = none → Q (.ref p) (upd H p (.tup (xs ++ ys))))
end
end L2
namespace L2
open PySem PySem.Spec PyProof.Rows
def ixN (n : Nat) (i : Int) : Option Nat := if 0 ≤ i then (if i < n then some i.toNat else none) else if -(n : Int) ≤ i then some (i + n).toNat else none
def atI {α : Type} (xs : List α) (i : Int) : Option α := (ixN xs.length i).bind fun j => xs[j]?
theorem ixN_seq {n : Nat} {i : Int} {j : Nat} (h : ixN n i = some j) : seqIndex? i n = some j ∧ j < n ∧ -(n : Int) ≤ i ∧ i < n := by
  unfold ixN at h
  by_cases h0 : 0 ≤ i
  · rw [if_pos h0] at h
    by_cases h1 : i < n
    · rw [if_pos h1] at h
      have e : i.toNat = j := Option.some.inj h
      exact ⟨by rw [seqIndex_of h0 h1, e], by omega, by omega, h1⟩
    · rw [if_neg h1] at h; cases h
  · rw [if_neg h0] at h
    by_cases h1 : -(n : Int) ≤ i
    · rw [if_pos h1] at h
      have e : (i + n).toNat = j := Option.some.inj h
      exact ⟨by rw [seqIndex_neg (by omega) h1, e], by omega, h1, by omega⟩
    · rw [if_neg h1] at h; cases h
theorem atI_get {α : Type} {xs : List α} {i : Int} {v : α} (h : atI xs i = some v) : ∃ j, seqIndex? i xs.length = some j ∧ xs[j]? = some v ∧ j < xs.length ∧ -(xs.length : Int) ≤ i ∧ i < xs.length := by
  unfold atI at h
  cases e : ixN xs.length i with
  | none => rw [e] at h; cases h
  | some j =>
    rw [e] at h
    obtain ⟨h1, h2, h3, h4⟩ := ixN_seq e
    exact ⟨j, h1, h, h2, h3, h4⟩
theorem atI_nat {α : Type} {xs : List α} {j : Nat} {v : α} (h : xs[j]? = some v) : atI xs (j : Int) = some v := by
  have hj : j < xs.length := (List.getElem?_eq_some_iff.mp h).1
  have e : ixN xs.length (j : Int) = some j := by
    unfold ixN
    rw [if_pos (by omega), if_pos (by omega)]; simp
  unfold atI; rw [e]; exact h
def PlainIx (b : Expr) : Prop := ∀ o i, subscripted b false o i = operate [o, i] (getItem o i)
def IxR (X : Cx) (r : R2) : Prop :=
  ∀ (value slice : Expr) (pins : List (Addr × Obj)) (s : Shared) (σ : St) (H : Hp) (x y : V) (v u : Value) (Q : VK), Inv X pins σ H s → RelV x v → RelV y u → r x y H Q →
    subscripted slice false v u = operate [v, u] (getItem v u) → wpAny (model X.prog X.w) X.A (subscriptTail value slice v u) (EP X pins σ Q) X.xe s
def MtR (X : Cx) (id : String) (r : V → List V → Hp → VK → Prop) : Prop :=
  ∀ (pins : List (Addr × Obj)) (s : Shared) (σ : St) (H : Hp) (x : V) (xs : List V) (v : Value) (us : List Value) (Q : VK), Inv X pins σ H s → RelV x v → Vals xs us → r x xs H Q →
    wpAny (model X.prog X.w) X.A (call (.builtin id) (v :: us)) (EP X pins σ Q) X.xe s
section
variable {X : Cx} {a b : Expr} {ta tb : TE} {pos : Pos}
theorem pe_ix {r : R2} (hr : IxR X r) (ha : PE X a ta) (hb : PE X b tb) (hs : PlainIx b) : PE X (.Subscript a b pos) (tOp r ta tb) := by
  intro pins s σ H Q I h
  exact Subscript_ (binT ha hb I h fun v u s2 x y H2 I2 rx ry q => hr a b pins s2 σ H2 x y v u Q I2 rx ry q (hs _ _))
def rIxL (K : PySem.W.Frag) : R2 := fun x y H Q => ∃ p xs i v, x = .ref p ∧ y = .int i ∧ SqL K H p xs ∧ atI xs i = some v ∧ Q v H
def rIxT (K : PySem.W.Frag) : R2 := fun x y H Q => ∃ p xs i v, x = .ref p ∧ y = .int i ∧ SqT K H p xs ∧ atI xs i = some v ∧ Q v H
def rIxS : R2 := fun x y H Q => ∃ z i c, x = .str z ∧ y = .int i ∧ z.length ≤ sizeLine ∧ atI z.cps.toList i = some c ∧ Q (.str ⟨#[c]⟩) H
theorem ix_list : IxR X (rIxL X.K) := by
  intro value slice pins s σ H x y v u Q I rx ry h hs
  obtain ⟨p, xs, i, z, rfl, rfl, hq, he, q⟩ := h
  cases rx
  obtain ⟨t, rfl⟩ := ry
  obtain ⟨its, r, pl, hz⟩ := I.list hq
  obtain ⟨j, h1, h2, h3, h4, h5⟩ := atI_get he
  obtain ⟨w, ew, rw'⟩ := r.get h2
  have hl := r.length
  have hn := line63
  have fin : EP X pins σ Q w s := ⟨z, H, I, rw', q⟩
  by_cases h0 : 0 ≤ i
  · have hj : i.toNat = j := by
      rw [seqIndex_of h0 h5] at h1
      exact Option.some.inj h1
    exact item_listR pl.isList h0 (by omega) (by rw [hj]; simpa using ew) fin hs
  · have hj : (i + (its.toArray.size : Int)).toNat = j := by
      rw [seqIndex_neg (by omega) h4] at h1
      rw [List.size_toArray, ← hl]
      exact Option.some.inj h1
    exact subscriptTail_builtinR (x := w) pl.isList.typeIs slot_list_getitem.lookup
      (wpAny_getItem_list_neg (Q := fun r s' => r = w ∧ EP X pins σ Q r s') pl.isList (by omega) (by rw [List.size_toArray] <;> omega) (by omega) (by rw [hj]; simpa using ew) ⟨rfl, fin⟩) hs
theorem ix_tup : IxR X (rIxT X.K) := by
  intro value slice pins s σ H x y v u Q I rx ry h hs
  obtain ⟨p, xs, i, z, rfl, rfl, hq, he, q⟩ := h
  cases rx
  obtain ⟨t, rfl⟩ := ry
  obtain ⟨its, r, pl, hz⟩ := I.tuple hq
  obtain ⟨j, h1, h2, h3, h4, h5⟩ := atI_get he
  obtain ⟨w, ew, rw'⟩ := r.get h2
  have hl := r.length
  have hn := line63
  have fin : EP X pins σ Q w s := ⟨z, H, I, rw', q⟩
  exact subscriptTail_builtinR (x := w) pl.typeIs slot_tuple_getitem.lookup
    (getItem_tuple (j := j) (Q := fun r s' => r = w ∧ EP X pins σ Q r s') pl (by omega) (by omega) (by rw [List.size_toArray, ← hl]; exact h1) (by simpa using ew) ⟨rfl, fin⟩) hs
theorem mapSeq_set (its : List Value) (n j : Nat) (u : Value) : Obj.mapSeq (·.setIfInBounds j u) { cls := .type "list", data := .seq its.toArray n } = { cls := .type "list", data := .seq (its.set j u).toArray n } := by
  simp [Obj.mapSeq]
theorem Inv.lst {pins : List (Addr × Obj)} {σ : St} {H : Hp} {s : Shared} {p : Addr} {xs : List V} (I : Inv X pins σ H s) (h : H p = some (.lst xs)) :
    ∃ (its : List Value) (n : Nat), Vals xs its ∧ s.heap.get? p = some { cls := .type "list", data := .seq its.toArray n } ∧ xs.length ≤ sizeLine := by
  obtain ⟨z, its, n, r, e⟩ := I.hok p _ h
  exact ⟨its, n, r, e, z⟩
theorem Inv.lstUpd {pins : List (Addr × Obj)} {σ : St} {H : Hp} {s : Shared} {p : Addr} {xs ys : List V} {its its' : List Value} {n n' : Nat} {f : Obj → Obj} (I : Inv X pins σ H s) (h : H p = some (.lst xs))
    (ho : s.heap.get? p = some { cls := .type "list", data := .seq its.toArray n }) (hf : f { cls := .type "list", data := .seq its.toArray n } = { cls := .type "list", data := .seq its'.toArray n' }) (r : Vals ys its') (hz : ys.length ≤ sizeLine) (t : Nat) :
    Inv X pins σ (upd H p (.lst ys)) { s with heap := s.heap.update p f, toks := t } := by
  have e : (s.heap.update p f).get? p = some { cls := .type "list", data := .seq its'.toArray n' } := by
    rw [Heap.get?_update_self f ho (by rw [hf] <;> rfl), hf]
  refine I.write (x := p) (e := p) (by rw [h]; trivial) (.inl rfl) (fun b u hb q => (Heap.get?_update_other _ _ (Ne.symm hb)).trans q) ⟨_, e⟩ ?_
  exact ⟨hz, its', n', r, e⟩
def rSetL : V → V → V → Hp → (Hp → Prop) → Prop := fun o i v H Q => ∃ p xs k j, o = .ref p ∧ i = .int k ∧ H p = some (.lst xs) ∧ ixN xs.length k = some j ∧ Q (upd H p (.lst (xs.set j v)))
theorem set_list : PSet X rSetL := by
  intro pins s σ H o i v ov iv u Q I ro ri rv h
  obtain ⟨p, xs, k, j, rfl, rfl, hp, hj, q⟩ := h
  cases ro
  obtain ⟨t, rfl⟩ := ri
  obtain ⟨its, n, r, ho, hz⟩ := I.lst hp
  obtain ⟨h1, h2, h3, h4⟩ := ixN_seq hj
  have hl := r.length
  have hn := line63
  have I' : Inv X pins σ (upd H p (.lst (xs.set j v))) { s with heap := s.heap.update p (Obj.mapSeq (·.setIfInBounds j u)) } :=
    I.lstUpd hp ho (mapSeq_set its n j u) (r.set rv j) (by rw [List.length_set]; exact hz) s.toks
  by_cases h0 : 0 ≤ k
  · have hk : k.toNat = j := by
      rw [seqIndex_of h0 h4] at h1
      exact Option.some.inj h1
    exact PySem.W.ki_setAt ho h0 (by omega) (by rw [List.size_toArray, ← hl]; exact h4) (by rw [hk]; exact ⟨_, I', q⟩)
  · have hk : (k + (its.toArray.size : Int)).toNat = j := by
      rw [seqIndex_neg (by omega) h3] at h1
      rw [List.size_toArray, ← hl]
      exact Option.some.inj h1
    exact PySem.W.ki_setBack ho (by omega) (by rw [List.size_toArray, ← hl]; exact h3) (by omega) (by rw [hk]; exact ⟨_, I', q⟩)
def rSlL (K : PySem.W.Frag) : V → Option Int → Option Int → Hp → VK → Prop := fun x lo hi H Q => ∃ a xs, x = .ref a ∧ SqL K H a xs ∧ ∀ p, H p = none → Q (.ref p) (upd H p (.lst (cutV xs lo hi)))
def flatV : V → Bool
  | .non => true
  | .bl _ => true
  | .int _ => true
  | .str _ => true
  | _ => false
def eqV : V → V → Bool
  | .non, .non => true
  | .bl a, .bl b => a == b
  | .bl a, .int b => (if a then 1 else 0) == b
  | .int a, .bl b => a == (if b then 1 else 0)
  | .int a, .int b => a == b
  | .str a, .str b => a == b
  | _, _ => false
def inV (x : V) (xs : List V) : Bool := xs.any fun y => eqV y x
def rIn (K : PySem.W.Frag) (neg : Bool) : R2 := fun x y H Q => ∃ p xs, y = .ref p ∧ (SqL K H p xs ∨ SqT K H p xs) ∧ flatV x = true ∧ xs.all flatV = true ∧ Q (.bl (if neg then !inV x xs else inV x xs)) H
theorem call_len_seq : CallR X (.builtin "len") (fun xs H Q => ∃ p ys, xs = [.ref p] ∧ (SqL X.K H p ys ∨ SqT X.K H p ys) ∧ Q (.int ys.length) H) := by
  intro pins s σ H xs us Q I r h
  obtain ⟨p, ys, rfl, hq, q⟩ := h
  obtain ⟨u, rfl, rx⟩ := vals1 r
  cases rx
  have hn := line63
  rcases hq with hq | hq
  · obtain ⟨its, r', pl, hz⟩ := I.list hq
    have hlen := r'.length
    exact Calls.call_len_list pl.isList (by simp only [List.size_toArray] <;> omega) ⟨.int ys.length, H, I.tok _, ⟨s.toks + 1, by rw [List.size_toArray, hlen]⟩, q⟩
  · obtain ⟨its, r', pl, hz⟩ := I.tuple hq
    have hlen := r'.length
    exact len_tuple pl (by simp only [List.size_toArray] <;> omega) ⟨.int ys.length, H, I.tok _, ⟨s.toks + 1, by rw [List.size_toArray, hlen]⟩, q⟩
theorem call_list_of : CallR X (.type "list") (fun xs H Q => ∃ p ys, xs = [.ref p] ∧ (SqL X.K H p ys ∨ SqT X.K H p ys) ∧ ∀ l, H l = none → Q (.ref l) (upd H l (.lst ys))) := by
  intro pins s σ H xs us Q I r h
  obtain ⟨p, ys, rfl, hq, q⟩ := h
  obtain ⟨u, rfl, rx⟩ := vals1 r
  cases rx
  have fin : ∀ (its : List Value), Vals ys its → ys.length ≤ sizeLine → ∀ (h' : Heap) (c' : Nat), (∀ b o', s.heap.get? b = some o' → h'.get? b = some o') →
      h'.get? s.heap.objs.size = some { cls := .type "list", dict := none, data := .seq its.toArray c', slots := #[] } → EP X pins σ Q (.ref s.heap.objs.size) { s with heap := h' } := fun its r' hz h' c' kp e =>
    ⟨.ref s.heap.objs.size, _, I.laid (t' := s.toks) kp (Nat.le_refl _) (show ObjOk X.prog X.w _ h' _ (.lst ys) from ⟨hz, its, c', r', e⟩), rfl, q _ (I.hok.fresh (Nat.le_refl _))⟩
  rcases hq with hq | hq
  · obtain ⟨its, r', pl, hz⟩ := I.list hq
    have hlen := r'.length
    obtain ⟨o, ho, hc, n, hd⟩ := pl.isList
    exact call_list_seq p (.inl rfl) ho hc hd (fun h' c' kp e => fin its r' hz h' c' kp e) (by simp only [List.size_toArray] <;> omega)
  · obtain ⟨its, r', pl, hz⟩ := I.tuple hq
    have hlen := r'.length
    obtain ⟨o, ho, hc, n, hd⟩ := pl
    exact call_list_seq p (.inr rfl) ho hc hd (fun h' c' kp e => fin its r' hz h' c' kp e) (by simp only [List.size_toArray] <;> omega)
theorem call_tuple_of : CallR X (.type "tuple") (fun xs H Q => ∃ p ys, xs = [.ref p] ∧ ((SqL X.K H p ys ∧ ∀ l, H l = none → Q (.ref l) (upd H l (.tup ys))) ∨ (SqT X.K H p ys ∧ Q (.ref p) H))) := by
  intro pins s σ H xs us Q I r h
  obtain ⟨p, ys, rfl, h⟩ := h
  obtain ⟨u, rfl, rx⟩ := vals1 r
  cases rx
  rcases h with ⟨hq, q⟩ | ⟨hq, q⟩
  · obtain ⟨its, r', pl, hz⟩ := I.list hq
    have hlen := r'.length
    refine call_tuple_list pl.isList (fun h' kp => ?_) (by simp only [List.size_toArray] <;> omega)
    have I1 : Inv X pins σ H { s with heap := h' } := I.kept (t' := s.toks) kp
    have I2 : Inv X pins σ (upd H h'.objs.size (.tup ys)) { s with heap := h'.push { cls := .type "tuple", data := .seq its.toArray } } :=
      I1.laid (t' := s.toks) (fun b o e => Heap.get?_push_of_some _ e) (Nat.le_refl _) (show ObjOk X.prog X.w _ _ _ (.tup ys) from ⟨hz, its, r', IsTup.new _ _⟩)
    exact ⟨.ref h'.objs.size, _, I2, rfl, q _ (I1.hok.fresh (Nat.le_refl _))⟩
  · obtain ⟨its, r', pl, hz⟩ := I.tuple hq
    exact call_tuple_same pl ⟨.ref p, H, I, rfl, q⟩
def tyV (K : PySem.W.Frag) (T : String) (x : V) (H : Hp) : Prop := match x with
  | .str _ => T = "str"
  | .int _ => T = "int"
  | .ref p => (T = "list" ∧ ∃ xs, SqL K H p xs) ∨ (T = "tuple" ∧ ∃ o, K.lookup p = some o ∧ o.cls = .type "tuple" ∧ o.dict = none) ∨
      (T = "dict" ∧ ((∃ kvs, H p = some (.dK kvs)) ∨ ∃ kvs, H p = some (.dT kvs))) ∨ (T = "set" ∧ ∃ S n, H p = some (.set S n))
  | _ => False
theorem tyV_is {pins : List (Addr × Obj)} {σ : St} {H : Hp} {s : Shared} {T : String} {x : V} {v : Value} (I : Inv X pins σ H s) (r : RelV x v) (ty : tyV X.K T x H) :
    s.TypeIs v T ∧ ∀ a, v = .ref a → ∃ ob, s.heap.get? a = some ob ∧ ob.dict = none := by
  cases x with
  | str z =>
    obtain ⟨t, rfl⟩ := r
    cases (show T = "str" from ty)
    exact ⟨typeIs_str s z t, fun _ e => nomatch e⟩
  | int i =>
    obtain ⟨t, rfl⟩ := r
    cases (show T = "int" from ty)
    exact ⟨typeIs_int s i t, fun _ e => nomatch e⟩
  | ref p =>
    cases r
    rcases ty with ⟨rfl, xs, hq⟩ | ⟨rfl, o, hk, hc, hd⟩ | ⟨rfl, hk⟩ | ⟨rfl, S, n, hk⟩
    · obtain ⟨its, _, pl, _⟩ := I.list hq
      refine ⟨pl.isList.typeIs, fun a e => ?_⟩
      cases e
      obtain ⟨o, n, e, c, hd, _⟩ := pl
      exact ⟨o, e, hd⟩
    · refine ⟨⟨o, I.kIn p o hk, hc⟩, fun a e => ?_⟩
      cases e
      exact ⟨o, I.kIn _ o hk, hd⟩
    · have z : ∃ o, s.heap.get? p = some o ∧ o.ExactDict := by
        rcases hk with ⟨kvs, hk⟩ | ⟨kvs, hk⟩
        · obtain ⟨_, _, _, _, o, _, _, e, ex, _⟩ := I.hok p _ hk
          exact ⟨o, e, ex⟩
        · obtain ⟨_, _, _, _, o, _, _, e, ex, _⟩ := I.hok p _ hk
          exact ⟨o, e, ex⟩
      obtain ⟨o, e, ex⟩ := z
      refine ⟨⟨o, e, ex.1⟩, fun a e2 => ?_⟩
      cases e2
      exact ⟨o, e, ex.2.1⟩
    · obtain ⟨o, _, _, _, e, ex, _⟩ := I.hok p _ hk
      refine ⟨⟨o, e, ex.1⟩, fun a e2 => ?_⟩
      cases e2
      exact ⟨o, e, ex.2.1⟩
  | _ => exact False.elim ty
def tBM0 (K : PySem.W.Frag) (T : String) (r : V → List V → Hp → VK → Prop) (to : TE) : TE := fun σ H Q => to σ H fun x H1 => tyV K T x H1 ∧ r x [] H1 Q
def tBM (K : PySem.W.Frag) (T : String) (r : V → List V → Hp → VK → Prop) (to : TE) (t : TA) : TE := fun σ H Q => to σ H fun x H1 => tyV K T x H1 ∧ t σ H1 fun xs H2 => r x xs H2 Q
variable {o e : Expr} {es : List Expr} {to : TE} {t : TA} {name : Str} {apos cpos : Pos} {T id : String} {r : V → List V → Hp → VK → Prop}
theorem pe_bm0 (pa : PlainAttrs T) (slot : Slot T name id) (hty : typeOf (.builtin id) = pure (.type "method_descriptor")) (hm : MtR X id r) (ho : PE X o to)
    (hbase : attributeBase o name X.env (eval o X.env) = eval o X.env := by rfl) (hline : (apos.endLine == cpos.line) = true := by rfl) : PE X (.Call (.Attribute o name apos) [] [] cpos) (tBM0 X.K T r to) := by
  intro pins s σ H Q I h
  refine wpAny_Call_method0_late hbase hline (thn (ho pins s σ H _ I h) fun v s1 ⟨x, H1, I1, r1, ty, q1⟩ => ?_)
  obtain ⟨h1, h2⟩ := tyV_is I1 r1 ty
  exact ⟨T, id, pa, slot, hty, h1, h2, Calls.callWith_builtin rfl (PySem.evalArgs_none (hm pins s1 σ H1 x [] v [] Q I1 r1 .nil q1))⟩
theorem pe_bm (pa : PlainAttrs T) (slot : Slot T name id) (hty : typeOf (.builtin id) = pure (.type "method_descriptor")) (hm : MtR X id r) (ho : PE X o to) (ha : PA X (e :: es) t)
    (hbase : attributeBase o name X.env (eval o X.env) = eval o X.env := by rfl)
    (hfew : ((backTo cpos (starEach (e :: es) X.env)).all (fun x => !x.1) && (backToKw cpos (keywordEach [] X.env)).all (fun x => x.1.isSome)
      && decide ((e :: es).length + ([] : List Keyword).length + (if ([] : List Keyword).isEmpty then 0 else 1) < 30)) = true := by rfl)
    (hline : (apos.endLine == cpos.line) = true := by rfl) (hs : starEach (e :: es) X.env = (false, eval e X.env) :: starEach es X.env := by rfl) (hplain : (backTo cpos (starEach es X.env)).any (·.1) = false := by rfl) :
    PE X (.Call (.Attribute o name apos) (e :: es) [] cpos) (tBM X.K T r to t) := by
  intro pins s σ H Q I h
  refine wpAny_Call_method_late hbase hfew hline rfl (thn (ho pins s σ H _ I h) fun v s1 ⟨x, H1, I1, r1, ty, q1⟩ => ?_)
  obtain ⟨h1, h2⟩ := tyV_is I1 r1 ty
  refine ⟨T, id, pa, slot, hty, h1, h2, ?_⟩
  have hA := ha cpos pins s1 σ H1 _ I1 q1
  rw [hs] at hA ⊢
  refine Calls.callWith_builtin (by show (false || (backTo cpos (starEach es X.env)).any (·.1)) = false; rw [hplain] <;> rfl) (Calls.evalArgs_plain ?_)
  exact thn hA fun us s2 ⟨vs, H2, I2, r2, q2⟩ => hm pins s2 σ H2 x vs v us Q I2 r1 r2 q2
end
end L2
namespace L2
open PySem PySem.Spec PyProof.Rows
def MtM (X : Cx) (id : String) (r : V → List V → Hp → VK → Prop) : Prop :=
  ∀ (pins : List (Addr × Obj)) (s : Shared) (σ : St) (H : Hp) (x : V) (xs : List V) (v : Value) (us : List Value) (Q : VK), Inv X pins σ H s → RelV x v → Vals xs us → r x xs H Q →
    wpAny (model X.prog X.w) X.A (call (.builtin id) (v :: us)) (EP X pins σ Q) X.xe s
theorem Vals.one : ∀ {x : V} {us : List Value}, Vals [x] us → ∃ u, us = [u] ∧ RelV x u
  | _, _, .cons r .nil => ⟨_, rfl, r⟩
theorem Vals.two : ∀ {x y : V} {us : List Value}, Vals [x, y] us → ∃ u v, us = [u, v] ∧ RelV x u ∧ RelV y v
  | _, _, _, .cons r (.cons q .nil) => ⟨_, _, rfl, r, q⟩
theorem Vals.zero : ∀ {us : List Value}, Vals [] us → us = []
  | _, .nil => rfl
theorem Vals.dropLast {xs : List V} {us : List Value} (h : Vals xs us) : Vals xs.dropLast us.dropLast := by
  induction h with
  | nil => exact .nil
  | cons r t ih =>
    cases t with
    | nil => exact .nil
    | cons q t' => exact .cons r ih
theorem Vals.eraseIdx : ∀ {xs : List V} {us : List Value} (i : Nat), Vals xs us → Vals (xs.eraseIdx i) (us.eraseIdx i)
  | _, _, _, .nil => .nil
  | _, _, 0, .cons _ t => t
  | _, _, i + 1, .cons r t => .cons r (Vals.eraseIdx i t)
theorem Vals.reverse {xs : List V} {us : List Value} (h : Vals xs us) : Vals xs.reverse us.reverse := by
  induction h with
  | nil => exact .nil
  | cons r t ih => rw [List.reverse_cons, List.reverse_cons]; exact Vals.append ih (.cons r .nil)
theorem erase_last {α : Type} (l : List α) : l.eraseIdx (l.length - 1) = l.dropLast := by
  induction l with
  | nil => rfl
  | cons a r ih =>
    cases r with
    | nil => rfl
    | cons b r =>
      have e : (a :: b :: r).length - 1 = ((b :: r).length - 1) + 1 := by
        have h1 : (a :: b :: r).length = r.length + 2 := rfl
        have h2 : (b :: r).length = r.length + 1 := rfl
        omega
      rw [e, List.eraseIdx_cons_succ, ih]
      all_goals rfl
section
variable {X : Cx} {pins : List (Addr × Obj)} {σ : St} {H : Hp} {s : Shared} {l b : Addr} {xs ys zs : List V}
theorem Inv.lset {its its' : List Value} {n : Nat} {f : Array Value → Array Value} {t' : Nat} (I : Inv X pins σ H s) (hH : H l = some (.lst xs))
    (e : s.heap.get? l = some { cls := .type "list", data := .seq its.toArray n }) (hf : f its.toArray = its'.toArray) (hv : Vals ys its') (hz : ys.length ≤ sizeLine) :
    Inv X pins σ (upd H l (.lst ys)) { s with heap := s.heap.update l (Obj.mapSeq f), toks := t' } := by
  have q := PySem.IsL.update e f
  rw [hf] at q
  refine I.write (x := l) (e := l) (by rw [hH]; exact trivial) (.inl rfl) (fun b' u hb hu => (Heap.get?_update_other s.heap (Obj.mapSeq f) (Ne.symm hb)).trans hu) ⟨_, q⟩ ?_
  exact ⟨hz, its', _, hv, q⟩
theorem Inv.lnew {its : List Value} {t' : Nat} (I : Inv X pins σ H s) (hv : Vals ys its) (hz : ys.length ≤ sizeLine) :
    Inv X pins σ (upd H s.heap.objs.size (.lst ys)) { s with heap := s.heap.push { cls := .type "list", data := .seq its.toArray }, toks := t' } :=
  I.laid (fun _ _ q => Heap.get?_push_of_some _ q) (Nat.le_refl _) ⟨hz, its, 0, hv, Heap.get?_push_size _ rfl⟩
theorem Inv.fresh (I : Inv X pins σ H s) : H s.heap.objs.size = none := I.hok.fresh (Nat.le_refl _)
theorem Inv.lstM (I : Inv X pins σ H s) (hH : H l = some (.lst xs)) : xs.length ≤ sizeLine ∧ ∃ (its : List Value) (n : Nat), Vals xs its ∧ xs.length = its.length ∧ s.heap.get? l = some { cls := .type "list", data := .seq its.toArray n } := by
  obtain ⟨z, its, n, r, e⟩ := I.hok l _ hH
  exact ⟨z, its, n, r, r.length, e⟩
end
section
variable {X : Cx}
def rAppend : V → List V → Hp → VK → Prop := fun x vs H Q => ∃ l xs y, x = .ref l ∧ vs = [y] ∧ H l = some (.lst xs) ∧ xs.length < sizeLine ∧ Q .non (upd H l (.lst (xs ++ [y])))
theorem mt_append : MtM X "list.append" rAppend := by
  intro pins s σ H x vs v us Q I rx rv h
  obtain ⟨l, xs, y, rfl, rfl, hH, hz, q⟩ := h
  cases rx
  obtain ⟨u, rfl, ru⟩ := rv.one
  obtain ⟨z, its, n, r, hl, e⟩ := I.lstM hH
  refine call_meets F.slot_list_append ⟨_, e, rfl⟩ F.entry_list_append (F.args_list_append_2 _ _) (PySem.list_append l its.toArray n u (by rw [List.size_toArray]; omega)) ⟨e, ?_⟩
  refine ⟨.non, _, I.lset (its' := its ++ [u]) hH e (by simp) (r.append (.cons ru .nil)) ?_, rfl, q⟩
  rw [List.length_append, List.length_singleton]
  omega
def rPop : V → List V → Hp → VK → Prop := fun x vs H Q => ∃ l xs y, x = .ref l ∧ vs = [] ∧ H l = some (.lst xs) ∧ xs[xs.length - 1]? = some y ∧ Q y (upd H l (.lst xs.dropLast))
theorem mt_pop : MtM X "list.pop" rPop := by
  intro pins s σ H x vs v us Q I rx rv h
  obtain ⟨l, xs, y, rfl, rfl, hH, hy, q⟩ := h
  cases rx
  have hus := rv.zero
  subst hus
  obtain ⟨z, its, n, r, hl, e⟩ := I.lstM hH
  obtain ⟨u, hu, ru⟩ := r.get hy
  have hy' : its.toArray[its.toArray.size - 1]? = some u := by
    show its.toArray[its.length - 1]? = some u
    rw [← Array.getElem?_toList, ← hl]
    exact hu
  refine call_meets F.slot_list_pop ⟨_, e, rfl⟩ F.entry_list_pop (F.args_list_pop_1 _) (MeetsSeq.list_pop_last l its.toArray n u hy' (by rw [List.size_toArray]; omega)) ⟨e, ?_⟩
  refine ⟨y, _, I.lset (its' := its.dropLast) hH e ?_ r.dropLast ?_, ru, q⟩
  · show its.toArray.eraseIdxIfInBounds (its.toArray.size - 1) = its.dropLast.toArray
    rw [List.size_toArray, List.eraseIdxIfInBounds_toArray, erase_last]
  · rw [List.length_dropLast]
    omega
def rPopAt : V → List V → Hp → VK → Prop := fun x vs H Q => ∃ l xs i k y, x = .ref l ∧ vs = [.int i] ∧ H l = some (.lst xs) ∧ -(2 ^ 63) ≤ i ∧ i < 2 ^ 63 ∧ seqIndex? i xs.length = some k ∧ xs[k]? = some y ∧ Q y (upd H l (.lst (xs.eraseIdx k)))
def rCat : R2 := fun x y H Q => ∃ l b xs zs, x = .ref l ∧ y = .ref b ∧ H l = some (.lst xs) ∧ H b = some (.lst zs) ∧ xs.length + zs.length ≤ sizeLine ∧ ∀ p, H p = none → Q (.ref p) (upd H p (.lst (xs ++ zs)))
theorem op_cat : OpR X (binaryOp .Add) rCat := by
  intro pins s σ H x y v u Q I rx ry h
  obtain ⟨l, b, xs, zs, rfl, rfl, hH, hB, hz, q⟩ := h
  cases rx
  cases ry
  obtain ⟨z, its, n, r, hl, e⟩ := I.lstM hH
  obtain ⟨z2, its2, n2, r2, hl2, e2⟩ := I.lstM hB
  refine PySem.P.add_list e e2 ?_ (by rw [List.size_toArray, List.size_toArray]; omega)
  have ea : its.toArray ++ its2.toArray = (its ++ its2).toArray := by simp
  rw [ea]
  exact ⟨.ref _, _, I.lnew (t' := s.toks) (r.append r2) (by rw [List.length_append]; omega), rfl, q _ I.fresh⟩
def rRep : R2 := fun x y H Q => ∃ l k xs, x = .ref l ∧ y = .int k ∧ H l = some (.lst xs) ∧ -(2 ^ 63) ≤ k ∧ k < 2 ^ 63 ∧ xs.length * k.toNat ≤ sizeLine ∧
  ∀ p, H p = none → Q (.ref p) (upd H p (.lst (List.replicate k.toNat xs).flatten))
end
section
variable {prog : Program} {w : World} {A : Around} {E : Value → Shared → Prop} {s : Shared}
end
section
variable {X : Cx}
end
end L2
namespace Att
open PySem PySem.W PySem.Calls PyProof.Rows
theorem ints_of_wellAll {P : Params} {h : Heap} : ∀ (ns : List Int) (vs : List Value), WellAll P h vs (ns.map WData.int) → IntsAre vs ns := by
  intro ns
  induction ns with
  | nil =>
    intro vs w
    rw [List.map_nil] at w
    cases w
    exact .nil
  | cons n ns ih =>
    intro vs w
    rw [List.map_cons] at w
    cases w with
    | cons a b =>
      cases a
      exact .cons _ _ (ih _ b)
theorem script_of {l : OpenLaw} {n : Nat} (hn : l.most = some n) {P : Params} {h : Heap} {args : List WData} {vals : List Value}
    (hpre : l.row.toRowW.claim.pre args = true) (hwl : WellAll P h vals args) :
    ∃ a vs ns, vals = [Value.ref a] ∧ args = [WData.list (ns.map WData.int)] ∧ h.get? a = some { cls := .type "list", data := .seq vs.toArray } ∧ IntsAre vs ns ∧ ns.length ≤ n := by
  have hsh : WShape.hasAll [] args [.list .int] = true := (pre_splitW hpre).1
  have hc : l.pre.holds [] { args := args } = true := (pre_splitW hpre).2
  obtain ⟨d, r, rfl, h1, h2⟩ := hasAllW_cons hsh
  obtain rfl := hasAllW_nil h2
  obtain ⟨xs, rfl, h3⟩ := hasW_list h1
  obtain ⟨ns, rfl⟩ := items_int h3
  have hlen : ns.length ≤ n := by
    unfold OpenLaw.pre at hc
    have h4 : (WTm.not (.lt (.lit (.int (n : Int))) (.len (.arg 0)))).holds [] { args := [.list (ns.map .int)] } = true := by
      have h4 := (holds_andW hc).1
      rw [hn] at h4
      exact h4
    have h5 := condW_of h4 (w_not (w_lt w_lit (w_len_list (w_arg rfl))))
    rw [List.length_map] at h5
    refine Nat.le_of_not_lt fun q => ?_
    have q' : (n : Int) < ((ns.length : Nat) : Int) := by omega
    first
      | (rw [decide_eq_true q'] at h5; exact absurd h5 (by decide))
      | (simp at h5; omega)
  cases hwl with
  | cons w1 w2 =>
    cases w2
    cases w1 with
    | list ho hall => exact ⟨_, _, ns, rfl, rfl, ho, ints_of_wellAll ns _ hall, hlen⟩
theorem post_true (l : OpenLaw) (args : List WData) : l.row.toRowW.claim.post args (.bool true) args = true :=
  postW_of (r := l.row.toRowW) (X := (true == true))
    (show WShape.has [] (.bool true) .bool = true by first | rfl | decide | simp [WShape.has, WShape.arms, WShape.armsAll])
    (show (WTm.eq .res (.lit (.bool true))).value [] { args := args, res := some (.bool true), after := args } = some (.bool (true == true)) from w_eq_bool (w_res rfl) w_lit) rfl
theorem attach_call {l : OpenLaw} {n : Nat} {q : Program} {loose : List Str} {XP : (Str → Option Value) → Heap → Prop} {YP : World → Heap → Prop} {d : DefRec}
    (hn : l.most = some n) (hdf : d.params.defaults = [])
    (call : ∀ (w : World) (s₀ s₁ : Shared) (mg mb : Str → Option Value) (fa : Addr) (o : Obj) (pm cd doc : Value) (a : Addr) (vs : List Value) (ns : List Int),
      Ground q loose [] XP w s₀ mg mb s₁.heap → YP w s₁.heap →
      s₁.heap.get? fa = some o → o.data = .func (docDef d.name d.params d.body d.scope pm cd doc) → s₁.heap.CodeRec cd d.name → mg d.name = some (.ref fa) →
      s₁.heap.get? a = some { cls := .type "list", data := .seq vs.toArray } → IntsAre vs ns → ns.length ≤ n → s₁.gens = #[] →
      codeAny (model l.prog w) callerA (.call (.ref fa) ⟨[.ref a], []⟩) (fun r s' => r = .ok (.ret (.bool true)) ∧ OldK s₁.heap s'.heap ∧ s'.os = s₁.os ∧ AllBare s'.gens) s₁) :
    WalkO q loose XP YP l.row.toRowW d [] (fun f vs => PySem.call f vs) := by
  intro w s₀ s₁ mg mb G Y fa o pm cd doc dV kV ho hd hcd hD hmg hg args vals as hpre hlay hrd hwl hlo
  obtain rfl : dV = .none := Dflts.none hD hdf
  obtain rfl : kV = .none := Dflts.noKw hD
  obtain ⟨a, vs, ns, rfl, rfl, hobj, hints, hlen⟩ := script_of hn hpre hwl
  refine enter_call (codeAny_mono (call w s₀ s₁ mg mb fa o pm cd doc a vs ns G Y ho (fd_plain hd) hcd hmg hobj hints hlen hg) fun r s' hq => ?_)
  obtain ⟨rfl, h2, h3, h4⟩ := hq
  exact ⟨.inl ⟨.bool true, .bool true, [], rfl, fun _ => rfl, .bool true, post_true l _, fun _ => ⟨List.Pairwise.nil, fun _ hm => (nomatch hm)⟩⟩, h2, h3, h4⟩
section
variable {prog : Program} {w : World} {A : Around} {E : Value → Shared → Prop} {s : Shared} {K : Frag}
end
end Att
namespace L2
open PySem PySem.Spec PyProof.Rows
theorem vals_ints : ∀ {vs : List Value} {ns : List Int}, IntsAre vs ns → Vals (ns.map V.int) vs
  | _, _, .nil => .nil
  | _, _, .cons n t h => .cons ⟨t, rfl⟩ (vals_ints h)
def Only (H : Hp) : Prop := ∀ b, H b = none ∨ ∃ o xs, H b = some (.frz o (.lst xs))
theorem law_call {P : Program} {w : World} {K : PySem.W.Frag} {mg mb : Str → Option Value} {CX : CXT} {k : Nat} {fa a : Addr} {fd : FuncData} {x : Str} {sp : Sp} {s₁ : Shared} {vs : List Value} {ns : List Int}
    (KX : K.In s₁.heap) (hns : s₁.heap.Ns mainGlobals mg) (hb : s₁.heap.Ns builtinsNs mb) (hbb : ∀ x : Str, x ≠ "__name__" → mb x = bootBuiltins x) (hlim : s₁.heap.NoLimit) (hg : s₁.gens = #[])
    (ha : s₁.heap.get? a = some { cls := .type "list", data := .seq vs.toArray }) (hi : IntsAre vs ns) (hl : ns.length ≤ sizeLine) (hr : Room k callerA)
    (F : ∀ base : Heap, K.In base → base.Ns mainGlobals mg → FnOk P w K mg base CX k fa fd [x] sp) (hbind : ∀ (s : Shared) (u : Value), BindsTo s fd ⟨[u], []⟩ [(x, u)])
    (hsp : ∀ H : Hp, Only H → SqL K H a (ns.map V.int) → sp [.ref a] H (fun v _ => v = .bl true) fun _ _ _ => False)
    (hCX : ∀ H e s', CX [] H s₁ (fun _ _ _ => False) e s' → False) :
    codeAny (model P w) callerA (.call (.ref fa) ⟨[.ref a], []⟩) (fun r s' => r = .ok (.ret (.bool true)) ∧ OldK s₁.heap s'.heap ∧ s'.os = s₁.os ∧ AllBare s'.gens) s₁ := by
  have rv := vals_ints hi
  have lenV := hi.length
  have core : ∀ H : Hp, Only H → SqL K H a (ns.map V.int) → HOk P w H s₁.heap → (∀ b, H b ≠ none → b = a) → (H a ≠ none → K.lookup a = none) →
      codeAny (model P w) callerA (.call (.ref fa) ⟨[.ref a], []⟩) (fun r s' => r = .ok (.ret (.bool true)) ∧ OldK s₁.heap s'.heap ∧ s'.os = s₁.os ∧ AllBare s'.gens) s₁ := by
    intro H hO hS hok hA hK
    have base_of : ∀ {b : Addr} {o : Obj}, s₁.heap.get? b = some o → H b = none → (hidT s₁.heap H).get? b = some o := fun e n => hidT_get e n
    have noA : ∀ {b : Addr} {o : Obj} {es : Array DictEntry} {ep : Nat}, s₁.heap.get? b = some o → o.data = .dict es ep → H b = none := fun {b o es ep} e d => by
      cases q : H b with
      | none => rfl
      | some u =>
        have e' : b = a := hA b (by rw [q]; simp)
        subst e'
        rw [ha] at e; cases e
        have d' : Data.seq vs.toArray _ = Data.dict es ep := d
        cases d'
    have nsK : ∀ {b : Addr} {m : Str → Option Value}, s₁.heap.Ns b m → (hidT s₁.heap H).Ns b m := fun {b m} ⟨o, es, ep, e, d, r⟩ => ⟨o, es, ep, base_of e (noA e d), d, r⟩
    have hKb : K.In (hidT s₁.heap H) := fun b o e => base_of (KX b o e) (by
      cases q : H b with
      | none => rfl
      | some u =>
        have e' : b = a := hA b (by rw [q]; simp)
        subst e'
        rw [hK (by rw [q]; simp)] at e; cases e)
    have hM : Mod K mg (hidT s₁.heap H) := ⟨hKb, nsK hns, ⟨mb, nsK hb, hbb⟩, let ⟨mc, h1, h2⟩ := hlim; ⟨mc, nsK h1, h2⟩⟩
    have e0 : Env0 P w K mg (hidT s₁.heap H) callerA [] s₁ H := ⟨rfl, hM, fun b o e => of_hidT e, Nat.le_of_eq (hidT_size _ _), trivial, fun b hb => absurd (show b ∈ ([] : List Addr) from hb) (by simp), hok, .of_eq hg⟩
    refine codeAny_mono ((F _ hKb (nsK hns)).run callerA [] s₁ H ⟨[.ref a], []⟩ [.ref a] [.ref a] _ _ hr e0 (hbind s₁ (.ref a)) (.cons rfl .nil) (hsp H hO hS)) fun r s' h => ?_
    cases r with
    | error e => exact (hCX H e s' h).elim
    | ok fl =>
      cases fl with
      | next => exact False.elim h
      | brk => exact False.elim h
      | cont => exact False.elim h
      | ret u =>
        obtain ⟨v, H', os, bare, un, hok', r', q⟩ := h
        have q' : v = .bl true := q
        subst q'
        obtain rfl : u = Value.bool true := r'
        refine ⟨rfl, OldK.of_keep fun b o e => ?_, os, bare⟩
        cases q : H b with
        | none => exact un.keep b o e q (by intro z; exact absurd (show b ∈ ([] : List Addr) from z) (by simp)) (by simp)
        | some u =>
          rcases hO b with z | ⟨ob, xs, z⟩
          · rw [q] at z; cases z
          · have z2 := un.frzs b ob _ z
            obtain ⟨e1, _⟩ := hok b _ z
            obtain ⟨e2, _⟩ := hok' b _ z2
            rw [e] at e1; cases e1
            exact e2
  cases hk : K.lookup a with
  | some o =>
    have e := KX a o hk
    rw [ha] at e
    cases e
    refine core (fun _ => none) (fun _ => .inl rfl) (.inr ⟨_, vs.toArray, _, hk, rfl, rfl, rfl, by rw [List.size_toArray, lenV]; exact hl, by simpa using rv⟩) (fun b u z => by have z' : (none : Option HO) = some u := z; cases z') (fun b z => absurd rfl z) fun z => absurd rfl z
  | none =>
    refine core (fun b => if b = a then some (.frz { cls := .type "list", data := .seq vs.toArray } (.lst (ns.map V.int))) else none) (fun b => ?_) (.inl (.inr ⟨{ cls := .type "list", data := .seq vs.toArray }, if_pos rfl⟩)) (fun b u z => ?_) (fun b z => ?_) fun _ => hk
    · by_cases hb : b = a
      · exact .inr ⟨_, _, if_pos hb⟩
      · exact .inl (if_neg hb)
    · by_cases hb : b = a
      · have z' := (if_pos hb).symm.trans z
        cases z'
        subst hb
        exact ⟨ha, by rw [List.length_map]; exact hl, vs, _, rv, ha⟩
      · have z' := (if_neg hb).symm.trans z
        cases z'
    · by_cases hb : b = a
      · exact hb
      · exact absurd (if_neg hb) z
end L2
namespace L2
open PySem PySem.Spec PyProof.Rows
theorem walk_of {l : PySem.W.OpenLaw} {n k : Nat} {q : Program} {loose : List Str} {XP : (Str → Option Value) → Heap → Prop} {YP : World → Heap → Prop} {d : DefRec} {K : Params → PySem.W.Frag} {CX : World → CXT} {sp : World → Sp} {x : Str}
    (hn : l.most = some n) (hn2 : n ≤ sizeLine) (hdf : d.params.defaults = []) (hr : Room k callerA)
    (hY : ∀ (w : World) (h : Heap), YP w h → (K w.params).In h)
    (F : ∀ (w : World) (mg : Str → Option Value) (fa : Addr) (h : Heap), (K w.params).In h → h.Ns mainGlobals mg → mg d.name = some (.ref fa) →
      ∃ fd : FuncData, (∀ (s : Shared) (u : Value), BindsTo s fd ⟨[u], []⟩ [(x, u)]) ∧
        ∀ base : Heap, (K w.params).In base → base.Ns mainGlobals mg → FnOk l.prog w (K w.params) mg base (CX w) k fa fd [x] (sp w))
    (hsp : ∀ (w : World) (H : Hp) (a : Addr) (ns : List Int), ns.length ≤ n → Only H → SqL (K w.params) H a (ns.map V.int) → sp w [.ref a] H (fun v _ => v = .bl true) fun _ _ _ => False)
    (hCX : ∀ (w : World) (H : Hp) (s : Shared) (e : Value) (s' : Shared), CX w [] H s (fun _ _ _ => False) e s' → False) :
    PySem.W.WalkO q loose XP YP l.row.toRowW d [] (fun f vs => PySem.call f vs) := by
  refine Att.attach_call hn hdf fun w s₀ s₁ mg mb fa o pm cd doc a vs ns G Y ho hd hcd hmg hobj hints hlen hg => ?_
  have KX := hY w _ Y
  obtain ⟨fd, hb, hF⟩ := F w mg fa _ KX G.T.g hmg
  exact law_call KX G.T.g G.T.b G.T.builtins G.T.nolimit hg hobj hints (Nat.le_trans hlen hn2) hr hF hb (fun H hO hS => hsp w H a ns hlen hO hS) fun H e s' => hCX w H s₁ e s'
end L2
namespace L2
open PySem PySem.Spec PyProof.Rows
def inClass (s : Stmt) (j : Nat) : Stmt := match s with
  | .ClassDef _ _ _ body _ _ _ _ _ _ _ => body.getD j (.Pass ⟨0, 0, 0, 0⟩)
  | _ => .Pass ⟨0, 0, 0, 0⟩
def defArgs (s : Stmt) : Arguments := match s with
  | .FunctionDef _ a _ _ _ _ _ _ _ _ => a
  | _ => { posonlyargs := [], args := [], vararg := none, kwonlyargs := [], kw_defaults := [], kwarg := none, defaults := [] }
def defBody (s : Stmt) : List Stmt := match s with
  | .FunctionDef _ _ b _ _ _ _ _ _ _ => b
  | _ => []
def defScope (s : Stmt) : Scope := match s with
  | .FunctionDef _ _ _ _ _ _ sc _ _ _ => sc
  | _ => { kind := .function, names := [], isGenerator := false, isCoroutine := false }
abbrev CX0 : CXT := fun _ _ _ _ _ _ => False
abbrev E0 : XK := fun _ _ _ => False
theorem pass0 {X : Cx} : Passes CX0 X E0 := fun _ _ _ _ _ _ _ h => h.elim
structure Fun (K : PySem.W.Frag) (x qual : Str) (st : Stmt) (f : Addr) (fd : FuncData) : Prop where
  ex : ∃ (oc : Value) (od : Option Addr) (kV doc pm : Value) (an : Option Addr) (cdv ct : Value) (osl : Array (Option Value)),
    fd = PySem.W.fnOf x qual (defArgs st) (defBody st) (defScope st) .none kV doc pm an cdv ct ∧ K.lookup f = some ⟨oc, od, .func fd, osl⟩ ∧ PySem.W.codeIn K cdv qual = true
  kp : PySem.W.keepIn K (.ref f) = true
section
variable {P : Program} {w : World} {K : PySem.W.Frag} {mg : Str → Option Value} {base : Heap}
theorem Fun.ok {x qual : Str} {st : Stmt} {f : Addr} {fd : FuncData} {N ps : List Str} {k : Nat} {sp : Sp} (F : Fun K x qual st f fd) (S : FnScope N ps (defScope st)) (len : ∀ vs H Q E, sp vs H Q E → vs.length = ps.length)
    (hbody : ∀ (cdv : Value) (A : Around) (outer : List Env) (s : Shared) (H : Hp) (vs : List V) (Q : VK) (E : XK), Room k (A.deeper (envOfC qual (defScope st) s.heap.objs.size f cdv)) → sp vs H Q E →
      ∃ t, PSs (cxOf CX0 P w K mg base N qual (defScope st) f cdv A outer s H E).nox (defBody st) t ∧ t { nx := fun _ H' => Q .non H', rt := Q } (start N vs) H) : FnOk P w K mg base CX0 (k + 1) f fd ps sp := by
  obtain ⟨oc, od, kV, doc, pm, an, cdv, ct, osl, rfl, lk, hcd⟩ := F.ex
  refine fn_of lk hcd S len fun A outer s H vs Q E hr hsp => ?_
  obtain ⟨t, h, q⟩ := hbody cdv A outer s H vs Q E hr hsp
  exact ⟨t, h.nox, q⟩
theorem Fun.binds {x qual : Str} {st : Stmt} {f : Addr} {fd : FuncData} {ps : List Str} (F : Fun K x qual st f fd)
    (h : ∀ (kV doc pm : Value) (an : Option Addr) (cdv ct : Value) (us : List Value), us.length = ps.length → bindArgs (PySem.W.fnOf x qual (defArgs st) (defBody st) (defScope st) .none kV doc pm an cdv ct) ⟨us, []⟩ = pure (ps.zip us)) : Binds K fd ps [] := by
  obtain ⟨oc, od, kV, doc, pm, an, cdv, ct, osl, rfl, lk, hcd⟩ := F.ex
  exact .all (h kV doc pm an cdv ct)
theorem fun_mk {x qual : Str} {st : Stmt} {f : Addr} {oc : Value} {od an : Option Addr} {osl : Array (Option Value)} {kV doc pm cdv ct : Value} (l : K.lookup f = some ⟨oc, od, .func (PySem.W.fnOf x qual (defArgs st) (defBody st) (defScope st) .none kV doc pm an cdv ct), osl⟩)
    (c : PySem.W.codeIn K cdv qual = true) (k : PySem.W.keepIn K (.ref f) = true) : Fun K x qual st f (PySem.W.fnOf x qual (defArgs st) (defBody st) (defScope st) .none kV doc pm an cdv ct) := ⟨⟨oc, od, kV, doc, pm, an, cdv, ct, osl, rfl, l, c⟩, k⟩
end
section
variable {X : Cx}
theorem pv (i : Nat) {x : Str} {pos : Pos} (hN : X.N[i]? = some x := by rfl) (hv : Vis X.env.scope x := by first | exact Or.inl rfl | exact Or.inr (Or.inl rfl) | exact Or.inr (Or.inr rfl)) (hd : (x == ("__debug__" : Str)) = false := by decide)
    (hcd : (x == ("__classdict__" : Str)) = false := by decide) : PE X (.Name x pos) (tVar i) := pe_var hN hv hd hcd
end
def Same (H H' : Hp) : Prop := ∀ b o, H b = some o → H' b = some o
theorem Same.refl (H : Hp) : Same H H := fun _ _ h => h
theorem Same.trans {H H1 H2 : Hp} (a : Same H H1) (b : Same H1 H2) : Same H H2 := fun c o h => b c o (a c o h)
theorem Same.free {H H' : Hp} (e : Same H H') {l : Addr} (h : H' l = Option.none) : H l = Option.none := by
  cases q : H l with
  | none => rfl
  | some o =>
    rw [e l o q] at h
    cases h
theorem Same.seq {K : PySem.W.Frag} {H H' : Hp} {a : Addr} {xs : List V} (e : Same H H') (h : SqL K H a xs) : SqL K H' a xs := by
  rcases h with (h | ⟨o, h⟩) | h
  · exact .inl (.inl (e _ _ h))
  · exact .inl (.inr ⟨o, e _ _ h⟩)
  · exact .inr h
end L2
set_option Elab.async false
set_option linter.all false
set_option maxRecDepth 100000
namespace L2
open PySem PySem.Spec PyProof.Rows
section
variable {κ : Type} [DecidableEq κ]
def valV (kvs : List (κ × V)) (k : κ) : Option V := (kvs.find? fun kv => decide (kv.1 = k)).map (·.2)
def putK (kvs : List (κ × V)) (k : κ) (v : V) : List (κ × V) :=
  if (kvs.any fun kv => decide (kv.1 = k)) = true then kvs.map (fun kv => if kv.1 = k then (kv.1, v) else kv) else kvs ++ [(k, v)]
def dropK (kvs : List (κ × V)) (k : κ) : List (κ × V) := kvs.filter fun kv => decide (kv.1 ≠ k)
theorem valV_pos {p : κ × V} {r : List (κ × V)} {k : κ} (e : p.1 = k) : valV (p :: r) k = some p.2 := by simp [valV, List.find?_cons, e]
theorem valV_neg {p : κ × V} {r : List (κ × V)} {k : κ} (e : ¬ p.1 = k) : valV (p :: r) k = valV r k := by simp [valV, List.find?_cons, e]
theorem valV_any (k : κ) : ∀ kvs : List (κ × V), (kvs.any fun kv => decide (kv.1 = k)) = (valV kvs k).isSome
  | [] => rfl
  | p :: r => by
    rw [List.any_cons]
    by_cases e : p.1 = k
    · simp only [valV_pos e, decide_eq_true e, Bool.true_or, Option.isSome_some]
    · rw [valV_neg e, decide_eq_false e, Bool.false_or]; exact valV_any k r
theorem RelO.isSome_eq {o : Option V} {u : Option Value} (r : RelO o u) : o.isSome = u.isSome := by
  cases o with
  | none => cases u with
    | none => rfl
    | some _ => exact (show False from r).elim
  | some _ => cases u with
    | none => exact (show False from r).elim
    | some _ => rfl
theorem RelO.getD {o : Option V} {u : Option Value} {d : V} {d' : Value} (r : RelO o u) (rd : RelV d d') : RelV (o.getD d) (u.getD d') := by
  cases o with
  | none => cases u with
    | none => exact rd
    | some _ => exact (show False from r).elim
  | some _ => cases u with
    | none => exact (show False from r).elim
    | some _ => exact r
theorem KV.val {kvs : List (κ × V)} {vs : List (κ × Value)} (r : KV kvs vs) (k : κ) : RelO (valV kvs k) (valueAt vs k) := by
  unfold KV at r
  induction r with
  | nil => exact True.intro
  | @cons p q ps qs h t ih =>
    obtain ⟨h1, h2⟩ := h
    by_cases e : p.1 = k
    · have e' : q.1 = k := h1.symm.trans e
      have b : valueAt (q :: qs) k = some q.2 := by simp [valueAt, List.find?_cons, e']
      rw [valV_pos e, b]; exact h2
    · have e' : ¬ q.1 = k := fun z => e (h1.trans z)
      have b : valueAt (q :: qs) k = valueAt qs k := by simp [valueAt, List.find?_cons, e']
      rw [valV_neg e, b]; exact ih
theorem KV.any {kvs : List (κ × V)} {vs : List (κ × Value)} (r : KV kvs vs) (k : κ) : (kvs.any fun kv => decide (kv.1 = k)) = vs.any fun kv => decide (kv.1 = k) := by
  unfold KV at r
  induction r with
  | nil => rfl
  | cons h t ih => rw [List.any_cons, List.any_cons, ih, h.1]
theorem KV.repl {kvs : List (κ × V)} {vs : List (κ × Value)} (r : KV kvs vs) (k : κ) {y : V} {u : Value} (ry : RelV y u) :
    KV (kvs.map fun kv => if kv.1 = k then (kv.1, y) else kv) (vs.map fun kv => if kv.1 = k then (kv.1, u) else kv) := by
  unfold KV at r ⊢
  induction r with
  | nil => exact .nil
  | @cons p q ps qs h t ih =>
    rw [List.map_cons, List.map_cons]
    refine .cons ?_ ih
    obtain ⟨h1, h2⟩ := h
    by_cases e : p.1 = k
    · rw [if_pos e, if_pos (h1.symm.trans e)]; exact ⟨h1, ry⟩
    · rw [if_neg e, if_neg (fun z => e (h1.trans z))]; exact ⟨h1, h2⟩
theorem KV.put {kvs : List (κ × V)} {vs : List (κ × Value)} (r : KV kvs vs) (k : κ) {y : V} {u : Value} (ry : RelV y u) : KV (putK kvs k y) (stored vs k u) := by
  unfold putK stored
  rw [r.any k]
  by_cases e : (vs.any fun kv => decide (kv.1 = k)) = true
  · rw [if_pos e, if_pos e]; exact r.repl k ry
  · rw [if_neg e, if_neg e]; exact Paired.snoc r ⟨rfl, ry⟩
theorem KV.drop {kvs : List (κ × V)} {vs : List (κ × Value)} (r : KV kvs vs) (k : κ) : KV (dropK kvs k) (without vs k) := by
  unfold KV at r ⊢
  unfold dropK without
  induction r with
  | nil => exact .nil
  | @cons p q ps qs h t ih =>
    obtain ⟨h1, h2⟩ := h
    rw [List.filter_cons, List.filter_cons]
    by_cases e : p.1 = k
    · have a : ¬ decide (p.1 ≠ k) = true := by simp [e]
      have b : ¬ decide (q.1 ≠ k) = true := by simp [h1.symm.trans e]
      rw [if_neg a, if_neg b]; exact ih
    · have e' : ¬ q.1 = k := fun z => e (h1.trans z)
      have a : decide (p.1 ≠ k) = true := by simp [e]
      have b : decide (q.1 ≠ k) = true := by simp [e']
      rw [if_pos a, if_pos b]; exact .cons ⟨h1, h2⟩ ih
theorem KV.keys {kvs : List (κ × V)} {vs : List (κ × Value)} (r : KV kvs vs) : kvs.map (·.1) = vs.map (·.1) := by
  unfold KV at r
  induction r with
  | nil => rfl
  | cons h t ih => rw [List.map_cons, List.map_cons, ih, h.1]
theorem KV.length {kvs : List (κ × V)} {vs : List (κ × Value)} (r : KV kvs vs) : kvs.length = vs.length := Paired.length r
end
abbrev KT (H : Hp) : List (List Key × V) → List (List Key × Addr × Value) → Prop := Paired fun p q => p.1 = q.1 ∧ H q.2.1 = some (.tup (p.1.map kV)) ∧ RelV p.2 q.2.2
theorem KT.val {H : Hp} {kvs : List (List Key × V)} {xs : List (List Key × Addr × Value)} (r : KT H kvs xs) (k : List Key) : RelO (valV kvs k) ((atKey xs k).map (·.2)) := by
  induction r with
  | nil => exact True.intro
  | @cons p q ps qs h t ih =>
    obtain ⟨h1, _, h2⟩ := h
    by_cases e : p.1 = k
    · have e' : q.1 = k := h1.symm.trans e
      have b : atKey (q :: qs) k = some q.2 := by simp [atKey, List.find?_cons, e']
      rw [valV_pos e, b]; exact h2
    · have e' : ¬ q.1 = k := fun z => e (h1.trans z)
      have b : atKey (q :: qs) k = atKey qs k := by simp [atKey, List.find?_cons, e']
      rw [valV_neg e, b]; exact ih
theorem KT.repl {H : Hp} {kvs : List (List Key × V)} {xs : List (List Key × Addr × Value)} (r : KT H kvs xs) (k : List Key) {y : V} {u : Value} (ry : RelV y u) :
    KT H (kvs.map fun kv => if kv.1 = k then (kv.1, y) else kv) (xs.map (putAt k u)) := by
  induction r with
  | nil => exact .nil
  | @cons p q ps qs h t ih =>
    rw [List.map_cons, List.map_cons]
    refine .cons ?_ ih
    obtain ⟨h1, h2, h3⟩ := h
    unfold putAt
    by_cases e : p.1 = k
    · rw [if_pos e, if_pos (h1.symm.trans e)]; exact ⟨h1, h2, ry⟩
    · rw [if_neg e, if_neg (fun z => e (h1.trans z))]; exact ⟨h1, h2, h3⟩
theorem KT.put {H : Hp} {kvs : List (List Key × V)} {xs : List (List Key × Addr × Value)} (r : KT H kvs xs) (k : List Key) {b : Addr} {y : V} {u : Value} (hb : H b = some (.tup (k.map kV))) (ry : RelV y u) :
    KT H (putK kvs k y) (storedH xs k b u) := by
  have e : (kvs.any fun kv => decide (kv.1 = k)) = (atKey xs k).isSome := by
    rw [valV_any, (r.val k).isSome_eq, Option.isSome_map]
  unfold putK storedH
  rw [e]
  by_cases q : (atKey xs k).isSome = true
  · rw [if_pos q, if_pos q]; exact r.repl k ry
  · rw [if_neg q, if_neg q]; exact Paired.snoc r ⟨rfl, hb, ry⟩
theorem KT.keeps {H H' : Hp} {kvs : List (List Key × V)} {xs : List (List Key × Addr × Value)} (r : KT H kvs xs) (ht : ∀ b ys, H b = some (.tup ys) → H' b = some (.tup ys)) : KT H' kvs xs :=
  Paired.mapP r fun _ _ z => ⟨z.1, ht _ _ z.2.1, z.2.2⟩
section
variable {P : Program} {w : World} {H : Hp} {h : Heap} {a : Addr}
theorem rd_of {u : HO} (ok : HOk P w H h) (e : Rd H a u) : ObjOk P w H h a u := e.ok ok
theorem dk_rd {kvs : List (Key × V)} (ok : HOk P w H h) (e : Rd H a (.dK kvs)) : kvs.length ≤ sizeLine ∧ (a == sysModules) = false ∧ ∃ vs, KV kvs vs ∧ h.DictOf (mixKind P w) a vs :=
  show ObjOk P w H h a (.dK kvs) from rd_of ok e
end
def DGet (H : Hp) (a : Addr) (y : V) (r : Option V) : Prop :=
  (∃ kvs k, Rd H a (.dK kvs) ∧ y = kV k ∧ r = valV kvs k) ∨ ∃ kvs k b, Rd H a (.dT kvs) ∧ y = .ref b ∧ H b = some (.tup (k.map kV)) ∧ r = valV kvs k
def DPut (H : Hp) (a : Addr) (y v : V) (H' : Hp) : Prop :=
  (∃ kvs k, H a = some (.dK kvs) ∧ y = kV k ∧ kvs.length < sizeLine ∧ H' = upd H a (.dK (putK kvs k v))) ∨
  ∃ kvs k b, H a = some (.dT kvs) ∧ y = .ref b ∧ H b = some (.tup (k.map kV)) ∧ kvs.length < sizeLine ∧ H' = upd H a (.dT (putK kvs k v))
theorem DGet.k {H : Hp} {a : Addr} {kvs : List (Key × V)} {k : Key} (e : H a = some (.dK kvs)) : DGet H a (kV k) (valV kvs k) := .inl ⟨kvs, k, .inl e, rfl, rfl⟩
theorem DGet.t {H : Hp} {a b : Addr} {kvs : List (List Key × V)} {k : List Key} (e : H a = some (.dT kvs)) (eb : H b = some (.tup (k.map kV))) : DGet H a (.ref b) (valV kvs k) := .inr ⟨kvs, k, b, .inl e, rfl, eb, rfl⟩
theorem DPut.k {H : Hp} {a : Addr} {kvs : List (Key × V)} {k : Key} {v : V} (e : H a = some (.dK kvs)) (hl : kvs.length < sizeLine) : DPut H a (kV k) v (upd H a (.dK (putK kvs k v))) := .inl ⟨kvs, k, e, rfl, hl, rfl⟩
theorem DPut.t {H : Hp} {a b : Addr} {kvs : List (List Key × V)} {k : List Key} {v : V} (e : H a = some (.dT kvs)) (eb : H b = some (.tup (k.map kV))) (hl : kvs.length < sizeLine) :
    DPut H a (.ref b) v (upd H a (.dT (putK kvs k v))) := .inr ⟨kvs, k, b, e, rfl, eb, hl, rfl⟩
section
variable {X : Cx} {pins : List (Addr × Obj)} {σ : St} {H : Hp} {s : Shared} {a : Addr} {y v : V} {u r : Value} {o : Option V} {A : Around} {E : Value → Shared → Prop}
end
section
variable {X : Cx} {pins : List (Addr × Obj)} {σ : St} {H : Hp} {s : Shared} {a : Addr} {kvs : List (Key × V)} {k : Key} {u : Value} {A : Around} {E : Value → Shared → Prop}
theorem d_len {Q : Value → Shared → Prop} (I : Inv X pins σ H s) (e : Rd H a (.dK kvs)) (h : ∀ t s', Inv X pins σ H s' → Q (.int kvs.length t) s') : wpAny (model X.prog X.w) A (call (.builtin "len") [.ref a]) Q E s := by
  obtain ⟨z, hd, vs, rel, dd⟩ := dk_rd I.hok e
  refine call_len_dict hd dd (by rw [← rel.length]; rw [sizeLine_eq] at z; omega) ?_
  rw [← rel.length]
  exact h _ _ (I.tok _)
end
def tDGet (td ty : TE) : TE := fun σ H Q => td σ H fun x H1 => ty σ H1 fun y H2 => ∃ a v, x = .ref a ∧ DGet H2 a y (some v) ∧ Q v H2
section
variable {X : Cx} {o i e value : Expr} {pos pos' tpos : Pos} {td ty tv : TE}
end
def tDNewK : TE := fun _ H Q => ∀ p, H p = none → Q (.ref p) (upd H p (.dK []))
section
variable {X : Cx} {pos : Pos}
end
def tPairs : List (TE × TE) → St → Hp → (List (V × V) → Hp → Prop) → Prop
  | [], _, H, Q => Q [] H
  | (tk, tv) :: r, σ, H, Q => tk σ H fun x H1 => tv σ H1 fun y H2 => tPairs r σ H2 fun ps H3 => Q ((x, y) :: ps) H3
def mergeK (kvs more : List (Key × V)) : List (Key × V) := more.foldl (fun acc kv => putK acc kv.1 kv.2) kvs
theorem KV.merge : ∀ {more : List (Key × V)} {rs : List (Key × Value)} {kvs : List (Key × V)} {vs : List (Key × Value)}, KV more rs → KV kvs vs → KV (mergeK kvs more) (merged vs rs) := by
  intro more rs kvs vs r
  unfold KV at r
  induction r generalizing kvs vs with
  | nil => intro q; exact q
  | @cons p q ps qs h t ih =>
    intro r0
    have e : KV (putK kvs p.1 p.2) (stored vs q.1 q.2) := by
      have := r0.put p.1 h.2
      rw [← h.1]; exact this
    exact ih e
def tDisp (trs : List (TE × TE)) : TE := fun σ H Q => ∀ p, H p = none → tPairs trs σ (upd H p (.dK [])) fun ps H2 => H2 p = some (.dK []) ∧ ∃ kvs : List (Key × V), ps = kvs.map (fun kv => (kV kv.1, kv.2)) ∧ kvs.length ≤ 15 ∧ Q (.ref p) (upd H2 p (.dK (mergeK [] kvs)))
structure M1 (X : Cx) (o : Expr) (m : Str) (apos : Pos) (e : Expr) (cpos : Pos) : Prop where
  base : attributeBase o m X.env (eval o X.env) = eval o X.env
  few : ((backTo cpos (starEach [e] X.env)).all (fun x => !x.1) && (backToKw cpos (keywordEach [] X.env)).all (fun x => x.1.isSome)
    && decide (([e] : List Expr).length + ([] : List Keyword).length + (if ([] : List Keyword).isEmpty then 0 else 1) < 30)) = true
  line : (apos.endLine == cpos.line) = true
  trees : backTo cpos (starEach [e] X.env) = [(false, eval e X.env)]
structure M2 (X : Cx) (o : Expr) (m : Str) (apos : Pos) (e f : Expr) (cpos : Pos) : Prop where
  base : attributeBase o m X.env (eval o X.env) = eval o X.env
  few : ((backTo cpos (starEach [e, f] X.env)).all (fun x => !x.1) && (backToKw cpos (keywordEach [] X.env)).all (fun x => x.1.isSome)
    && decide (([e, f] : List Expr).length + ([] : List Keyword).length + (if ([] : List Keyword).isEmpty then 0 else 1) < 30)) = true
  line : (apos.endLine == cpos.line) = true
  trees : backTo cpos (starEach [e, f] X.env) = [(false, eval e X.env), (false, eval f X.env)]
section
variable {X : Cx} {pins : List (Addr × Obj)} {σ : St} {H : Hp} {s : Shared} {a : Addr} {y d : V} {u r : Value} {o : Option V} {A : Around} {E : Value → Shared → Prop}
end
section
variable {X : Cx} {o e f : Expr} {apos cpos : Pos} {td ty tx : TE}
end
section
variable {X : Cx} {pins : List (Addr × Obj)} {σ : St} {H : Hp} {s : Shared} {a : Addr} {kvs : List (Key × V)} {A : Around} {E : Value → Shared → Prop}
end
section
variable {X : Cx} {pins : List (Addr × Obj)} {σ : St} {H : Hp} {s : Shared} {a : Addr} {y : V} {u : Value} {A : Around} {E : Value → Shared → Prop}
end
end L2
namespace L2
open PySem PySem.Spec PyProof.Rows
section
variable {X : Cx}
end
section
variable {κ : Type} [DecidableEq κ]
end
end L2
set_option Elab.async false
set_option linter.all false
set_option maxRecDepth 100000
namespace L2
open PySem PySem.Spec PyProof.Rows
def cxComp (X : Cx) (scope : Scope) (cl : List (Str × Addr)) (N : List Str) (C : Addr) (ex : List Addr) (s₀ : Shared) (H₀ : Hp) : Cx where
  prog := X.prog
  w := X.w
  K := X.K
  mg := X.mg
  base := X.base
  A := X.A
  N := N
  s₀ := s₀
  H₀ := H₀
  env := compEnvC scope cl C X.env
  outer := X.stack
  stack := X.stack
  ex := ex
  fn := fun _ => false
  calm := X.calm
  pn := X.pn
  xe := fun _ _ => False
theorem calm_comp {X : Cx} {scope : Scope} {cl : List (Str × Addr)} {N : List Str} {C : Addr} {ex : List Addr} {s₀ : Shared} {H₀ : Hp} (c : Calm X) : Calm (cxComp X scope cl N C ex s₀ H₀) := c
structure CompScope (X : Cx) (scope : Scope) (tn cn : List Str) (caps : List Nat) : Prop where
  kind : scope.kind = .function
  nocell : ∀ y ∈ scope.names, y.2 ≠ .cell
  names : ∀ y ∈ scope.names, y.2 = .local → scope.names.lookup y.1 = some .local
  caught : ∀ y ∈ scope.names, y.2 = .free → X.env.kindOf y.1 = some .cell ∨ X.env.kindOf y.1 = some .free
  free : ∀ y ∈ cn, scope.names.lookup y = some .free
  slots : caps.map (fun j => X.N[j]?) = cn.map some
theorem CompScope.of {X : Cx} {scope osc : Scope} {tn cn : List Str} {caps : List Nat} (ho : X.env.scope = osc) (kind : scope.kind = .function) (nocell : ∀ y ∈ scope.names, y.2 ≠ .cell)
    (names : ∀ y ∈ scope.names, y.2 = .local → scope.names.lookup y.1 = some .local) (caught : ∀ y ∈ scope.names, y.2 = .free → osc.names.lookup y.1 = some .cell ∨ osc.names.lookup y.1 = some .free) (free : ∀ y ∈ cn, scope.names.lookup y = some .free)
    (slots : caps.map (fun j => X.N[j]?) = cn.map some) : CompScope X scope tn cn caps :=
  ⟨kind, nocell, names, fun y hy hf => by show X.env.scope.names.lookup y.1 = _ ∨ X.env.scope.names.lookup y.1 = _; rw [ho]; exact caught y hy hf, free, slots⟩
def capσ (σ : St) (caps : List Nat) : St := caps.map fun j => (σ[j]?).getD none
theorem closureFor_acc (env : Env) : ∀ (names : List (Str × NameKind)) (cs : List (Str × Addr)), (∀ x ∈ names, x.2 = .free → ∃ c, env.cells.lookup x.1 = some c) → (∀ y c, cs.lookup y = some c → env.cells.lookup y = some c) →
    ∃ cl : List (Str × Addr), (forIn names cs fun (x : Str × NameKind) (r : List (Str × Addr)) => (if (x.2 == NameKind.free) = true then do let a ← cellOf env x.1; pure (ForInStep.yield ((x.1, a) :: r)) else pure (ForInStep.yield r) : Sem (ForInStep (List (Str × Addr))))) = pure cl ∧
      (∀ y c, cl.lookup y = some c → env.cells.lookup y = some c) ∧ (∀ x ∈ names, x.2 = .free → ∃ c, cl.lookup x.1 = some c) ∧ ∀ y c, cs.lookup y = some c → ∃ c', cl.lookup y = some c'
  | [], cs, _, h2 => ⟨cs, by simp, h2, fun x h => absurd h (by simp), fun y c h => ⟨c, h⟩⟩
  | (n, k) :: r, cs, h1, h2 => by
    by_cases hk : (k == NameKind.free) = true
    · obtain ⟨c, hc⟩ := h1 (n, k) List.mem_cons_self (by simpa using hk)
      have h2' : ∀ y d, ((n, c) :: cs).lookup y = some d → env.cells.lookup y = some d := fun y d h => by
        rw [List.lookup_cons] at h
        split at h
        · rename_i e
          have e' : y = n := by simpa using e
          cases h
          rw [e']; exact hc
        · exact h2 y d h
      obtain ⟨cl, e, p1, p2, p3⟩ := closureFor_acc env r ((n, c) :: cs) (fun x hx => h1 x (List.mem_cons_of_mem _ hx)) h2'
      refine ⟨cl, ?_, p1, fun x hx hf => ?_, fun y d h => ?_⟩
      · rw [List.forIn_cons]
        simp only [hk, if_true, cellOf, hc, pure_bind]
        exact e
      · rcases List.mem_cons.mp hx with e1 | e1
        · subst e1
          exact p3 n c (by rw [List.lookup_cons]; simp)
        · exact p2 x e1 hf
      · by_cases hy : (y == n) = true
        · exact p3 y c (by rw [List.lookup_cons, hy])
        · exact p3 y d (by rw [List.lookup_cons]; simp only [Bool.not_eq_true] at hy; rw [hy]; exact h)
    · obtain ⟨cl, e, p1, p2, p3⟩ := closureFor_acc env r cs (fun x hx => h1 x (List.mem_cons_of_mem _ hx)) h2
      refine ⟨cl, ?_, p1, fun x hx hf => ?_, p3⟩
      · rw [List.forIn_cons]
        simp only [hk, if_false, pure_bind, Bool.false_eq_true]
        exact e
      · rcases List.mem_cons.mp hx with e1 | e1
        · subst e1
          exact absurd (by simpa using hf) hk
        · exact p2 x e1 hf
theorem closureFor_some {scope : Scope} {env : Env} (h : ∀ x ∈ scope.names, x.2 = .free → ∃ c, env.cells.lookup x.1 = some c) :
    ∃ cl : List (Str × Addr), closureFor scope env = pure cl ∧ (∀ y c, cl.lookup y = some c → env.cells.lookup y = some c) ∧ ∀ x ∈ scope.names, x.2 = .free → ∃ c, cl.lookup x.1 = some c := by
  obtain ⟨cl, e, p1, p2, _⟩ := closureFor_acc env scope.names [] h (fun y c h => by simp at h)
  refine ⟨cl, ?_, p1, p2⟩
  unfold closureFor
  simp only [bind_pure]
  first
    | exact e
    | (rw [← e]; rfl)
    | (rw [← e]; congr 1; funext x r; obtain ⟨n, k⟩ := x; by_cases hk : (k == NameKind.free) = true <;> simp [hk])
theorem lookup_relabel_free {env : Env} : ∀ {names : List (Str × NameKind)} {x : Str}, names.lookup x = some .free →
    (names.map fun (n, k) => if (k == NameKind.free && env.scope.kind == .function && env.kindOf n == some .cell) then (n, NameKind.cell) else (n, k)).lookup x = some .cell ∨
    (names.map fun (n, k) => if (k == NameKind.free && env.scope.kind == .function && env.kindOf n == some .cell) then (n, NameKind.cell) else (n, k)).lookup x = some .free
  | [], _, h => by simp at h
  | (n, k) :: r, x, h => by
    have ih := @lookup_relabel_free env r x
    show List.lookup x ((if (k == NameKind.free && env.scope.kind == .function && env.kindOf n == some .cell) = true then (n, NameKind.cell) else (n, k)) :: _) = _ ∨ List.lookup x ((if (k == NameKind.free && env.scope.kind == .function && env.kindOf n == some .cell) = true then (n, NameKind.cell) else (n, k)) :: _) = _
    cases hx : x == n with
    | true =>
      simp only [List.lookup_cons, hx] at h
      cases h
      by_cases hc : (NameKind.free == NameKind.free && env.scope.kind == .function && env.kindOf n == some .cell) = true
      · rw [if_pos hc]; simp [List.lookup_cons, hx]
      · rw [if_neg hc]; simp [List.lookup_cons, hx]
    | false =>
      simp only [List.lookup_cons, hx] at h
      by_cases hc : (k == NameKind.free && env.scope.kind == .function && env.kindOf n == some .cell) = true
      · rw [if_pos hc]; simp only [List.lookup_cons, hx]; exact ih h
      · rw [if_neg hc]; simp only [List.lookup_cons, hx]; exact ih h
theorem relabel_inv {env : Env} : ∀ {names : List (Str × NameKind)} {x : Str}, (∀ y ∈ names, y.2 ≠ .cell) →
    ((names.map fun (n, k) => if (k == NameKind.free && env.scope.kind == .function && env.kindOf n == some .cell) then (n, NameKind.cell) else (n, k)).lookup x = some .cell ∨
    (names.map fun (n, k) => if (k == NameKind.free && env.scope.kind == .function && env.kindOf n == some .cell) then (n, NameKind.cell) else (n, k)).lookup x = some .free) → names.lookup x = some .free
  | [], _, _, h => by simp at h
  | (n, k) :: r, x, hn, h => by
    have ih := @relabel_inv env r x (fun y hy => hn y (List.mem_cons_of_mem _ hy))
    have h : List.lookup x ((if (k == NameKind.free && env.scope.kind == .function && env.kindOf n == some .cell) = true then (n, NameKind.cell) else (n, k)) :: _) = _ ∨ List.lookup x ((if (k == NameKind.free && env.scope.kind == .function && env.kindOf n == some .cell) = true then (n, NameKind.cell) else (n, k)) :: _) = _ := h
    cases hx : x == n with
    | true =>
      simp only [List.lookup_cons, hx]
      by_cases hc : (k == NameKind.free && env.scope.kind == .function && env.kindOf n == some .cell) = true
      · have : (k == NameKind.free) = true := by
          simp only [Bool.and_eq_true] at hc; exact hc.1.1
        have : k = .free := by simpa using this
        rw [this]
      · rw [if_neg hc] at h
        simp only [List.lookup_cons, hx] at h
        rcases h with h | h
        · exact absurd (Option.some.inj h) (hn (n, k) List.mem_cons_self)
        · rw [Option.some.inj h]
    | false =>
      simp only [List.lookup_cons, hx]
      by_cases hc : (k == NameKind.free && env.scope.kind == .function && env.kindOf n == some .cell) = true
      · rw [if_pos hc] at h; simp only [List.lookup_cons, hx] at h; exact ih h
      · rw [if_neg hc] at h; simp only [List.lookup_cons, hx] at h; exact ih h
section
variable {X : Cx} {scope : Scope} {tn cn : List Str} {caps : List Nat} {pins : List (Addr × Obj)} {σ : St} {H : Hp} {s : Shared} {fp : List Addr} {cl : List (Str × Addr)} {ob : Obj}
theorem comp_ok (S : CompScope X scope tn cn caps) (I : Inv X pins σ H s) (hcl : ∀ y c, cl.lookup y = some c → X.env.cells.lookup y = some c) (hcl2 : ∀ x ∈ scope.names, x.2 = .free → ∃ c, cl.lookup x.1 = some c)
    (hf : ∀ b ∈ fp, FpOk X pins H b) (hfp : ∀ b ∈ fp, b < s.heap.objs.size) (N : List Str) :
    (cxComp X scope cl N (s.heap.push ob).objs.size (s.heap.objs.size :: fp) { s with heap := s.heap.push ob } H).Ok := by
  have hC : (s.heap.push ob).objs.size = s.heap.objs.size + 1 := by rw [Heap.size_push]
  refine ⟨I.ok.mod, S.kind, I.ok.glob, I.ok.blt, Nat.le_refl _, fun x y c h1 h2 => I.ok.inj x y c (hcl x c h1) (hcl y c h2), fun x hx => ?_, fun x c h => absurd h (by simp [cxComp]), I.ok.hd, I.ok.frames, .inl rfl, fun b hb => ?_,
    fun b o e => ⟨Heap.get?_push_of_some _ (I.bs b o e).1, (I.bs b o e).2⟩, ?_, fun b o e hb => ?_, fun b hb z => ?_, ?_, I.stkFree⟩
  · exact hcl2 (x, .free) (PySem.mem_of_lookup (relabel_inv S.nocell hx)) rfl
  · rcases List.mem_cons.mp (show b ∈ s.heap.objs.size :: fp from hb) with e | hb
    · subst e
      refine ⟨fun z => ?_, fun x c e z => ?_⟩
      · have z' : s.heap.objs.size = (s.heap.push ob).objs.size := z
        omega
      · obtain ⟨v, q⟩ := I.cell x c (hcl x c e)
        exact absurd q.lt (by rw [z]; exact Nat.lt_irrefl _)
    · refine ⟨fun z => ?_, fun x c e => (hf b hb).2.2.2.2.1 x c (hcl x c e)⟩
      have z' : b = (s.heap.push ob).objs.size := z
      have h1 := hfp b hb
      rw [z', hC] at h1
      exact Nat.lt_irrefl _ (Nat.lt_of_succ_lt h1)
  · show X.base.objs.size ≤ (s.heap.push ob).objs.size
    have h1 := I.ok.bsz
    have h2 := I.sz
    omega
  · rcases List.mem_cons.mp (show b ∈ s.heap.objs.size :: fp from hb) with e1 | hb
    · subst e1
      exact absurd (Heap.lt_size (I.bk _ o e)) (Nat.lt_irrefl _)
    · rcases (hf b hb).2.2.2.1 with z | z
      · exact I.ok.noex b o e z
      · have h1 := I.ok.bsz
        have h2 := Heap.lt_size e
        exact Nat.lt_irrefl _ (Nat.lt_of_lt_of_le h2 (Nat.le_trans h1 z))
  · have z' := I.stkSub b z
    rcases List.mem_cons.mp (show b ∈ s.heap.objs.size :: fp from hb) with e1 | hb
    · subst e1
      rcases List.mem_cons.mp z' with z1 | z1
      · exact absurd I.lt (by rw [← z1]; exact Nat.lt_irrefl _)
      · exact I.nofs (Nat.le_refl _) z1
    · rcases List.mem_cons.mp z' with z1 | z1
      · exact (hf b hb).2.1 z1
      · exact (hf b hb).2.2.1 z1
  · exact I.stack.of_keeps fun b o e _ => ⟨o, Heap.get?_push_of_some _ e, rfl⟩
theorem comp_inv (S : CompScope X scope tn cn caps) (I : Inv X pins σ H s) (hcl : ∀ y c, cl.lookup y = some c → X.env.cells.lookup y = some c) (hcl2 : ∀ x ∈ scope.names, x.2 = .free → ∃ c, cl.lookup x.1 = some c)
    (hf : ∀ b ∈ fp, FpOk X pins H b) (hfp : ∀ b ∈ fp, b < s.heap.objs.size) (hob : ∀ v, ob.data ≠ .cell v) (hfr : ob.isFreed = false) {h1 : Heap} {m0 : Str → Option Value} {tk : Nat} (hn : h1.Ns (s.heap.push ob).objs.size m0)
    (hk : ∀ b o, (s.heap.push ob).get? b = some o → h1.get? b = some o) :
    Inv (cxComp X scope cl (tn ++ cn) (s.heap.push ob).objs.size (s.heap.objs.size :: fp) { s with heap := s.heap.push ob } H) (X.pn ++ pins ++ [(s.heap.objs.size, ob)]) (List.replicate tn.length none ++ capσ σ caps) H { s with heap := h1, toks := tk } := by
  have hC : (s.heap.push ob).objs.size = s.heap.objs.size + 1 := by rw [Heap.size_push]
  have hk' : ∀ b o, s.heap.get? b = some o → h1.get? b = some o := fun b o e => hk b o (Heap.get?_push_of_some _ e)
  have hlen : caps.length = cn.length := by have := congrArg List.length S.slots; simpa using this
  refine ⟨comp_ok S I hcl hcl2 hf hfp _, rfl, I.bare, Un.kept hk, ⟨m0, hn, fun i x v e1 e2 e3 => ?_⟩, fun x c e => ?_, I.hok.fresh (by rw [hC]; exact Nat.le_succ _), fun x c e => I.freeC x c (hcl x c e), fun p hp => ?_, I.hok.kept hk', ?_⟩
  · have e1 : (tn ++ cn)[i]? = some x := e1
    by_cases hi : i < tn.length
    · rw [List.getElem?_append_left (by simpa using hi), List.getElem?_replicate, if_pos hi] at e2
      cases e2
    · have hi' : tn.length ≤ i := Nat.le_of_not_lt hi
      rw [List.getElem?_append_right (by simpa using hi'), List.length_replicate] at e2
      rw [List.getElem?_append_right hi'] at e1
      have hx : x ∈ cn := List.mem_of_getElem? e1
      have hsl : (caps.map fun j => X.N[j]?)[i - tn.length]? = (cn.map some)[i - tn.length]? := by rw [S.slots]
      rw [List.getElem?_map, List.getElem?_map, e1] at hsl
      unfold capσ at e2
      rw [List.getElem?_map] at e2
      cases hj : caps[i - tn.length]? with
      | none => rw [hj] at e2; cases e2
      | some j =>
        rw [hj] at hsl e2
        have hN : X.N[j]? = some x := Option.some.inj hsl
        have e2 : (σ[j]?).getD none = some v := Option.some.inj e2
        have hσ : σ[j]? = some (some v) := by
          cases q : σ[j]? with
          | none => rw [q] at e2; cases e2
          | some y => rw [q] at e2; rw [← e2]; rfl
        have hkx := S.caught (x, .free) (PySem.mem_of_lookup (S.free x hx)) rfl
        obtain ⟨m, _, hl⟩ := I.loc
        obtain ⟨u, r, l⟩ := hl j x v hN hσ (by rcases hkx with z | z; exact .inr (.inl z); exact .inr (.inr z))
        refine ⟨u, r, ?_⟩
        rcases l with ⟨k, _⟩ | ⟨k, c, e, z⟩
        · rcases hkx with z | z
          · rw [show X.env.kindOf x = _ from k] at z; cases z
          · rw [show X.env.kindOf x = _ from k] at z; cases z
        · obtain ⟨c', ec⟩ := hcl2 (x, .free) (PySem.mem_of_lookup (S.free x hx)) rfl
          have e' := hcl x c' ec
          rw [e] at e'
          cases e'
          obtain ⟨oc, ho, hd⟩ := z
          exact .inr ⟨lookup_relabel_free (S.free x hx), c, ec, oc, hk' c oc ho, hd⟩
  · obtain ⟨v, oc, ho, hd⟩ := I.cell x c (hcl x c e)
    exact ⟨v, oc, hk' c oc ho, hd⟩
  · have hp : p ∈ X.pn ++ pins ++ [(s.heap.objs.size, ob)] := (List.mem_append.mp hp).elim (fun z => List.mem_append_left _ (List.mem_append_left _ z)) id
    rcases List.mem_append.mp hp with hp | hp
    · obtain ⟨e, n, ne, nf, d⟩ := I.pin p hp
      refine ⟨hk' _ _ e, n, fun z => ?_, fun z => ?_, d⟩
      · have z' : p.1 = (s.heap.push ob).objs.size := z
        have h1 := Heap.lt_size e
        rw [z', hC] at h1
        exact Nat.lt_irrefl _ (Nat.lt_of_succ_lt h1)
      · rcases List.mem_cons.mp (I.stkSub p.1 z) with z1 | z1
        · exact ne z1
        · exact nf z1
    · have e : p = (s.heap.objs.size, ob) := by simpa using hp
      subst e
      refine ⟨hk _ _ (Heap.get?_push_size _ hfr), I.hok.fresh (Nat.le_refl _), fun z => ?_, fun z => ?_, hob⟩
      · have z' : s.heap.objs.size = (s.heap.push ob).objs.size := z
        omega
      · rcases List.mem_cons.mp (I.stkSub s.heap.objs.size z) with z1 | z1
        · exact absurd I.lt (by rw [← z1]; exact Nat.lt_irrefl _)
        · exact I.nofs (Nat.le_refl _) z1
  · show (List.replicate tn.length none ++ capσ σ caps).length = (tn ++ cn).length
    unfold capσ
    simp [hlen]
theorem comp_fin {N : List Str} {σ0 : St} {H' : Hp} {s' : Shared} {C : Addr} {s3 : Shared} {its : List Value} {n : Nat} {ys : List V} (I : Inv X pins σ H s) (hf : ∀ b ∈ fp, FpOk X pins H b) (hfp : ∀ b ∈ fp, b < s.heap.objs.size) (hC : s.heap.objs.size < C)
    (hs3 : ∀ b o, s.heap.get? b = some o → s3.heap.get? b = some o) (hos : s3.os = s.os)
    (I' : Inv (cxComp X scope cl N C (s.heap.objs.size :: fp) s3 H) (X.pn ++ pins ++ [(s.heap.objs.size, { cls := .type "list", data := .seq its.toArray n })]) σ0 H' s') (rv : Vals ys its) (hz : ys.length ≤ sizeLine) :
    Inv X pins σ (upd H' s.heap.objs.size (.lst ys)) s' ∧ H' s.heap.objs.size = none ∧ FpOk X pins (upd H' s.heap.objs.size (.lst ys)) C ∧ ∃ m, s'.heap.Ns C m := by
  have pD := I'.pin (s.heap.objs.size, { cls := .type "list", data := .seq its.toArray n }) (by show _ ∈ X.pn ++ (X.pn ++ pins ++ [_]); simp)
  have hD : H' s.heap.objs.size = none := pD.2.1
  have base : Un (frs X.stack) (s.heap.objs.size :: fp) H H' s3.heap s'.heap := I'.base
  have old : ∀ b o, s.heap.get? b = some o → b ≠ s.heap.objs.size := fun b o e => Nat.ne_of_lt (Heap.lt_size e)
  have nex : ∀ b o, s.heap.get? b = some o → b ∉ fp → b ∉ s.heap.objs.size :: fp := fun b o e h z => by
    rcases List.mem_cons.mp z with z | z
    · exact old b o e z
    · exact h z
  have oldT : ∀ b u, H b = some u → b ≠ s.heap.objs.size := fun b u e => Nat.ne_of_lt (I.hok.lt e)
  refine ⟨I.call' (ch := fp) (I'.os.trans hos) ⟨fun b o e n hb hx => base.keep b o (hs3 b o e) n hb (nex b o e hx), fun b o e n hb hx => base.slot b o (hs3 b o e) n hb (nex b o e hx), fun b o e n hx => ?_, fun b o e hx => base.there b o (hs3 b o e) (nex b o e hx),
    fun b xs e => ?_, fun b o u e => ?_, fun b ps e => ?_⟩ (fun a o e => ?_) I'.bare fun b hb => ?_, hD, I.fpOk (Nat.le_of_lt hC) ?_, ?_⟩
  · rw [upd_ne (old b o e)]; exact base.free b o (hs3 b o e) n (nex b o e hx)
  · rw [upd_ne (oldT b _ e)]; exact base.tups b xs e
  · rw [upd_ne (oldT b _ e)]; exact base.frzs b o u e
  · rw [upd_ne (oldT b _ e)]; exact base.tbls b ps e
  · by_cases ha : a = s.heap.objs.size
    · subst ha
      rw [upd_same] at e
      cases e
      exact ⟨hz, its, n, rv, pD.1⟩
    · rw [upd_ne ha] at e
      exact (I'.hok a o e).stay (fun _ _ _ q => q) (fun c q => by rw [upd_ne (ne_of_none q hD)]; exact q) fun c xs q => by rw [upd_ne (ne_of_none q hD)]; exact q
  · have q := hf b hb
    exact ⟨q.2.2.2.1, q.2.1, q.2.2.2.2.1, q.2.2.2.2.2⟩
  · rw [upd_ne (Nat.ne_of_gt hC)]; exact I'.free
  · obtain ⟨m, hn, _⟩ := I'.loc
    exact ⟨m, hn⟩
end
def PTs (X : Cx) (ifs : List Expr) (t : TT) : Prop :=
  ∀ (pins : List (Addr × Obj)) (s : Shared) (σ : St) (H : Hp) (Q : Bool → Hp → Prop), Inv X pins σ H s → t σ H Q →
    wpAny (model X.prog X.w) X.A (forIn ifs true fun c r => if r = true then do let ok ← isTrue c X.env (eval c X.env); pure (ForInStep.yield ok) else pure (ForInStep.yield r)) (TP X pins σ Q) X.xe s
def tYes : TT := fun _ H Q => Q true H
theorem pts_nil {X : Cx} : PTs X [] tYes := fun _ _ _ H _ I h => wpAny_tests_nil ⟨H, I, h⟩
theorem pts_one {X : Cx} {c : Expr} {t : TT} (h : PT X c t) : PTs X [c] t := fun pins s σ H Q I hw => wpAny_tests_one (h pins s σ H Q I hw)
theorem compLoop_own {prog : Program} {w : World} {A : Around} {R : Result → Shared → Prop} {s : Shared} {elt target iter : Expr} {ifs : List Expr} {scope : Scope} {pos : Pos} {it acc : Value} {env : Env} (I : Nat → Shared → Prop)
    (turn : ∀ n s, I n s → wpAny (model prog w) A (pyNext it) (fun r s₁ => match r with
      | none => R (.ok .next) s₁
      | some v => wpAny (model prog w) A (letOwnedTupleGo target it v) (fun _ s₁' => wpAny (model prog w) A (assign target env v) (fun _ s₂ =>
          wpAny (model prog w) A (forIn ifs true fun c r => if r = true then do let ok ← isTrue c env (eval c env); pure (ForInStep.yield ok) else pure (ForInStep.yield r)) (fun ok s₃ =>
            if ok = true then wpAny (model prog w) A (eval elt env) (fun x s₄ =>
              wpAny (model prog w) A (call (.builtin "list.append") [acc, x]) (fun _ s₅ => ∃ m, m < n ∧ I m s₅) (fun _ _ => False) s₄) (fun _ _ => False) s₃
            else ∃ m, m < n ∧ I m s₃) (fun _ _ => False) s₂) (fun _ _ => False) s₁') (fun _ _ => False) s₁) (fun _ _ => False) s)
    (n : Nat) (h : I n s) :
    codeAny (model prog w) A (.compLoop (.ListComp elt [⟨target, iter, ifs, 0⟩] scope pos) 0 it acc env) R s := by
  refine codeAny_loop rfl I (fun n s hI => ?_) n h
  show wpAny _ A ((compTurn (.ListComp elt [⟨target, iter, ifs, 0⟩] scope pos) 0 it acc env).onRaise (fun x => do noteFrame x env; theTreesLotGoes x)) _ _ s
  refine wpAny_noted ?_
  rw [compTurn_list]
  refine wpAny_bind (wpAny_standAt (wpAny_bind (wpAny_mono (turn n s hI) (fun r s₁ h₁ => ?_) fun _ _ h' => h'.elim)))
  cases r with
  | none => exact wpAny_pure h₁
  | some v =>
    refine wpAny_bind (wpAny_mono h₁ (fun _ s₁' h₁' => ?_) fun _ _ h' => h'.elim)
    refine wpAny_bind (wpAny_mono h₁' (fun _ s₂ h₂ => wpAny_bind (wpAny_mono h₂ (fun ok s₃ h₃ => ?_) fun _ _ h' => h'.elim)) fun _ _ h' => h'.elim)
    cases ok with
    | false => exact wpAny_pure ⟨rfl, h₃⟩
    | true =>
      exact wpAny_bind (wpAny_bind (wpAny_mono h₃ (fun x s₄ h₄ => wpAny_bind (wpAny_mono h₄ (fun _ s₅ h₅ => wpAny_pure (wpAny_pure ⟨rfl, h₅⟩)) fun _ _ h' => h'.elim)) fun _ _ h' => h'.elim))
def CompW (J : It) (g : TG) (tt : TT) (te : TE) (σ0 : St) (W : Nat → Nat → List V → Hp → Prop) (F : List V → Hp → Prop) : Prop :=
  ∀ i m ys H, W i m ys H → (J.stop i H ∧ ys.length ≤ sizeLine ∧ F ys H) ∨ (J.go i H ∧ ∃ N : List V → Hp → Prop, (∀ ys' H', N ys' H' → ∃ m', m' < m ∧ W (i + 1) m' ys' H') ∧
    ∀ x H', J.yld i H x H' → g x σ0 H' fun σ2 H2 => (σ2.length = σ0.length ∧ ∀ (j : Nat) (v : V), σ0[j]? = some (some v) → σ2[j]? = some (some v)) ∧
      tt σ2 H2 fun b H3 => if b = true then te σ2 H3 fun y H4 => ys.length ≤ sizeLine ∧ N (ys ++ [y]) H4 else N ys H3)
section
variable {X : Cx} {scope : Scope} {tn cn : List Str} {caps : List Nat}
theorem comp_block {tg iter elt : Expr} {ifs : List Expr} {pos : Pos} {g : TG} {tt : TT} {te : TE} {pins : List (Addr × Obj)} {σ : St} {H : Hp} {s : Shared} {it : Addr} {fp : List Addr} {tnn : Nat → Heap → Prop} {J : It} {cl : List (Str × Addr)}
    {W : Nat → Nat → List V → Hp → Prop} {F : List V → Hp → Prop} {m0 : Nat} {E : Value → Shared → Prop} {RR : Value → Addr → Result → Shared → Prop}
    (S : CompScope X scope tn cn caps) (hc : Calm X) (hcl : ∀ y c, cl.lookup y = some c → X.env.cells.lookup y = some c) (hcl2 : ∀ x ∈ scope.names, x.2 = .free → ∃ c, cl.lookup x.1 = some c)
    (hg : ∀ C ex s₀ H₀, PG (cxComp X scope cl (tn ++ cn) C ex s₀ H₀) tg g) (ht : ∀ C ex s₀ H₀, PTs (cxComp X scope cl (tn ++ cn) C ex s₀ H₀) ifs tt) (he : ∀ C ex s₀ H₀, PE (cxComp X scope cl (tn ++ cn) C ex s₀ H₀) elt te)
    (I : Inv X pins σ H s) (T : Turn X.prog X.w X.K tg J fp it tnn) (st : tnn 0 s.heap) (hf : ∀ b ∈ fp, FpOk X pins H b) (hW : CompW J g tt te (List.replicate tn.length none ++ capσ σ caps) W F) (w0 : W 0 m0 [] H)
    (hRR : ∀ D C s' H' ys m, H' D = none → F ys H' → Inv X pins σ (upd H' D (.lst ys)) s' → FpOk X pins (upd H' D (.lst ys)) C → s'.heap.Ns C m → RR (.ref D) C (.ok .next) s') :
    wpAny (model X.prog X.w) X.A (newList []) (fun acc s₃ => wpAny (model X.prog X.w) X.A (newFunctionEnv scope X.env.globals cl [] X.env.qual none .none (some X.env)) (fun cenv s₄ =>
      codeAny (model X.prog X.w) X.A (.compStart (.ListComp elt [⟨tg, iter, ifs, 0⟩] scope pos) 0 (.ref it) acc { cenv with scope := relabel scope X.env }) (RR acc cenv.locals) s₄) E s₃) E s := by
  have hfp : ∀ b ∈ fp, b < s.heap.objs.size := fun b hb => let ⟨o, e, _⟩ := T.obj 0 s.heap st b hb; Heap.lt_size e
  refine wpAny_newObj_type (wpAny_newFunctionEnv S.nocell (by intro y hy; simp at hy) (fun h₁ hns₁ hsb₁ => ?_) S.kind)
  dsimp only at hns₁ hsb₁ ⊢
  have hk : ∀ b o, (s.heap.push { cls := .type "list", dict := none, data := .seq ([] : List Value).toArray }).get? b = some o → h₁.get? b = some o := fun b o e =>
    hsb₁.extBut b o (Nat.ne_of_lt (Heap.lt_size e)) (Heap.get?_push_of_some _ e)
  have I1 := comp_inv (tk := s.toks + ([] : List (Str × Value)).length) S I hcl hcl2 hf hfp (ob := { cls := .type "list", dict := none, data := .seq ([] : List Value).toArray }) (fun v z => by cases z) rfl hns₁ hk
  have hC : (s.heap.push { cls := .type "list", dict := none, data := .seq ([] : List Value).toArray }).objs.size = s.heap.objs.size + 1 := by rw [Heap.size_push]
  generalize hCe : (s.heap.push { cls := .type "list", dict := none, data := .seq ([] : List Value).toArray }).objs.size = C at *
  have st1 : tnn 0 h₁ := T.keep 0 _ _ st fun b hb o e => hk b o (Heap.get?_push_of_some _ e)
  have hE : ∀ b o, s.heap.get? b = some o → ({ s with heap := s.heap.push { cls := .type "list", dict := none, data := .seq ([] : List Value).toArray } } : Shared).heap.get? b = some o := fun b o e => Heap.get?_push_of_some _ e
  generalize hs3 : ({ s with heap := s.heap.push { cls := .type "list", dict := none, data := .seq ([] : List Value).toArray } } : Shared) = s3 at *
  have hos : s3.os = s.os := by rw [← hs3]
  have hfp0 : ∀ b ∈ fp, H b = none := fun b hb => (hf b hb).1
  have stat : ∀ {its : List Value} {n : Nat} {H' : Hp}, (∀ b ∈ fp, H' b = none) → ∀ b ∈ fp, FpOk (cxComp X scope cl (tn ++ cn) C (s.heap.objs.size :: fp) s3 H) (X.pn ++ pins ++ [(s.heap.objs.size, { cls := .type "list", data := .seq its.toArray n })]) H' b := fun {its n H'} hn b hb => by
    have q := hf b hb
    have hlt := hfp b hb
    refine ⟨hn b hb, fun z => ?_, fun z => ?_, .inl (List.mem_cons_of_mem _ hb), fun x c e => q.2.2.2.2.1 x c (hcl x c e), fun p hp z => ?_⟩
    · have z' : b = C := z
      rw [z', hC] at hlt
      exact Nat.lt_irrefl _ (Nat.lt_of_succ_lt hlt)
    · rcases List.mem_cons.mp (I.stkSub b z) with z1 | z1
      · exact q.2.1 z1
      · exact q.2.2.1 z1
    · have hp : p ∈ X.pn ++ pins ++ [(s.heap.objs.size, _)] := (List.mem_append.mp hp).elim (fun z => List.mem_append_left _ (List.mem_append_left _ z)) id
      rcases List.mem_append.mp hp with hp | hp
      · exact q.2.2.2.2.2 p hp z
      · have e := List.mem_singleton.mp hp
        rw [e] at z
        have z' : s.heap.objs.size = b := z
        rw [← z'] at hlt
        exact Nat.lt_irrefl _ hlt
  have loop : ∀ s₄ : Shared, s₄ = { s with heap := h₁, toks := s.toks + ([] : List (Str × Value)).length } →
      codeAny (model X.prog X.w) X.A (.compLoop (.ListComp elt [⟨tg, iter, ifs, 0⟩] scope pos) 0 (.ref it) (.ref s.heap.objs.size) (compEnvC scope cl C X.env)) (RR (.ref s.heap.objs.size) C) s₄ := by
    rintro s₄ rfl
    refine compLoop_own (fun n s' => ∃ i ys its k H', Inv (cxComp X scope cl (tn ++ cn) C (s.heap.objs.size :: fp) s3 H) (X.pn ++ pins ++ [(s.heap.objs.size, { cls := .type "list", data := .seq (List.toArray its) k })]) (List.replicate tn.length none ++ capσ σ caps) H' s' ∧
      tnn i s'.heap ∧ (∀ b ∈ fp, H' b = none) ∧ Vals ys its ∧ W i n ys H') ?_ m0 ⟨0, [], [], 0, H, I1, st1, hfp0, .nil, w0⟩
    rintro n s5 ⟨i, ys, its, k, H5, I5, st5, fr5, rv5, w5⟩
    rcases hW i n ys H5 w5 with ⟨stop, hz, f5⟩ | ⟨go, Nw, hNw, step⟩
    · refine wpAny_mono (T.done (cxComp X scope cl (tn ++ cn) C (s.heap.objs.size :: fp) s3 H) rfl rfl rfl (calm_comp hc) i _ s5 _ H5 (fun _ _ => False) I5 (stat fr5) st5 stop) (fun r s6 h6 => ?_) fun _ _ z => z
      obtain ⟨hr, I6⟩ := h6
      subst hr
      obtain ⟨J1, J2, J3, m, J4⟩ := comp_fin I hf hfp (by omega) hE hos I6 rv5 hz
      exact hRR _ _ _ _ _ m J2 f5 J1 J3 J4
    · refine wpAny_mono (T.item (cxComp X scope cl (tn ++ cn) C (s.heap.objs.size :: fp) s3 H) rfl rfl rfl (calm_comp hc) i _ s5 _ H5 (fun _ _ => False) I5 (stat fr5) st5 go) (fun r s6 h6 => ?_) fun _ _ z => z
      obtain ⟨u, hr, h6⟩ := h6
      subst hr
      refine wpAny_mono h6 (fun _ s7 h7 => ?_) fun _ _ z => z
      obtain ⟨x, H7, I7, r7, y7, st7, fr7⟩ := h7
      have I7' := I7.pinned (stat fr7) (T.obj _ _ st7)
      refine wpAny_mono (hg C (s.heap.objs.size :: fp) s3 H _ s7 _ H7 x u _ I7' r7 (step x H7 y7)) (fun _ s8 h8 => ?_) fun _ _ z => z
      obtain ⟨σ8, H8, I8, ⟨hl8, hk8⟩, q8⟩ := h8
      have back : ∀ {H9 : Hp} {s9 : Shared}, Inv (cxComp X scope cl (tn ++ cn) C (s.heap.objs.size :: fp) s3 H) (X.pn ++ pins ++ [(s.heap.objs.size, { cls := .type "list", data := .seq (List.toArray its) k })] ++ pinsAt fp s7.heap) σ8 H9 s9 →
          tnn (i + 1) s9.heap ∧ (∀ b ∈ fp, H9 b = none) := fun {H9 s9} I9 => by
        refine ⟨T.keep _ _ _ st7 fun b hb o e => (I9.pin (b, o) (List.mem_append_right _ (List.mem_append_right _ (mem_pinsAt hb e)))).1, fun b hb => ?_⟩
        obtain ⟨o, e, d⟩ := T.obj _ _ st7 b hb
        exact (I9.pin (b, o) (List.mem_append_right _ (List.mem_append_right _ (mem_pinsAt hb e)))).2.1
      refine wpAny_mono (ht C (s.heap.objs.size :: fp) s3 H _ s8 σ8 H8 _ I8 q8) (fun ok s9 h9 => ?_) fun _ _ z => z
      obtain ⟨H9, I9, q9⟩ := h9
      cases ok with
      | false =>
        rw [if_neg (by decide)] at q9 ⊢
        obtain ⟨m', hm, w9⟩ := hNw _ _ q9
        obtain ⟨b1, b2⟩ := back I9
        exact ⟨m', hm, i + 1, ys, its, k, H9, I9.unpinned.weak hl8.symm hk8, b1, b2, rv5, w9⟩
      | true =>
        rw [if_pos rfl] at q9 ⊢
        refine wpAny_mono (he C (s.heap.objs.size :: fp) s3 H _ s9 σ8 H9 _ I9 q9) (fun yv s10 h10 => ?_) fun _ _ z => z
        obtain ⟨y, H10, I10, r10, hz10, n10⟩ := h10
        obtain ⟨m', hm, w10⟩ := hNw _ _ n10
        obtain ⟨b1, b2⟩ := back I10
        have pD := I10.pin (s.heap.objs.size, { cls := .type "list", data := .seq (List.toArray its) k }) (List.mem_append_right _ (List.mem_append_left _ (List.mem_append_right _ (List.mem_singleton.mpr rfl))))
        refine wpAny_list_append_plain (hsz := by rw [List.size_toArray, ← rv5.length]; exact hz10) ⟨k, pD.1⟩ fun h11 hl11 hs11 => ?_
        obtain ⟨k', e11⟩ := hl11
        have I10' : Inv (cxComp X scope cl (tn ++ cn) C (s.heap.objs.size :: fp) s3 H) (X.pn ++ pins) σ8 H10 s10 := I10.pins_of fun p hp => I10.pin p (List.mem_append_right _ (List.mem_append_left _ (List.mem_append_left _ hp)))
        have I11 := I10'.turned (t' := s10.toks) (h' := h11) (it := s.heap.objs.size) (fun b o hb e => hs11.extBut b o hb e) pD.2.1 pD.2.2.1 (.inl List.mem_cons_self) (fun x c e z => ?_) (fun p hp z => ?_)
        · refine ⟨m', hm, i + 1, ys ++ [y], its ++ [yv], k', H10, ?_, ?_, b2, rv5.append (.cons r10 .nil), w10⟩
          · refine (I11.pins_of fun p hp => ?_).weak hl8.symm hk8
            rcases List.mem_append.mp hp with hp | hp
            · exact I11.pin p (List.mem_append_right _ hp)
            · have e := List.mem_singleton.mp hp
              subst e
              refine ⟨?_, pD.2.1, pD.2.2.1, pD.2.2.2.1, fun v z => by cases z⟩
              show h11.get? s.heap.objs.size = _
              rw [e11]
              simp
          · refine T.keep _ _ _ b1 fun b hb o e => hs11.extBut b o (fun z => ?_) e
            have h1 := hfp b hb
            rw [z] at h1
            exact Nat.lt_irrefl _ h1
        · obtain ⟨v, q⟩ := I.cell x c (hcl x c e)
          exact absurd q.lt (by rw [z]; exact Nat.lt_irrefl _)
        · have hp : p ∈ X.pn ++ pins := (List.mem_append.mp hp).elim (fun z => List.mem_append_left _ z) id
          exact absurd (Heap.lt_size (I.pin p hp).1) (by rw [z]; exact Nat.lt_irrefl _)
  exact codeAny_compStart_list (loop _ rfl) (T.self X.A 0 _ _ _ st1 (loop _ rfl))
def tComp (wi : TI) (k : Nat) (caps : List Nat) (g : TG) (tt : TT) (te : TE) : TE := fun σ H Q => wi σ H fun J H1 => ∃ W : Nat → Nat → List V → Hp → Prop, (∃ m, W 0 m [] H1) ∧
  CompW J g tt te (List.replicate k none ++ capσ σ caps) W fun ys H' => ∀ D, H' D = none → Q (.ref D) (upd H' D (.lst ys))
theorem pe_comp {tg iter elt : Expr} {ifs : List Expr} {pos : Pos} {wi : TI} {g : TG} {tt : TT} {te : TE} (S : CompScope X scope tn cn caps) (hc : Calm X) (hi : PI X tg iter wi)
    (hg : ∀ cl C ex s₀ H₀, PG (cxComp X scope cl (tn ++ cn) C ex s₀ H₀) tg g) (ht : ∀ cl C ex s₀ H₀, PTs (cxComp X scope cl (tn ++ cn) C ex s₀ H₀) ifs tt) (he : ∀ cl C ex s₀ H₀, PE (cxComp X scope cl (tn ++ cn) C ex s₀ H₀) elt te)
    (hs : ∀ x, foldedSetIterable iter X.env x = pure x := by intro _; rfl) : PE X (.ListComp elt [⟨tg, iter, ifs, 0⟩] scope pos) (tComp wi tn.length caps g tt te) := by
  intro pins s σ H Q I h
  obtain ⟨cl, hcl0, hcl, hcl2⟩ := closureFor_some (scope := scope) (env := X.env) fun x hx hf => I.ok.has x.1 (S.caught x hx hf)
  rw [eval_ListComp]
  refine wpAny_comprehension_free (use := none) rfl hs hcl0 S.kind S.names (thn (hi pins s σ H _ I h) fun v s1 h1 => thn h1 fun itv s2 h2 => ?_)
  obtain ⟨it, fp, tnn, J, H2, e, I2, T, st2, f2, W, ⟨m0, w0⟩, turn⟩ := h2
  subst e
  refine comp_block (RR := fun acc C => compPost (model X.prog X.w) X.A X.xe none (EP X pins σ Q) acc C) S hc hcl hcl2 (hg cl) (ht cl) (he cl) I2 T st2 f2 turn w0 ?_
  intro D C s' H' ys m hD f I' fC hn
  refine ⟨m, hn, fun h' hs' => ?_⟩
  have I'' := I'.turned (t' := s'.toks) (h' := h') (it := C) (fun b o hb e => hs'.extBut b o hb e) fC.1 fC.2.1 fC.2.2.2.1 fC.2.2.2.2.1 fC.2.2.2.2.2
  exact ⟨.ref D, _, I'', rfl, f D hD⟩
def sComp (i : Nat) (wi : TI) (k : Nat) (caps : List Nat) (g : TG) (tt : TT) (te : TE) : TS := fun D σ H => wi σ H fun J H1 => ∃ W : Nat → Nat → List V → Hp → Prop, (∃ m, W 0 m [] H1) ∧
  CompW J g tt te (List.replicate k none ++ capσ σ caps) W fun ys H' => ∀ p, H' p = none → D.nx (σ.set i (some (.ref p))) (upd H' p (.lst ys))
theorem ps_comp {tg iter elt : Expr} {ifs : List Expr} {pos spos py : Pos} {y : Str} {i : Nat} {wi : TI} {g : TG} {tt : TT} {te : TE} (S : CompScope X scope tn cn caps) (hc : Calm X) (hN : X.N.Nodup) (hy : X.N[i]? = some y) (hl : X.env.scope.names.lookup y = some .local)
    (hi : PI X tg iter wi)
    (hg : ∀ cl C ex s₀ H₀, PG (cxComp X scope cl (tn ++ cn) C ex s₀ H₀) tg g) (ht : ∀ cl C ex s₀ H₀, PTs (cxComp X scope cl (tn ++ cn) C ex s₀ H₀) ifs tt) (he : ∀ cl C ex s₀ H₀, PE (cxComp X scope cl (tn ++ cn) C ex s₀ H₀) elt te)
    (hsw : swapsWith (.ListComp elt [⟨tg, iter, ifs, 0⟩] scope pos) (some (.Name y py)) spos.line X.env = pure true)
    (hs : ∀ x, foldedSetIterable iter X.env x = pure x := by intro _; rfl) : PS X (.Assign [.Name y py] (.ListComp elt [⟨tg, iter, ifs, 0⟩] scope pos) spos) (sComp i wi tn.length caps g tt te) := by
  intro pins s σ H D I h
  obtain ⟨cl, hcl0, hcl, hcl2⟩ := closureFor_some (scope := scope) (env := X.env) fun x hx hf => I.ok.has x.1 (S.caught x hx hf)
  rw [exec_Assign_Name_used _ _ _ _ hsw]
  refine wpAny_bind (wpAny_standAt (wpAny_bind ?_))
  show wpAny _ X.A (do let _ ← comprehension (.ListComp elt [⟨tg, iter, ifs, 0⟩] scope pos) scope X.env _ (newList []) false (eval iter X.env) (some (assign (.Name y py) X.env))) _ _ s
  refine wpAny_bind (wpAny_mono (wpAny_comprehension_free (use := some (assign (.Name y py) X.env)) (Q := fun _ s' => SP X pins D .next s') rfl hs hcl0 S.kind S.names
    (thn (hi pins s σ H _ I h) fun v s1 h1 => thn h1 fun itv s2 h2 => ?_)) (fun _ s' hq => wpAny_pure (wpAny_pure hq)) fun _ _ e => e)
  obtain ⟨it, fp, tnn, J, H2, e, I2, T, st2, f2, W, ⟨m0, w0⟩, turn⟩ := h2
  subst e
  refine comp_block (RR := fun acc C => compPost (model X.prog X.w) X.A X.xe (some (assign (.Name y py) X.env)) (fun _ s' => SP X pins D .next s') acc C) S hc hcl hcl2 (hg cl) (ht cl) (he cl) I2 T st2 f2 turn w0 ?_
  intro p C s' H' ys m hD f I' fC hn
  show wpAny _ X.A (assign (.Name y py) X.env (.ref p)) _ _ _
  refine wpAny_assign_Name (store_ok2 (v := .ref p) I' hN hy (.inl hl) rfl (fun s4 I4 ⟨a, hs4, ha⟩ => ?_) (.inr hl))
  have hCa : C ≠ a := by
    rcases ha with ha | ha
    · rw [ha]; exact fC.2.1
    · exact fun z => fC.2.2.2.2.1 y a ha z.symm
  refine ⟨m, hn.sameBut hs4 hCa, fun h' hs' => ?_⟩
  have I'' := I4.turned (t' := s4.toks) (h' := h') (it := C) (fun b o hb e => hs'.extBut b o hb e) fC.1 fC.2.1 fC.2.2.2.1 fC.2.2.2.2.1 fC.2.2.2.2.2
  exact ⟨_, _, I'', f p hD⟩
end
structure SrcIs (J : It) (H : Hp) (xs : List V) : Prop where
  go : ∀ i, i < xs.length → J.go i H
  yld : ∀ i x H', i < xs.length → J.yld i H x H' → H' = H ∧ xs[i]? = some x
  stop : J.stop xs.length H
theorem src_list {K : PySem.W.Frag} {H : Hp} {a : Addr} {xs : List V} (h : SqL K H a xs) : SrcIs (Itl K a) H xs :=
  ⟨fun i hi => ⟨xs, xs[i], h, by simp [hi]⟩, fun i x H' _ y => ⟨y.1, y.2 xs h⟩, ⟨xs, h, Nat.le_refl _⟩⟩
theorem src_tup {K : PySem.W.Frag} {H : Hp} {a : Addr} {xs : List V} (h : SqT K H a xs) : SrcIs (Itt K a) H xs :=
  ⟨fun i hi => ⟨xs, xs[i], h, by simp [hi]⟩, fun i x H' _ y => ⟨y.1, y.2 xs h⟩, ⟨xs, h, Nat.le_refl _⟩⟩
theorem keeps_name {x : V} {cs : St} : ((some x :: cs : St).length = (none :: cs : St).length) ∧ ∀ (j : Nat) (v : V), (none :: cs : St)[j]? = some (some v) → (some x :: cs : St)[j]? = some (some v) := by
  refine ⟨by simp, fun j v h => ?_⟩
  cases j with
  | zero => simp at h
  | succ j => simpa using h
theorem comp_pure {J : It} {H : Hp} {xs : List V} {tt : TT} {te : TE} {cs : St} {F : List V → Hp → Prop} (S : SrcIs J H xs) (p : V → Bool) (f : V → V) (htt : ∀ x ∈ xs, ∀ Q : Bool → Hp → Prop, Q (p x) H → tt (some x :: cs) H Q)
    (hte : ∀ x ∈ xs, p x = true → ∀ Q : VK, Q (f x) H → te (some x :: cs) H Q) (hn : xs.length ≤ sizeLine) (hF : F ((xs.filter p).map f) H) :
    ∃ W : Nat → Nat → List V → Hp → Prop, (∃ m, W 0 m [] H) ∧ CompW J (gName 0) tt te (none :: cs) W F := by
  refine ⟨fun i m ys H' => m = xs.length - i ∧ i ≤ xs.length ∧ H' = H ∧ ys = ((xs.take i).filter p).map f, ⟨xs.length, by simp, Nat.zero_le _, rfl, by simp⟩, ?_⟩
  rintro i m ys H' ⟨rfl, hi, rfl, rfl⟩
  have hlen : (((xs.take i).filter p).map f).length ≤ sizeLine := by
    rw [List.length_map]
    refine Nat.le_trans (List.length_filter_le _ _) ?_
    rw [List.length_take]
    omega
  by_cases hlt : i < xs.length
  · refine .inr ⟨S.go i hlt, fun ys' H'' => H'' = H' ∧ ys' = ((xs.take (i + 1)).filter p).map f, fun ys' H'' h => ⟨xs.length - (i + 1), by omega, rfl, hlt, h.1, h.2⟩, fun x H'' y => ?_⟩
    obtain ⟨rfl, hx⟩ := S.yld i x H'' hlt y
    have hm : x ∈ xs := List.mem_of_getElem? hx
    have htk : xs.take (i + 1) = xs.take i ++ [x] := by
      rw [List.take_add_one, hx]; rfl
    show _ ∧ _
    refine ⟨keeps_name, ?_⟩
    refine htt x hm _ ?_
    cases hp : p x with
    | true =>
      rw [if_pos rfl]
      refine hte x hm hp _ ⟨hlen, rfl, ?_⟩
      rw [htk, List.filter_append, List.map_append]
      simp [hp]
    | false =>
      rw [if_neg (by decide)]
      refine ⟨rfl, ?_⟩
      rw [htk, List.filter_append, List.map_append]
      simp [hp]
  · have e : i = xs.length := by omega
    subst e
    refine .inl ⟨S.stop, hlen, ?_⟩
    rw [List.take_length]
    exact hF
theorem comp_by {J : It} {H : Hp} {n : Nat} {x : Nat → V} {tt : TT} {te : TE} {cs : St} {F : List V → Hp → Prop} (Pv : Nat → List V → Hp → Prop) (h0 : Pv 0 [] H)
    (hgo : ∀ i ys H, i < n → Pv i ys H → J.go i H ∧ ∀ y H', J.yld i H y H' → H' = H ∧ y = x i) (hstop : ∀ ys H, Pv n ys H → J.stop n H)
    (hs : ∀ i ys H, i < n → Pv i ys H → tt (some (x i) :: cs) H fun b H3 => if b = true then te (some (x i) :: cs) H3 fun y H4 => ys.length ≤ sizeLine ∧ Pv (i + 1) (ys ++ [y]) H4 else Pv (i + 1) ys H3)
    (hd : ∀ ys H, Pv n ys H → ys.length ≤ sizeLine ∧ F ys H) :
    ∃ W : Nat → Nat → List V → Hp → Prop, (∃ m, W 0 m [] H) ∧ CompW J (gName 0) tt te (none :: cs) W F := by
  refine ⟨fun i m ys H => m = n - i ∧ i ≤ n ∧ Pv i ys H, ⟨n, by simp, Nat.zero_le _, h0⟩, ?_⟩
  rintro i m ys H ⟨rfl, hi, p⟩
  by_cases hlt : i < n
  · obtain ⟨g1, g2⟩ := hgo i ys H hlt p
    refine .inr ⟨g1, Pv (i + 1), fun ys' H' h => ⟨n - (i + 1), by omega, rfl, hlt, h⟩, fun y H' yl => ?_⟩
    obtain ⟨rfl, rfl⟩ := g2 y H' yl
    exact ⟨keeps_name, hs i ys _ hlt p⟩
  · have e : i = n := by omega
    subst e
    obtain ⟨h1, h2⟩ := hd ys H p
    exact .inl ⟨hstop ys H p, h1, h2⟩
theorem cxK {CX : CXT} {P : Program} {w : World} {K : PySem.W.Frag} {mg : Str → Option Value} {base : Heap} {N : List Str} {qual : Str} {scope : Scope} {f : Addr} {cd : Value} {A : Around} {outer : List Env} {s : Shared} {H : Hp} {E : XK} : (cxOf CX P w K mg base N qual scope f cd A outer s H E).K = K := rfl
theorem cxA {CX : CXT} {P : Program} {w : World} {K : PySem.W.Frag} {mg : Str → Option Value} {base : Heap} {N : List Str} {qual : Str} {scope : Scope} {f : Addr} {cd : Value} {A : Around} {outer : List Env} {s : Shared} {H : Hp} {E : XK} : (cxOf CX P w K mg base N qual scope f cd A outer s H E).A = A.deeper (envOfC qual scope s.heap.objs.size f cd) := rfl
theorem cxKc {X : Cx} {scope : Scope} {cl : List (Str × Addr)} {N : List Str} {C : Addr} {ex : List Addr} {s₀ : Shared} {H₀ : Hp} : (cxComp X scope cl N C ex s₀ H₀).K = X.K := rfl
theorem cxAc {X : Cx} {scope : Scope} {cl : List (Str × Addr)} {N : List Str} {C : Addr} {ex : List Addr} {s₀ : Shared} {H₀ : Hp} : (cxComp X scope cl N C ex s₀ H₀).A = X.A := rfl
end L2
set_option Elab.async false
set_option linter.all false
set_option maxRecDepth 100000
namespace L2
open PySem PySem.Spec PyProof.Rows
def chr1 (c : Nat) : V := .str ⟨#[c]⟩
def Its (x : Str) : It := ⟨fun i _ => i < x.cps.size, fun i H v H' => H' = H ∧ ∃ c, x.cps[i]? = some c ∧ v = chr1 c, fun i _ => x.cps.size ≤ i⟩
def iStr (tl : TE) : TI := fun σ H R => tl σ H fun v H1 => ∃ x, v = .str x ∧ R (Its x) H1
section
variable {X : Cx}
def tSlS (te : TE) (tl th : TO) : TE := fun σ H Q => te σ H fun x H1 => tl σ H1 fun l H2 => th σ H2 fun u H3 => ∃ z, x = .str z ∧ z.length ≤ sizeLine ∧ Q (.str (Txt.slice z l u)) H3
def figs : Str := "0123456789"
def rIndex : V → List V → Hp → VK → Prop := fun x vs H Q => ∃ c, x = .str figs ∧ vs = [chr1 c] ∧ 48 ≤ c ∧ c ≤ 57 ∧ Q (.int ((c - 48 : Nat) : Int)) H
end
end L2
set_option Elab.async false
set_option linter.all false
set_option maxRecDepth 100000
namespace L2
open PySem PySem.Spec PyProof.Rows
mutual
inductive Den (K : PySem.W.Frag) (H : Hp) : V → PyData → Prop
  | non : Den K H .non .none
  | bl (b : Bool) : Den K H (.bl b) (.bool b)
  | int (i : Int) : Den K H (.int i) (.int i)
  | str (x : Str) : Den K H (.str x) (.str x)
  | lst {a : Addr} {xs : List V} {ds : List PyData} : SqL K H a xs → DenAll K H xs ds → Den K H (.ref a) (.list ds)
  | tup {a : Addr} {xs : List V} {ds : List PyData} : SqT K H a xs → DenAll K H xs ds → Den K H (.ref a) (.tuple ds)
inductive DenAll (K : PySem.W.Frag) (H : Hp) : List V → List PyData → Prop
  | nil : DenAll K H [] []
  | cons {x : V} {xs : List V} {d : PyData} {ds : List PyData} : Den K H x d → DenAll K H xs ds → DenAll K H (x :: xs) (d :: ds)
end
section
variable {X : Cx} {pins : List (Addr × Obj)} {σ : St} {H : Hp} {s : Shared}
mutual
theorem Den.reads (I : Inv X pins σ H s) : ∀ {x : V} {d : PyData} {u : Value}, Den X.K H x d → RelV x u → ∃ as, Reads s.heap u d as
  | _, _, _, .non, r => by cases r; exact ⟨_, Reads.none⟩
  | _, _, _, .bl b, r => by cases r; exact ⟨_, Reads.bool b⟩
  | _, _, _, .int i, r => by obtain ⟨t, rfl⟩ := r; exact ⟨_, Reads.int i t⟩
  | _, _, _, .str x, r => by obtain ⟨t, rfl⟩ := r; exact ⟨_, Reads.str x t⟩
  | _, _, _, .lst h hs, r => by
    cases r
    obtain ⟨its, rv, p, hz⟩ := I.list h
    obtain ⟨as, q⟩ := DenAll.reads I hs rv
    obtain ⟨o, ho, hc, n, hd⟩ := p.isList
    exact ⟨_, reads_list_at ho hc hd (by simpa using q)⟩
  | _, _, _, .tup h hs, r => by
    cases r
    obtain ⟨its, rv, p, hz⟩ := I.tuple h
    obtain ⟨as, q⟩ := DenAll.reads I hs rv
    obtain ⟨o, ho, hc, n, hd⟩ := (show s.heap.IsTuple _ _ from p)
    exact ⟨_, reads_tuple_at ho hc hd (by simpa using q)⟩
theorem DenAll.reads (I : Inv X pins σ H s) : ∀ {xs : List V} {ds : List PyData} {us : List Value}, DenAll X.K H xs ds → Vals xs us → ∃ as, ReadsAll s.heap us ds as
  | _, _, _, .nil, r => by cases r; exact ⟨_, ReadsAll.nil⟩
  | _, _, _, .cons h hs, r => by
    cases r with
    | cons r rr =>
      obtain ⟨as, q⟩ := Den.reads I h r
      obtain ⟨bs, p⟩ := DenAll.reads I hs rr
      exact ⟨_, ReadsAll.cons q p⟩
end
def rEqD (K : PySem.W.Frag) (neg : Bool) : R2 := fun x y H Q => ∃ d e, Den K H x d ∧ Den K H y e ∧ SeqAt.shaped d = true ∧ SeqAt.shaped e = true ∧ Q (.bl (if neg then !PyData.eqv d e else PyData.eqv d e)) H
theorem op_eqD (hu : X.A.units + 64 < cLine) : OpR X (compareOp .Eq) (rEqD X.K false) := by
  intro pins s σ H x y v u Q I rx ry h
  obtain ⟨d, e, hd, he, sd, se, q⟩ := h
  obtain ⟨as, ra⟩ := hd.reads I rx
  obtain ⟨bs, rb⟩ := he.reads I ry
  exact eq_dataH ra rb sd se hu (fin_bl I q rfl)
theorem op_neD (hu : X.A.units + 64 < cLine) : OpR X (compareOp .NotEq) (rEqD X.K true) := by
  intro pins s σ H x y v u Q I rx ry h
  obtain ⟨d, e, hd, he, sd, se, q⟩ := h
  obtain ⟨as, ra⟩ := hd.reads I rx
  obtain ⟨bs, rb⟩ := he.reads I ry
  exact ne_dataH ra rb sd se hu (fin_bl I q rfl)
end
theorem denAll_ints {K : PySem.W.Frag} {H : Hp} : ∀ ns : List Int, DenAll K H (ns.map V.int) (ns.map PyData.int)
  | [] => .nil
  | n :: r => .cons (.int n) (denAll_ints r)
section
variable {X : Cx}
theorem call_isinst : CallR X (.builtin "isinstance") (fun xs H Q => ∃ x n t b, xs = [x, .ty n] ∧ TyOf X.K H x t ∧ PySem.W.kitOne X.K t (.type n) = some b ∧ Q (.bl b) H) := by
  intro pins s σ H xs us Q I r h
  obtain ⟨x, n, t, b, rfl, ty, e, q⟩ := h
  obtain ⟨u, v, rfl, ru, rv⟩ := vals2 r
  cases rv
  exact isinst_ok I ru ty e fun tk => ⟨.bl b, H, I.tok _, rfl, q⟩
end
end L2
set_option Elab.async false
set_option linter.all false
set_option maxRecDepth 100000
namespace L2
open PySem PySem.Spec PyProof.Rows
namespace RevF
end RevF
section
variable {X : Cx}
def tJoinRev (K : PySem.W.Frag) (ts te : TE) : TE := fun σ H Q => ts σ H fun x H1 => ∃ sep : Str, x = .str sep ∧ te σ H1 fun y H2 => ∃ (l : Addr) (ys : List Str), y = .ref l ∧ SqL K H2 l (ys.map V.str) ∧ JoinOk sep ys.reverse = true ∧ Q (.str (Txt.join sep ys.reverse)) H2
end
end L2
set_option Elab.async false
set_option linter.all false
set_option maxRecDepth 100000
namespace L2
open PySem PySem.Spec PyProof.Rows
section
variable {X : Cx}
end
end L2
set_option Elab.async false
set_option linter.all false
set_option maxRecDepth 100000
namespace L2
open PySem PySem.Spec PyProof.Rows
theorem vis_of {X : Cx} {sc : Scope} {x : Str} (h : Vis sc x) (e : X.env.scope = sc := by rfl) : Vis X.env.scope x := e ▸ h
theorem gl_of {X : Cx} {sc : Scope} {x : Str} (h : sc.names.lookup x = some .globalImplicit) (e : X.env.scope = sc := by rfl) : Gl X x := by
  show X.env.scope.names.lookup x = _
  rw [e]
  exact h
theorem loc_of {X : Cx} {sc : Scope} {x : Str} (h : sc.names.lookup x = some .local ∨ sc.names.lookup x = some .cell) (e : X.env.scope = sc := by rfl) : Loc X.env.scope x := e ▸ h
def plainE : Expr → Bool
  | .Starred _ _ => false
  | _ => true
def plainAll : List Expr → Bool
  | [] => true
  | e :: r => plainE e && plainAll r
theorem stp {e : Expr} {es : List Expr} {env : Env} (h : plainE e = true) : starEach (e :: es) env = (false, eval e env) :: starEach es env := by
  cases e <;> first | rfl | cases h
theorem st1 {e : Expr} {env : Env} (h : plainE e = true) : starEach [e] env = [(false, eval e env)] := by
  rw [stp h]; rfl
theorem st2 {e d : Expr} {env : Env} (h : plainE e = true) (h2 : plainE d = true) : starEach [e, d] env = [(false, eval e env), (false, eval d env)] := by
  rw [stp h, st1 h2]
theorem anp {env : Env} {pos : Pos} : ∀ {es : List Expr}, plainAll es = true → (backTo pos (starEach es env)).any (·.1) = false
  | [], _ => rfl
  | e :: r, h => by
    have h' : (plainE e && plainAll r) = true := h
    rw [Bool.and_eq_true] at h'
    rw [stp h'.1]
    show (false || (backTo pos (starEach r env)).any (·.1)) = false
    rw [anp h'.2]
    rfl
end L2
set_option Elab.async false
set_option linter.all false
set_option maxRecDepth 100000
namespace HT
open PySem PyProof.Rows
section
variable {prog : Program} {w : World} {A : Around} {E : Value → Shared → Prop} {s : Shared}
end
end HT
namespace L2
open PySem PySem.Spec PyProof.Rows
section
variable {X : Cx}
def rSlA (K : PySem.W.Frag) : V → Option Int → Option Int → Hp → VK → Prop := fun x lo hi H Q => ∃ a xs, x = .ref a ∧ SqT K H a xs ∧
  ((HT.sIx xs.length 0 lo = 0 ∧ HT.sIx xs.length xs.length hi = xs.length) → Q (.ref a) H) ∧
  (¬ (HT.sIx xs.length 0 lo = 0 ∧ HT.sIx xs.length xs.length hi = xs.length) → ∀ p, H p = none → Q (.ref p) (upd H p (.tup (cutV xs lo hi))))
end
end L2
set_option Elab.async false
set_option linter.all false
set_option maxRecDepth 100000
namespace L2
open PySem PySem.Spec PyProof.Rows
def ForJ (J : It) (g : TG) (tb : TS) (D : Ends) (σ : St) (H1 : Hp) : Prop := ∃ W : Nat → Nat → St → Hp → Prop, (∃ m, W 0 m σ H1) ∧ ∀ i m σ H, W i m σ H →
  (J.stop i H ∧ D.nx σ H) ∨ (J.go i H ∧ ∃ N : St → Hp → Prop, (∀ σ' H', N σ' H' → ∃ m', m' < m ∧ W (i + 1) m' σ' H') ∧ ∀ x H', J.yld i H x H' → g x σ H' fun σ2 H2 => tb { D with nx := N, ct := N, bk := D.nx } σ2 H2)
theorem tFor_eq {wi : TI} {g : TG} {tb : TS} {D : Ends} {σ : St} {H : Hp} : tFor wi g tb D σ H = wi σ H fun J H1 => ForJ J g tb D σ H1 := rfl
theorem same_new {H : Hp} {p : Addr} {o : HO} (h : H p = none) : Same H (upd H p o) := fun b u e => by rw [upd_ne (ne_of_none e h)]; exact e
theorem same_upd {H H1 : Hp} {p : Addr} {o : HO} (h : Same H H1) (hp : H p = none) : Same H (upd H1 p o) := fun b u e => by rw [upd_ne (ne_of_none e hp)]; exact h b u e
theorem den_intsT {K : PySem.W.Frag} {H : Hp} {a : Addr} {ns : List Int} (h : SqT K H a (ns.map V.int)) : Den K H (.ref a) (.tuple (ns.map PyData.int)) := .tup h (denAll_ints ns)
theorem canLay_ints : ∀ ns : List Int, PyData.canLayAll0 (ns.map PyData.int) = true
  | [] => rfl
  | n :: r => by simp [PyData.canLayAll0, PyData.canLay0, canLay_ints r]
theorem depth_ints : ∀ ns : List Int, PyData.depthAll (ns.map PyData.int) = 0
  | [] => rfl
  | n :: r => by simp [PyData.depthAll, PyData.depth, depth_ints r]
theorem shaped_intsT (ns : List Int) : SeqAt.shaped (.tuple (ns.map PyData.int)) = true := by
  simp [SeqAt.shaped, PyData.canLay0, PyData.depth, canLay_ints ns, depth_ints ns]
mutual
theorem eqv_self : ∀ d : PyData, d.canLay0 = true → PyData.eqv d d = true
  | .none, _ => rfl
  | .bool b, _ => by simp [PyData.eqv]
  | .int i, _ => by simp [PyData.eqv]
  | .str x, _ => by simp [PyData.eqv]
  | .list xs, h => by
    have h' : PyData.canLayAll0 xs = true := h
    show PyData.eqvAll xs xs = true
    exact eqvAll_self xs h'
  | .tuple xs, h => by
    have h' : PyData.canLayAll0 xs = true := h
    show PyData.eqvAll xs xs = true
    exact eqvAll_self xs h'
  | .dict _, h => by cases h
theorem eqvAll_self : ∀ ds : List PyData, PyData.canLayAll0 ds = true → PyData.eqvAll ds ds = true
  | [], _ => rfl
  | d :: r, h => by
    have h' : (PyData.canLay0 d && PyData.canLayAll0 r) = true := h
    rw [Bool.and_eq_true] at h'
    show (PyData.eqv d d && PyData.eqvAll r r) = true
    rw [eqv_self d h'.1, eqvAll_self r h'.2]
    rfl
end
end L2
set_option Elab.async false
set_option linter.all false
set_option maxRecDepth 100000
namespace HT
open PySem PyProof.Rows
section
variable {prog : Program} {w : World} {A : Around} {E : Value → Shared → Prop} {s : Shared}
end
end HT
namespace L2
open PySem PySem.Spec PyProof.Rows
section
variable {X : Cx} {pos : Pos}
def gTupL (K : PySem.W.Frag) (n : Nat) (t : TGs) : TG := fun v σ H Q => ∃ a xs, v = .ref a ∧ SqL K H a xs ∧ xs.length = n ∧ t xs σ H Q
def tRevT (K : PySem.W.Frag) (te : TE) : TE := fun σ H Q => te σ H fun x H1 => ∃ a xs, x = .ref a ∧ SqT K H1 a xs ∧ ∀ p, H1 p = none → Q (.ref p) (upd H1 p (.tup xs.reverse))
def rRep01 (K : PySem.W.Frag) : R2 := fun x y H Q => ∃ a xs k, x = .ref a ∧ y = .int k ∧ SqT K H a xs ∧ xs ≠ [] ∧ (k = 0 ∨ k = 1) ∧ (k = 1 → Q (.ref a) H) ∧ (k = 0 → ∀ p, H p = none → Q (.ref p) (upd H p (.tup [])))
end
end L2
set_option Elab.async false
set_option linter.all false
set_option maxRecDepth 100000
namespace L2
open PySem PySem.Spec PyProof.Rows
theorem strsAre_of : ∀ {ys : List Str} {us : List Value}, Vals (ys.map V.str) us → StrsAre us ys := by
  intro ys
  induction ys with
  | nil => intro us r; rw [List.map_nil] at r; cases r; exact .nil
  | cons n ns ih =>
    intro us r
    rw [List.map_cons] at r
    cases r with
    | cons r1 r2 =>
      obtain ⟨t, e⟩ := r1
      subst e
      exact .cons n t (ih r2)
section
variable {X : Cx}
def rJoin (K : PySem.W.Frag) : V → List V → Hp → VK → Prop := fun x vs H Q => ∃ (sep : Str) (a : Addr) (ys : List Str), x = .str sep ∧ vs = [.ref a] ∧ SqL K H a (ys.map V.str) ∧ (ys.map (·.length)).sum + ys.length * sep.length ≤ 16777216 ∧ Q (.str (Txt.join sep ys)) H
theorem mt_join : MtR X "str.join" (rJoin X.K) := by
  intro pins s σ H x vs v us Q I rx rv h
  obtain ⟨sep, a, ys, rfl, rfl, hq, hok, q⟩ := h
  obtain ⟨t, rfl⟩ := rx
  obtain ⟨u, rfl, ru⟩ := rv.one
  cases ru
  obtain ⟨its, r, pl, hz⟩ := I.list hq
  exact join_list pl.isList (strsAre_of (by simpa using r)) hok fun t' k => ⟨.str (Txt.join sep ys), H, I.tok _, ⟨t', rfl⟩, q⟩
def tLRng2 (ta : TA) : TE := fun σ H Q => ta σ H fun vs H1 => ∃ i j : Int, vs = [.int i, .int j] ∧ (-(2 ^ 62) ≤ i ∧ i < 2 ^ 62 ∧ -(2 ^ 62) ≤ j ∧ j < 2 ^ 62) ∧ (j - i).toNat ≤ 1000000 ∧ ∀ p, H1 p = none → Q (.ref p) (upd H1 p (.lst ((List.range (j - i).toNat).map fun k => V.int (i + (k : Nat)))))
end
end L2
set_option Elab.async false
set_option linter.all false
set_option maxRecDepth 100000
namespace L2
open PySem PySem.Spec PyProof.Rows
section
variable {X : Cx} {K : PySem.W.Frag}
theorem ix_tupK (hK : X.K = K) : IxR X (rIxT K) := by subst hK; exact ix_tup
theorem op_neDK (hK : X.K = K) (hu : X.A.units + 64 < cLine) : OpR X (compareOp .NotEq) (rEqD K true) := by subst hK; exact op_neD hu
end
end L2
set_option Elab.async false
set_option linter.all false
set_option maxRecDepth 100000
namespace L2
open PySem PyProof.Rows PySem.Calls
def XAt (B : Heap) (e : Addr) (cls : Value) (dx : Option Addr) (fl : Value) (h : Heap) : Prop :=
  ∃ (vs : Array Value) (sl : Array (Option Value)) (T : Addr) (oT : Obj) (ts : Array Value), h.get? e = some ⟨cls, dx, .fields vs, sl⟩ ∧ vs[2]? = some Value.none ∧ vs[1]? = some (.ref T) ∧ B.get? T = none ∧ T ≠ e ∧ h.get? T = some oT ∧ oT.data = .fields ts ∧ ts[3]? = some fl
structure Fly (B : Heap) (l : List Env) (e : Addr) (cls : Value) (dx : Option Addr) (fl : Value) (h : Heap) : Prop where
  st : B.StaysIn h
  new : B.get? e = none
  fr : h.FunFrames B l
  at_ : XAt B e cls dx fl h
section
variable {M : Model} {A : Around} {E : Value → Shared → Prop} {s : Shared} {B : Heap} {env : Env} {outer l : List Env} {L e : Addr} {cls : Value} {dx : Option Addr} {Q : Unit → Shared → Prop}
theorem place_laid {vs : Array Value} {sl : Array (Option Value)} {head : Value} {had : Bool} (hfr : A.frames = some (env :: outer)) (hf : env.frame = some L) (st : B.StaysIn s.heap) (hn : B.get? e = none) (fr : s.heap.FunFrames B (env :: outer))
    (he : s.heap.get? e = some ⟨cls, dx, .fields vs, sl⟩) (h2 : vs[2]? = some Value.none) (k : ∀ h', Fly B (env :: outer) e cls dx (rawInt L) h' → s.heap.UpToSlots h' → Q () { s with heap := h' }) :
    wpAny M A (frameOf env >>= fun a => entryPlaceOf L had >>= fun pl => EntryCells.newEntry head a .none (rawInt L) .none pl >>= fun b => setField (.ref e) 1 b) Q E s := by
  have sz2 : 2 < vs.size := (Array.getElem?_eq_some_iff.mp h2).1
  have nof : e ∉ (env :: outer).filterMap (·.frame) := fun hm => by
    obtain ⟨_, o, ho, hnf⟩ := fr.mem hm
    rw [he] at ho
    cases ho
    exact hnf vs rfl
  refine wpAny_bind (wpAny_frameOf_fun hfr fr hf fun h₁ hs => ?_)
  refine wpAny_bind (wpAny_entryPlaceOf fun pl hpl => ?_)
  unfold EntryCells.newEntry newFields
  refine wpAny_bind (wpAny_newObj_type ?_ (hpl.sizeOk5 _ _ _ _ _))
  have e1 : h₁.get? e = some ⟨cls, dx, .fields vs, sl⟩ := (hs.2.1 e nof).trans he
  have st1 : B.StaysIn h₁ := fun b o q => (hs.2.1 b fun hm => by rw [(fr.mem hm).1] at q; cases q).trans (st b o q)
  refine wpAny_setField (Heap.get?_push_of_some _ e1) rfl (Nat.lt_trans (by decide) sz2) (k _ ?_ ?_)
  all_goals have ne : h₁.objs.size ≠ e := Nat.ne_of_gt (Heap.lt_size e1)
  · refine ⟨fun b o q => ?_, hn, fr.of_keeps fun b o q nf => ?_, ⟨vs.setIfInBounds 1 (.ref h₁.objs.size), sl, h₁.objs.size, _, _, ?_, ?_, ?_, st1.fresh, ne, (Heap.get?_update_other _ _ (Ne.symm ne)).trans (Heap.get?_push_size h₁ rfl), rfl, ?_⟩⟩
    · rw [Heap.get?_update_other _ _ (fun z => by rw [← z, hn] at q; cases q)]
      exact Heap.get?_push_of_some _ (st1 b o q)
    · obtain ⟨sl', hb⟩ := hs.2.2 b o q
      refine ⟨{ o with slots := sl' }, ?_, rfl⟩
      rw [Heap.get?_update_other _ _ (fun z => by rw [← z, he] at q; cases q; exact nf vs rfl)]
      exact Heap.get?_push_of_some _ hb
    · exact Heap.get?_update_self _ (Heap.get?_push_of_some _ e1) rfl
    · rw [Array.getElem?_setIfInBounds_ne (by decide)]
      exact h2
    · simp [Nat.lt_trans (show 1 < 2 by decide) sz2]
    · first | (simp; done) | (rcases hpl with rfl | ⟨_, _, _, _, _, _, _, rfl⟩ <;> simp)
  · intro b o q nf
    obtain ⟨sl', hb⟩ := hs.2.2 b o q
    refine ⟨sl', ?_⟩
    rw [Heap.get?_update_other _ _ (fun z => by rw [← z, he] at q; cases q; exact nf vs rfl)]
    exact Heap.get?_push_of_some _ hb
theorem note_first {vs : Array Value} {sl : Array (Option Value)} (hfr : A.frames = some (env :: outer)) (hf : env.frame = some L) (st : B.StaysIn s.heap) (hn : B.get? e = none) (fr : s.heap.FunFrames B (env :: outer))
    (he : s.heap.get? e = some ⟨cls, dx, .fields vs, sl⟩) (h2 : vs[2]? = some Value.none) (h1 : vs[1]? = some Value.none) (k : ∀ h', Fly B (env :: outer) e cls dx (rawInt L) h' → s.heap.UpToSlots h' → Q () { s with heap := h' }) :
    wpAny M A (noteFrame (.ref e) env) Q E s := by
  unfold noteFrame
  simp only [hf]
  refine wpAny_bind (wpAny_field he rfl h1 ?_)
  rw [if_neg (by decide)]
  exact place_laid hfr hf st hn fr he h2 k
theorem note_more (hfr : A.frames = some (env :: outer)) (hf : env.frame = some L) (f : Fly B (env :: outer) e cls dx .none s.heap) (k : ∀ h', Fly B (env :: outer) e cls dx (rawInt L) h' → s.heap.UpToSlots h' → Q () { s with heap := h' }) :
    wpAny M A (noteFrame (.ref e) env) Q E s := by
  obtain ⟨st, hn, fr, vs, sl, T, oT, ts, he, h2, h1, nT, ne, hT, dT, t3⟩ := f
  unfold noteFrame
  simp only [hf]
  refine wpAny_bind (wpAny_field he rfl h1 ?_)
  rw [if_pos (by simp)]
  refine wpAny_bind (wpAny_field hT dT t3 ?_)
  rw [if_neg (by simp [rawInt])]
  refine wpAny_bind (wpAny_setField hT dT (Array.getElem?_eq_some_iff.mp t3).1 ?_)
  have other : ∀ b o, b ≠ T → s.heap.get? b = some o → (s.heap.update T (Obj.mapFields (·.setIfInBounds 3 Value.none))).get? b = some o := fun b o hb z => by
    rw [Heap.get?_update_other _ _ (Ne.symm hb)]
    exact z
  have noT : ∀ b o, s.heap.get? b = some o → (∀ ws, o.data ≠ .fields ws) → b ≠ T := fun b o q nf z => by
    rw [z, hT] at q
    cases q
    exact nf ts dT
  refine place_laid (s := { s with heap := _ }) hfr hf (fun b o q => other b o (fun z => by rw [z, nT] at q; cases q) (st b o q)) hn (fr.of_keeps fun b o q nf => ⟨o, other b o (noT b o q nf) q, rfl⟩) (other e _ (Ne.symm ne) he) h2 fun h' f' u => k h' f' fun b o q nf => ?_
  exact u b o (other b o (noT b o q nf) q) nf
theorem land {fl : Value} (f : Fly B l e cls dx fl s.heap) (k : ∀ h', Fly B l e cls dx .none h' → s.heap.UpToSlots h' → Q () { s with heap := h' }) : wpAny M A (setFlight (.ref e) none) Q E s := by
  obtain ⟨st, hn, fr, vs, sl, T, oT, ts, he, h2, h1, nT, ne, hT, dT, t3⟩ := f
  unfold setFlight
  refine wpAny_bind (wpAny_field he rfl h1 ?_)
  rw [if_pos (by simp)]
  have sz := (Array.getElem?_eq_some_iff.mp t3).1
  have other : ∀ b o, b ≠ T → s.heap.get? b = some o → (s.heap.update T (Obj.mapFields (·.setIfInBounds 3 Value.none))).get? b = some o := fun b o hb z => by
    rw [Heap.get?_update_other _ _ (Ne.symm hb)]
    exact z
  have noT : ∀ b o, s.heap.get? b = some o → (∀ ws, o.data ≠ .fields ws) → b ≠ T := fun b o q nf z => by
    rw [z, hT] at q
    cases q
    exact nf ts dT
  refine wpAny_setField hT dT sz (k _ ⟨fun b o q => other b o (fun z => by rw [z, nT] at q; cases q) (st b o q), hn, fr.of_keeps fun b o q nf => ⟨o, other b o (noT b o q nf) q, rfl⟩, vs, sl, T, _, _, other e _ (Ne.symm ne) he, h2, h1, nT, ne, Heap.get?_update_self _ hT (Obj.isFreed_of_fields (Obj.data_mapFields dT _)), Obj.data_mapFields dT _, ?_⟩ fun b o q nf => ⟨o.slots, other b o (noT b o q nf) q⟩)
  simp [sz]
theorem Fly.tail {fl : Value} {h : Heap} (f : Fly B (env :: outer) e cls dx fl h) : Fly B outer e cls dx fl h := ⟨f.st, f.new, f.fr.2.2, f.at_⟩
theorem leave_first {vs : Array Value} {sl : Array (Option Value)} (hfr : A.frames = some (env :: outer)) (hf : env.frame = some L) (st : B.StaysIn s.heap) (hn : B.get? e = none) (fr : s.heap.FunFrames B (env :: outer))
    (he : s.heap.get? e = some ⟨cls, dx, .fields vs, sl⟩) (h2 : vs[2]? = some Value.none) (h1 : vs[1]? = some Value.none) (k : ∀ h', Fly B outer e cls dx .none h' → s.heap.UpToSlots h' → Q () { s with heap := h' }) :
    wpAny M A (leaving env (.ref e)) Q E s := by
  unfold leaving
  exact wpAny_bind (note_first hfr hf st hn fr he h2 h1 fun h' f u => land f fun h2 f2 u2 => k h2 f2.tail (u.trans u2))
theorem leave_more (hfr : A.frames = some (env :: outer)) (hf : env.frame = some L) (f : Fly B (env :: outer) e cls dx .none s.heap) (k : ∀ h', Fly B outer e cls dx .none h' → s.heap.UpToSlots h' → Q () { s with heap := h' }) :
    wpAny M A (leaving env (.ref e)) Q E s := by
  unfold leaving
  exact wpAny_bind (note_more hfr hf f fun h' f u => land f fun h2 f2 u2 => k h2 f2.tail (u.trans u2))
end
end L2
set_option Elab.async false
set_option linter.all false
set_option maxRecDepth 100000
namespace L2
open PySem PySem.Spec PyProof.Rows
theorem ObjOk.some {P : Program} {w : World} {H : Hp} {h : Heap} {a : Addr} {o : HO} (x : ObjOk P w H h a o) : ∃ u, h.get? a = some u := by
  cases o with
  | lst xs => obtain ⟨_, _, _, _, e⟩ := x; exact ⟨_, e⟩
  | tup xs => obtain ⟨_, _, _, o, e, _⟩ := x; exact ⟨_, e⟩
  | dK kvs => obtain ⟨_, _, _, _, o, _, _, e, _⟩ := x; exact ⟨_, e⟩
  | dT kvs => obtain ⟨_, _, _, _, o, _, _, e, _⟩ := x; exact ⟨_, e⟩
  | set S n => obtain ⟨o, _, _, _, e, _⟩ := x; exact ⟨_, e⟩
  | ins C dx fs => obtain ⟨_, _, _, e, _⟩ := x; exact ⟨_, e⟩
  | own y => exact x
  | xd fs => obtain ⟨_, ⟨_, _, _, e, _⟩, _⟩ := x; exact ⟨_, e⟩
  | rng lo hi => obtain ⟨_, _, _, e⟩ := x; exact ⟨_, e⟩
  | frz ob u => obtain ⟨e, _⟩ := x; exact ⟨_, e⟩
  | tbl ps => exact ⟨_, x⟩
  | met f y => exact ⟨_, x⟩
  | ext φ => obtain ⟨_, e, _⟩ := x; exact e
structure UnB (fs : List Addr) (H H' : Hp) (h B : Heap) : Prop where
  keep : ∀ b o, h.get? b = some o → H b = none → b ∉ fs → B.get? b = some o
  free : ∀ b o, h.get? b = some o → H b = none → H' b = none
  there : ∀ b o, h.get? b = some o → b ∉ fs → ∃ o', B.get? b = some o'
  tups : ∀ b xs, H b = some (.tup xs) → H' b = some (.tup xs)
  frzs : ∀ b o u, H b = some (.frz o u) → H' b = some (.frz o u)
  tbls : ∀ b ps, H b = some (.tbl ps) → ∃ more, H' b = some (.tbl (ps ++ more))
theorem UnB.un {fs : List Addr} {H H' : Hp} {h B h3 : Heap} (u : UnB fs H H' h B) (st : B.StaysIn h3) (sl : ∀ b o, b ∈ fs → h.get? b = some o → ∃ sl, h3.get? b = some { o with slots := sl }) : Un fs [] H H' h h3 where
  keep := fun b o e n hb _ => st _ _ (u.keep b o e n hb)
  slot := fun b o e n hb _ => sl b o hb e
  free := fun b o e n _ => u.free b o e n
  there := fun b o e _ => by
    by_cases hb : b ∈ fs
    · obtain ⟨_, z⟩ := sl b o hb e
      exact ⟨_, z⟩
    · obtain ⟨o', z⟩ := u.there b o e hb
      exact ⟨o', st _ _ z⟩
  tups := u.tups
  frzs := u.frzs
  tbls := u.tbls
def CXE (P : Program) (w : World) : CXT := fun outer H s E e s' =>
  ∃ (ea : Addr) (cls : Value) (dx : Option Addr) (H' : Hp) (B : Heap), e = .ref ea ∧ s'.os = s.os ∧ AllBare s'.gens ∧ Fly B outer ea cls dx .none s'.heap ∧ HOk P w H' B ∧ UnB (frs outer) H H' s.heap B ∧
    (∀ b o, b ∈ frs outer → s.heap.get? b = some o → ∃ sl, s'.heap.get? b = some { o with slots := sl }) ∧ E cls dx H'
abbrev WXT := St → XK
structure XC (X : Cx) (WX : WXT) : Prop where
  pass : ∀ (pins : List (Addr × Obj)) (σ : St) (H : Hp) (s : Shared) (e : Value) (s' : Shared), Inv X pins σ H s → CXE X.prog X.w X.stack H s (WX σ) e s' → X.xe e s'
structure XW (X : Cx) (WX : WXT) : Prop extends XC X WX where
  raise : ∀ (pins : List (Addr × Obj)) (σ : St) (H : Hp) (s : Shared) (h' : Heap) (e : Addr) (cls : Value) (args : List Value), Inv X pins σ H s → Heap.MadeExcOf s.heap h' e cls args → WX σ cls none H → X.xe (.ref e) { s with heap := h' }
def noW : WXT := fun _ _ _ _ => False
section
variable {P : Program} {w : World} {K : PySem.W.Frag} {mg : Str → Option Value} {base : Heap} {N : List Str} {qual : Str} {scope : Scope} {f : Addr} {cd : Value} {A : Around} {outer : List Env} {s₀ : Shared} {H₀ : Hp} {E : XK}
theorem hok_hide {H : Hp} {h : Heap} {l : List Addr} (ok : HOk P w H h) (fr : ∀ b ∈ l, H b = none) : HOk P w H (PySem.W.hideAll h l) := fun a o e =>
  (ok a o e).stay (fun b u hb q => PySem.W.hideAll_get _ q fun z => by
    have n := fr b z
    rcases hb with rfl | hb
    · rw [n] at e; cases e
    · rw [n] at hb; cases hb) (fun _ q => q) fun _ _ q => q
theorem xw_fn : XW (cxOf (CXE P w) P w K mg base N qual scope f cd A outer s₀ H₀ E) (fun _ => E) where
  raise := fun pins σ H s h' e cls args I mk hE => by
    have hst : (cxOf (CXE P w) P w K mg base N qual scope f cd A outer s₀ H₀ E).stack = envOfC qual scope s₀.heap.objs.size f cd :: outer := rfl
    have stF := I.stkFree
    have stS := I.stack
    rw [hst] at stF stS
    obtain ⟨t, he, _, _⟩ := mk.there
    have hn : (PySem.W.hideAll s.heap (frs (envOfC qual scope s₀.heap.objs.size f cd :: outer))).get? e = none := by
      cases q : (PySem.W.hideAll s.heap (frs (envOfC qual scope s₀.heap.objs.size f cd :: outer))).get? e with
      | none => rfl
      | some o => have := PySem.W.of_hideAll _ q; rw [mk.new] at this; cases this
    have fr0 : s.heap.FunFrames (PySem.W.hideAll s.heap (frs (envOfC qual scope s₀.heap.objs.size f cd :: outer))) (envOfC qual scope s₀.heap.objs.size f cd :: outer) :=
      PySem.W.funFrames_hide stS fun env he a ha => List.mem_filterMap.mpr ⟨env, he, ha⟩
    show wpAny (model P w) (A.deeper (envOfC qual scope s₀.heap.objs.size f cd)) (leaving (envOfC qual scope s₀.heap.objs.size f cd) (.ref e)) _ _ _
    refine leave_first (s := { s with heap := h' }) (B := PySem.W.hideAll s.heap (frs (envOfC qual scope s₀.heap.objs.size f cd :: outer))) (env := envOfC qual scope s₀.heap.objs.size f cd) (outer := outer) (L := s₀.heap.objs.size) I.ok.frames rfl (fun b o q => mk.keeps b o (PySem.W.of_hideAll _ q)) hn (fr0.of_keeps fun b o q _ => ⟨o, mk.keeps b o q, rfl⟩) he rfl rfl fun h2 fl up => ?_
    have nst : ∀ b o, s₀.heap.get? b = some o → b ∉ frs outer → b ∉ frs (envOfC qual scope s₀.heap.objs.size f cd :: outer) := fun b o q n z => by
      rcases List.mem_cons.mp (show b ∈ s₀.heap.objs.size :: frs outer from z) with z | z
      · exact absurd (Heap.lt_size q) (by rw [z]; exact Nat.lt_irrefl _)
      · exact n z
    refine ⟨e, cls, none, H, _, rfl, I.os, I.bare, fl, hok_hide I.hok stF, ⟨fun b o q n nf => PySem.W.hideAll_get _ (I.base.keep b o q n nf (fun z => nomatch z)) (nst b o q nf), fun b o q n => I.base.free b o q n (fun z => nomatch z), fun b o q nf => ?_, I.base.tups, I.base.frzs, I.base.tbls⟩, fun b o hb q => ?_, hE⟩
    · obtain ⟨o', q'⟩ := I.base.there b o q (fun z => nomatch z)
      exact ⟨o', PySem.W.hideAll_get _ q' (nst b o q nf)⟩
    · obtain ⟨_, o', q', nf⟩ := I.ok.funs.mem hb
      obtain rfl : o = o' := Option.some.inj ((show s₀.heap.get? b = some o from q).symm.trans q')
      obtain ⟨sl, z⟩ := I.base.slot b o q (I.ok.frf b hb) hb (fun z => nomatch z)
      exact up b { o with slots := sl } (mk.keeps _ _ z) nf
  pass := fun pins σ H s e s' I z => by
    obtain ⟨ea, cls, dx, H', B, rfl, os, bare, fl, hok, u, slo, hE⟩ := z
    have fl : Fly B (envOfC qual scope s₀.heap.objs.size f cd :: outer) ea cls dx .none s'.heap := fl
    show wpAny (model P w) (A.deeper (envOfC qual scope s₀.heap.objs.size f cd)) (leaving (envOfC qual scope s₀.heap.objs.size f cd) (.ref ea)) _ _ _
    refine leave_more (L := s₀.heap.objs.size) I.ok.frames rfl fl fun h2 fl2 up => ?_
    have nst : ∀ b o, s₀.heap.get? b = some o → b ∉ frs outer → b ∉ frs (envOfC qual scope s₀.heap.objs.size f cd :: outer) := fun b o q n z => by
      rcases List.mem_cons.mp (show b ∈ s₀.heap.objs.size :: frs outer from z) with z | z
      · exact absurd (Heap.lt_size q) (by rw [z]; exact Nat.lt_irrefl _)
      · exact n z
    refine ⟨ea, cls, dx, H', B, rfl, os.trans I.os, bare, fl2, hok, ⟨fun b o q n nf => u.keep b o (I.base.keep b o q n nf (fun z => nomatch z)) (I.base.free b o q n (fun z => nomatch z)) (nst b o q nf), fun b o q n => ?_, fun b o q nf => ?_, fun b xs q => u.tups b xs (I.base.tups b xs q), fun b o x q => u.frzs b o x (I.base.frzs b o x q), fun b ps q => ?_⟩, fun b o hb q => ?_, hE⟩
    · obtain ⟨o', q'⟩ := I.base.there b o q (fun z => nomatch z)
      exact u.free b o' q' (I.base.free b o q n (fun z => nomatch z))
    · obtain ⟨o', q'⟩ := I.base.there b o q (fun z => nomatch z)
      exact u.there b o' q' (nst b o q nf)
    · obtain ⟨m1, e1⟩ := I.base.tbls b ps q
      obtain ⟨m2, e2⟩ := u.tbls b _ e1
      exact ⟨m1 ++ m2, by rw [e2, Array.append_assoc]⟩
    · obtain ⟨_, o', q', nf⟩ := I.ok.funs.mem hb
      obtain rfl : o = o' := Option.some.inj ((show s₀.heap.get? b = some o from q).symm.trans q')
      obtain ⟨sl, z⟩ := I.base.slot b o q (I.ok.frf b hb) hb (fun z => nomatch z)
      obtain ⟨sl2, z2⟩ := slo b _ (show b ∈ s₀.heap.objs.size :: frs outer from List.mem_cons_of_mem _ hb) z
      exact up b { o with slots := sl2 } z2 nf
end
def tCallX (sp : Sp) (dvs : List V) (WX : WXT) (t : TA) : TE := fun σ H Q => t σ H fun vs H1 => sp (vs ++ dvs) H1 Q (WX σ)
def tMethX (C : Addr) (m : Str) (sp : Sp) (dvs : List V) (WX : WXT) (ta : TE) (t : TA) : TE := fun σ H Q => ta σ H fun x H1 => ∃ a dx fs, x = .ref a ∧ H1 a = some (.ins C dx fs) ∧ fs.lookup m = none ∧ t σ H1 fun vs H2 => sp (x :: (vs ++ dvs)) H2 Q (WX σ)
def tMakeX (C : Addr) (sp : Sp) (dvs : List V) (WX : WXT) (t : TA) : TE := fun σ H Q => t σ H fun vs H1 => ∀ x dx, H1 x = none → H1 dx = none → dx ≠ x →
  sp (.ref x :: (vs ++ dvs)) (upd (upd H1 dx (.own x)) x (.ins C dx [])) (fun v H2 => v = .non ∧ Q (.ref x) H2) (WX σ)
section
variable {X : Cx} {k : Nat} {f C : Addr} {fd : FuncData} {ps : List Str} {sp : Sp} {dvs : List V} {ds : List Value} {WX : WXT} {x m : Str} {p pos apos : Pos} {e o : Expr} {es : List Expr} {ta : TE} {t : TA}
theorem run_fnX {pins : List (Addr × Obj)} {σ : St} {H : Hp} {s : Shared} {Q : VK} {us : List Value} {vs : List V} (F : FnOk X.prog X.w X.K X.mg X.base (CXE X.prog X.w) k f fd ps sp) (hr : Room k X.A) (hb : Binds X.K fd ps ds) (hd : Vals dvs ds) (hx : XC X WX)
    (I : Inv X pins σ H s) (r : Vals vs us) (h : sp (vs ++ dvs) H Q (WX σ)) : wpAny (model X.prog X.w) X.A (call (.ref f) us) (EP X pins σ Q) X.xe s := by
  have r2 : Vals (vs ++ dvs) (us ++ ds) := r.append hd
  have hl : (us ++ ds).length = ps.length := by rw [← r2.length]; exact F.len _ _ _ _ h
  refine wpAny_call (codeAny_mono (F.run X.A X.stack s H ⟨us, []⟩ (us ++ ds) (vs ++ dvs) Q (WX σ) hr I.env0 (hb s us I.kIn hl) r2 h) fun r s' hq => ?_)
  cases r with
  | error e => exact hx.pass pins σ H s e s' I hq
  | ok fl => cases fl with
    | ret u => exact I.after hq
    | next => exact hq.elim
    | brk => exact hq.elim
    | cont => exact hq.elim
theorem pe_meth0X {pl : Sem Bool} (he : PE X o ta) (c : Cls X.K C) (hm : Meth X.K C m f) (F : FnOk X.prog X.w X.K X.mg X.base (CXE X.prog X.w) k f fd ps sp) (hr : Room k X.A) (hb : Binds X.K fd ps ds) (hd : Vals dvs ds) (hx : XC X WX)
    (ht : eval (.Call (.Attribute o m apos) [] [] pos) X.env = (eval o X.env >>= fun ov => standAt apos.atName >>= fun _ => holding [ov] (getMethod ov m pl) >>= fun r => callWith pos r.1 r.2 (backTo pos (starEach [] X.env)) (backToKw pos (keywordEach [] X.env))) := by rfl) :
    PE X (.Call (.Attribute o m apos) [] [] pos) (tMethX C m sp dvs WX ta tNil) := by
  intro pins s σ H Q I h
  refine PySem.W.methodCall_KW (pl := pl) (thn (he pins s σ H _ I h) fun u s1 ⟨x, H1, I1, rx, a, dx, fs, ex, ea, l, q⟩ => ?_) ht
  subst ex
  cases (show u = Value.ref a from rx)
  exact getmeth_ok I1 ea c hm l (PySem.W.callWith_K0 (first := [.ref a]) I1.kIn hm.kp (run_fnX (us := [.ref a]) (vs := [.ref a]) F hr hb hd hx I1 (.cons rfl .nil) q))
structure ErrC (K : PySem.W.Frag) (C : Addr) : Prop where
  ex : PySem.W.excIn K C [.type "ValueError", .type "Exception", .type "BaseException", .type "object"] "ValueError.__new__" = true
def tRaise (WX : WXT) (C : Addr) (t : TA) : TS := fun D σ H => t σ H fun vs H1 => vs.length ≤ sizeLine ∧ WX σ (.ref C) none H1
theorem ps_raise {np cpos : Pos} (hx : XW X WX) (hc : X.calm = true) (hg : Gl X x) (hm : X.mg x = some (.ref C)) (er : ErrC X.K C) (ha : PA X (e :: es) t)
    (hdb : (x == ("__debug__" : Str)) = false := by decide) (he : starEach (e :: es) X.env = (false, eval e X.env) :: starEach es X.env := by rfl) (hpl : (backTo cpos (starEach es X.env)).any (·.1) = false := by rfl) :
    PS X (.Raise (some (.Call (.Name x np) (e :: es) [] cpos)) none pos) (tRaise WX C t) := by
  intro pins s σ H D I h
  have q := er.ex
  unfold PySem.W.excIn at q
  split at q
  · rename_i dd cd sl ho
    split at q
    · rename_i C' bm k0 k1 k2 k3 n k5 hm' hs
      simp only [Bool.and_eq_true, beq_iff_eq, Bool.not_eq_true'] at q
      obtain ⟨⟨⟨⟨⟨rfl, rfl⟩, hdel⟩, ht⟩, hok⟩, hni⟩ := q
      obtain ⟨nm, bs, mro, ns, qn, hd, sn, sub, ab, col, del⟩ := cd
      dsimp only at hm' hdel hok hni
      subst hm' hdel
      obtain rfl : sl = #[k0, k1, k2, k3, some (.builtin "ValueError.__new__"), k5] := by
        obtain ⟨l⟩ := sl
        simp only at hs
        rw [hs]
      have T := PySem.W.tail_of_in I.ok.mod.kin ht
      refine wpAny_Raise_call_subT (C := C') (nm := nm) (q := qn) (N := ns) (bs := bs) (bm := bm) (hdct := hd) (sn := sn) (sub := sub) (ab := ab) (col := col) (dd := dd) (k0 := k0) (k1 := k1) (k2 := k2) (k3 := k3) (k5 := k5) PySem.F.excBase_ValueError (mN := X.base.nsMap ns)
        (T.hasType PySem.F.excBase_ValueError.hasBase) (I.ok.hd hc) (by rw [he]; show (false || (backTo cpos (starEach es X.env)).any (·.1)) = false; rw [hpl]; rfl) (PySem.W.nsMap_none_of_in I.ok.mod.kin hok hni) (ld_glob I hg hm ⟨rfl, ?_⟩ hdb)
      rw [he]
      have hp := ha cpos pins s σ H _ I h
      rw [he] at hp
      refine Calls.evalArgs_plain (wpAny_mono hp (fun us s1 z => ?_) fun _ _ z => z)
      obtain ⟨vs, H1, I1, rv, hz, hw⟩ := z
      refine ⟨rfl, by rw [← rv.length]; exact hz, I1.kIn _ _ ho, (Heap.Ns.of_isNs (PySem.W.isNs_of_in I.ok.mod.kin hok)).keeps I1.bk, T.keeps I1.bk, fun h' ea mk => hx.raise pins σ H1 s1 h' ea _ _ I1 mk hw⟩
    · cases q
  · cases q
end
end L2
set_option Elab.async false
set_option linter.all false
set_option maxRecDepth 100000
namespace L2
open PySem PySem.Spec PyProof.Rows
structure MkO (C : Addr) (dx : Option Addr) (ob : Obj) : Prop where
  ex : ∃ (vs : Array Value) (sl : Array (Option Value)), ob = ⟨.ref C, dx, .fields vs, sl⟩ ∧ vs[2]? = some Value.none
def cxTry (X : Cx) (pins : List (Addr × Obj)) (E : Value → Shared → Prop) : Cx := { X with pn := X.pn ++ pins, xe := E }
def cxSuite (X : Cx) (pins : List (Addr × Obj)) (ea : Addr) (ob : Obj) : Cx := { X with A := X.A.mark (some (.ref ea)), calm := false, pn := X.pn ++ pins ++ [(ea, ob)], xe := fun _ _ => False }
section
variable {X : Cx} {pins pins' : List (Addr × Obj)} {σ : St} {H : Hp} {s : Shared} {E : Value → Shared → Prop} {ea : Addr} {ob : Obj}
theorem ok_try (ok : X.Ok) : (cxTry X pins E).Ok := ⟨ok.mod, ok.kind, ok.glob, ok.blt, ok.above, ok.inj, ok.has, ok.cab, ok.hd, ok.frames, ok.stk, ok.exf, ok.bs, ok.bsz, ok.noex, ok.exfs, ok.funs, ok.frf⟩
theorem ok_suite (ok : X.Ok) : (cxSuite X pins ea ob).Ok := ⟨ok.mod, ok.kind, ok.glob, ok.blt, ok.above, ok.inj, ok.has, ok.cab, (fun z => nomatch z), ok.frames, ok.stk, ok.exf, ok.bs, ok.bsz, ok.noex, ok.exfs, ok.funs, ok.frf⟩
theorem inv_try (I : Inv X pins σ H s) : Inv (cxTry X pins E) [] σ H s := ⟨ok_try I.ok, I.os, I.bare, I.base, I.loc, I.cell, I.free, I.freeC, fun p hp => I.pin p (by simpa [cxTry] using hp), I.hok, I.len⟩
theorem inv_untry (ok : X.Ok) (I : Inv (cxTry X pins E) pins' σ H s) : Inv X pins σ H s := ⟨ok, I.os, I.bare, I.base, I.loc, I.cell, I.free, I.freeC, fun p hp => I.pin p (List.mem_append_left _ hp), I.hok, I.len⟩
theorem inv_suite (I : Inv X pins σ H s) (he : s.heap.get? ea = some ob) (hn : H ea = none) (hl : ea ≠ X.env.locals) (hf : ea ∉ X.fs) (hc : ∀ v, ob.data ≠ .cell v) : Inv (cxSuite X pins ea ob) [] σ H s :=
  ⟨ok_suite I.ok, I.os, I.bare, I.base, I.loc, I.cell, I.free, I.freeC, fun p hp => by
    have hp : p ∈ X.pn ++ pins ++ [(ea, ob)] := by simpa [cxSuite] using hp
    rcases List.mem_append.mp hp with z | z
    · exact I.pin p z
    · cases List.mem_singleton.mp z
      exact ⟨he, hn, hl, hf, hc⟩, I.hok, I.len⟩
theorem inv_unsuite (ok : X.Ok) (I : Inv (cxSuite X pins ea ob) pins' σ H s) : Inv X pins σ H s := ⟨ok, I.os, I.bare, I.base, I.loc, I.cell, I.free, I.freeC, fun p hp => I.pin p (List.mem_append_left _ (List.mem_append_left _ hp)), I.hok, I.len⟩
theorem SP.untry {D : Ends} {f : Flow} (ok : X.Ok) (h : SP (cxTry X pins E) [] D f s) : SP X pins D f s := by
  cases f with
  | next => obtain ⟨σ', H', I, q⟩ := h; exact ⟨σ', H', inv_untry ok I, q⟩
  | brk => obtain ⟨σ', H', I, q⟩ := h; exact ⟨σ', H', inv_untry ok I, q⟩
  | cont => obtain ⟨σ', H', I, q⟩ := h; exact ⟨σ', H', inv_untry ok I, q⟩
  | ret u => obtain ⟨v, σ', H', I, r, q⟩ := h; exact ⟨v, σ', H', inv_untry ok I, r, q⟩
theorem Inv.forget {h' : Heap} {m' : Str → Option Value} {t' : Nat} (I : Inv X pins σ H s) (hn : h'.Ns X.env.locals m') (sb : Heap.SameBut X.env.locals s.heap h') : Inv X pins (List.replicate X.N.length none) H { s with heap := h', toks := t' } := by
  have nl : ∀ b o, X.s₀.heap.get? b = some o → b ≠ X.env.locals := fun b o e => Nat.ne_of_lt (Nat.lt_of_lt_of_le (Heap.lt_size e) I.ok.above)
  have up : ∀ b o, b ≠ X.env.locals → s.heap.get? b = some o → h'.get? b = some o := fun b o hb e => (sb.2 b hb).trans e
  refine ⟨I.ok, I.os, I.bare, ⟨fun b o e n hb hx => up b o (nl b o e) (I.base.keep b o e n hb hx), fun b o e n hb hx => ?_, I.base.free, fun b o e hx => ?_, I.base.tups, I.base.frzs, I.base.tbls⟩, ⟨m', hn, fun i x v _ h2 _ => ?_⟩, fun x c e => ?_, I.free, I.freeC, fun p hp => ?_, fun a o e => ?_, by simp⟩
  · obtain ⟨sl, z⟩ := I.base.slot b o e n hb hx
    exact ⟨sl, up b _ (nl b o e) z⟩
  · obtain ⟨o', z⟩ := I.base.there b o e hx
    exact ⟨o', up b _ (nl b o e) z⟩
  · rw [List.getElem?_replicate] at h2
    split at h2 <;> cases h2
  · obtain ⟨v, o, z, d⟩ := I.cell x c e
    exact ⟨v, o, up c o (I.cne x c e) z, d⟩
  · obtain ⟨z1, z2, z3, z4⟩ := I.pin p hp
    exact ⟨up _ _ z3 z1, z2, z3, z4⟩
  · have ne : ∀ b u, H b = some u → b ≠ X.env.locals := fun b u q z => by rw [z, I.free] at q; cases q
    exact (I.hok a o e).stay (fun b u hb q => up b u (by
      rcases hb with rfl | hb
      · exact ne _ _ e
      · exact ne _ _ hb) q) (fun _ q => q) fun _ _ q => q
def onlyRet (D : Ends) : Ends := { nx := fun _ _ => False, rt := D.rt }
end
def tTry (K : PySem.W.Frag) (C : Addr) (tb : WXT → TS) (th : Addr → Addr → Option Addr → TS) : TS := fun D σ H =>
  ∃ WE : WXT, tb WE D σ H ∧ ∀ σ' cls dx H', WE σ' cls dx H' → ∃ C', cls = .ref C' ∧ PySem.W.exmOne K (.ref C') (.ref C) = some true ∧ ∀ ea, H' ea = none → th ea C' dx D σ' H'
def tTryAs (K : PySem.W.Frag) (C : Addr) (i : Nat) (tb : WXT → TS) (th : Addr → Addr → Option Addr → TS) : TS := fun D σ H =>
  ∃ WE : WXT, tb WE D σ H ∧ ∀ σ' cls dx H', WE σ' cls dx H' → ∃ C', cls = .ref C' ∧ PySem.W.exmOne K (.ref C') (.ref C) = some true ∧ ∀ ea, H' ea = none → th ea C' dx (onlyRet D) (σ'.set i (some (.ref ea))) H'
section
variable {X : Cx} {x n : Str} {C : Addr} {body : List Stmt} {b₀ : Stmt} {suite : List Stmt} {np pos hpos : Pos} {tb : WXT → TS} {th : Addr → Addr → Option Addr → TS}
theorem looks_type {M : Model} {h : Heap} {a : Addr} {o : Obj} (e : h.get? a = some o) : PySem.W.Looks M h (typeOf (.ref a)) o.cls := (PySem.W.Looks.ld e).andThen .now
def Behind (X : Cx) (nm : Option Str) (hpos : Pos) (Q : Flow → Shared → Prop) (r : Result) (s : Shared) : Prop := match r with
  | .ok f => (match nm with
    | none => Q f s
    | some n => wpAny (model X.prog X.w) X.A (do bindName X.env n .none; unbindBehindTheSuite X.env n hpos) (fun _ s₃ => Q f s₃) X.xe s)
  | .error x => cameBackBy (model X.prog X.w) X.A X.env X.xe x s
theorem try_seen {pins pins' : List (Addr × Obj)} {σ : St} {H : Hp} {s s' : Shared} {e : Value} {WE : XK} {nm : Option Str} {Q : Flow → Shared → Prop} {EE : Value → Shared → Prop} {L : Addr} {outer : List Env} (hst : X.stack = X.env :: outer) (hf : X.env.frame = some L) (hg : Gl X x) (hm : X.mg x = some (.ref C)) (hdb : (x == ("__debug__" : Str)) = false) (ok : X.Ok)
    (I : Inv (cxTry X pins EE) pins' σ H s) (z : CXE X.prog X.w X.stack H s WE e s') (hW : ∀ cls dx H', WE cls dx H' → ∃ C', cls = .ref C' ∧ PySem.W.exmOne X.K (.ref C') (.ref C) = some true)
    (k : ∀ (ea C' : Addr) (dx : Option Addr) (H' : Hp) (s5 : Shared), e = .ref ea → WE (.ref C') dx H' → H' ea = none → (∀ (M : Model) (A : Around) (E : Value → Shared → Prop) (Q : Unit → Shared → Prop), (∀ ob s6, MkO C' dx ob → Inv (cxSuite X pins ea ob) [] σ H' s6 → Q () s6) → wpAny M A (setFlight (.ref ea) none) Q E s5) →
      codeAny (model X.prog X.w) (X.A.mark (some (.ref ea))) (.handlers (.ref ea) [.ExceptHandler none nm (b₀ :: suite) hpos] X.env) (Behind X nm hpos Q) s5) :
    wpAny (model X.prog X.w) X.A (noteFrame e X.env) (fun _ s₂ => wpAny (model X.prog X.w) X.A (setFlight e none) (fun _ s₃ => wpAny (model X.prog X.w) X.A (handleBy e X.env [.ExceptHandler (some (.Name x np)) nm (b₀ :: suite) hpos]) Q X.xe s₃) X.xe s₂) X.xe s' := by
  obtain ⟨ea, cls, dx, H', B, rfl, os, bare, fl, hok, u, slo, hE⟩ := z
  obtain ⟨C', rfl, hmt⟩ := hW cls dx H' hE
  have fl : Fly B (X.env :: outer) ea (.ref C') dx .none s'.heap := by rw [← hst]; exact fl
  have J : ∀ {h3 : Heap} {t3 : Nat}, B.StaysIn h3 → s'.heap.UpToSlots h3 → Inv X pins σ H' { s' with heap := h3, toks := t3 } := fun {h3 t3} st up => by
    refine inv_untry ok (Inv.call' I (s' := { s' with heap := h3, toks := t3 }) os (u.un st fun b o hb q => ?_) (hok.kept st) bare (fun b z => nomatch z))
    obtain ⟨_, o', q', nf⟩ := I.stack.mem hb
    rw [q] at q'
    cases q'
    obtain ⟨sl, q2⟩ := slo b o hb q
    exact up b { o with slots := sl } q2 nf
  have hn : H' ea = none := by
    cases q : H' ea with
    | none => rfl
    | some o => obtain ⟨_, z⟩ := (hok ea o q).some; rw [fl.new] at z; cases z
  refine note_more (by rw [ok.frames, hst]) hf fl fun h4 fl4 up4 => ?_
  refine land (s := { s' with heap := h4 }) fl4 fun h5 fl5 up5 => ?_
  have fin : ∀ {h6 : Heap} {t6 : Nat}, Fly B (X.env :: outer) ea (.ref C') dx .none h6 → h5.UpToSlots h6 → ∃ ob, MkO C' dx ob ∧ Inv (cxSuite X pins ea ob) [] σ H' { s' with heap := h6, toks := t6 } := fun {h6 t6} fl6 up6 => by
    have I6 := J (t3 := t6) fl6.st ((up4.trans up5).trans up6)
    obtain ⟨vs, sl, T, oT, ts, he, h2, h1, _⟩ := fl6.at_
    refine ⟨_, ⟨vs, sl, rfl, h2⟩, inv_suite I6 he hn (fun z => ?_) (fun z => ?_) (fun v z => by cases z)⟩
    · obtain ⟨m, ⟨o, es, ep, ho, hd, _⟩, _⟩ := I6.loc
      rw [← z] at ho
      have ho := (show h6.get? ea = some o from ho)
      rw [he] at ho
      cases ho
      cases hd
    · obtain ⟨_, o, ho, nf⟩ := I6.funs.mem z
      have ho := (show h6.get? ea = some o from ho)
      rw [he] at ho
      cases ho
      exact nf _ rfl
  refine wpAny_handleBy_cons (codeAny_handlers_test ?_) (by intro q; cases q)
  obtain ⟨ob5, _, I5⟩ := fin (t6 := s'.toks) fl5 (Heap.UpToSlots.refl _)
  refine ld_glob (X := cxSuite X pins ea ob5) I5 hg hm ?_ hdb
  obtain ⟨vs, sl, T, oT, ts, he, _⟩ := id fl5.at_
  refine (PySem.W.exm_one I5.kIn (looks_type he) hmt).here ?_
  refine k ea C' dx H' _ rfl hE hn fun M A E Q q => land (s := { s' with heap := h5 }) fl5 fun h6 fl6 up6 => ?_
  obtain ⟨ob6, m6, I6⟩ := fin (t6 := s'.toks) fl6 up6
  exact q ob6 _ m6 I6
theorem ps_tryAs {L : Addr} {outer : List Env} {i : Nat} (hN : X.N.Nodup) (hi : X.N[i]? = some n) (hl : X.env.scope.names.lookup n = some .local) (hst : X.stack = X.env :: outer) (hf : X.env.frame = some L) (hg : Gl X x) (hm : X.mg x = some (.ref C)) (hdb : (x == ("__debug__" : Str)) = false)
    (hb : ∀ pins EE WE, XC (cxTry X pins EE) WE → PSs (cxTry X pins EE) body (tb WE)) (hh : ∀ pins ea C' dx ob, MkO C' dx ob → PSs (cxSuite X pins ea ob) (b₀ :: suite) (th ea C' dx)) :
    PS X (.Try body [.ExceptHandler (some (.Name x np)) (some n) (b₀ :: suite) hpos] [] [] pos) (tTryAs X.K C i tb th) := by
  intro pins s σ H D I h
  obtain ⟨WE, h1, h2⟩ := h
  refine wpAny_Try_except (thn (hb pins _ WE ⟨fun pins' σ' H' s1 e s2 I' z => ?_⟩ [] s σ H D (inv_try I) h1) fun f s1 q => ?_)
  · refine try_seen hst hf hg hm hdb I.ok I' z (fun cls dx H' w => let ⟨C', e1, e2, _⟩ := h2 σ' cls dx H' w; ⟨C', e1, e2⟩) fun ea C' dx H2 s5 e5 w hn land => ?_
    obtain ⟨C2, e1, e2, h3⟩ := h2 σ' _ dx H2 w
    cases e1
    refine codeAny_handlers_suite_as (wpAny_noRaise (land _ _ _ _ fun ob s6 mk I6 => wpAny_noRaise (store_ok (X := cxSuite X pins ea ob) (v := .ref ea) I6 hN hi (.inl hl) rfl (fun s7 I7 => ?_) (.inr hl))))
    refine wpAny_mono (hh pins ea C' dx ob mk [] s7 _ H2 (onlyRet D) I7 (h3 ea hn)) (fun f s8 q8 => ?_) fun _ _ z => z.elim
    cases f with
    | next => obtain ⟨_, _, _, z⟩ := q8; exact z.elim
    | brk => obtain ⟨_, _, _, z⟩ := q8; exact z.elim
    | cont => obtain ⟨_, _, _, z⟩ := q8; exact z.elim
    | ret v =>
      obtain ⟨y, σ9, H9, I9, r9, q9⟩ := q8
      have I9 := inv_unsuite I.ok I9
      obtain ⟨m, hn9, _⟩ := id I9.loc
      refine wpAny_nameGoes (m := m) hl hn9 (by rw [I9.ok.kind]; rfl) fun h' m' hn' sb => ?_
      refine ⟨y, List.replicate X.N.length none, H9, ?_, r9, q9⟩
      exact I9.forget hn' sb
  · have q := SP.untry I.ok q
    cases f with
    | next => exact wpAny_execs_nil q
    | brk => exact q
    | cont => exact q
    | ret u => exact q
end
end L2
set_option Elab.async false
set_option linter.all false
set_option maxRecDepth 100000
namespace L2
open PySem PySem.Spec PyProof.Rows
structure RoomM (k : Nat) (A : Around) : Prop where
  dp : A.depth + 3 * k + 5 < recursionLimit
  un : A.units + 16 * k + 200 < cLine
theorem Room.m {k : Nat} {A : Around} {e : Option Value} (r : Room k A) : RoomM k (A.mark e) := ⟨r.dp, r.un⟩
theorem RoomM.mono {j k : Nat} {A : Around} (r : RoomM k A) (h : j ≤ k) : RoomM j A := ⟨by have := r.dp; omega, by have := r.un; omega⟩
theorem RoomM.deeper {k : Nat} {A : Around} (r : RoomM (k + 1) A) (env : Env) : RoomM k (A.deeper env) :=
  ⟨by have := r.dp; show A.depth + 1 + 3 * k + 5 < _; omega, by have := r.un; show A.units + 3 + 16 * k + 200 < _; omega⟩
theorem RoomM.depth {k : Nat} {A : Around} (r : RoomM k A) : A.depth < recursionLimit := by have := r.dp; omega
theorem RoomM.units {k : Nat} {A : Around} (r : RoomM k A) : A.units + 64 < cLine := by have := r.un; omega
theorem RoomM.units0 {k : Nat} {A : Around} (r : RoomM k A) : A.units < cLine := by have := r.un; omega
structure FnOkM (P : Program) (w : World) (K : PySem.W.Frag) (mg : Str → Option Value) (base : Heap) (ea : Addr) (ob : Obj) (k : Nat) (f : Addr) (fd : FuncData) (ps : List Str) (sp : Sp) : Prop where
  len : ∀ vs H Q E, sp vs H Q E → vs.length = ps.length
  run : ∀ (A : Around) (outer : List Env) (s : Shared) (H : Hp) (args : Args) (us : List Value) (vs : List V) (Q : VK), RoomM k A → A.handled = some (.ref ea) → s.heap.get? ea = some ob → H ea = none → ea ∉ frs outer → Env0 P w K mg base A outer s H → BindsTo s fd args (ps.zip us) → Vals vs us → sp vs H Q E0 →
    codeAny (model P w) A (.call (.ref f) args) (CR CX0 outer P w H s Q E0) s
def cxM (P : Program) (w : World) (K : PySem.W.Frag) (mg : Str → Option Value) (base : Heap) (N : List Str) (qual : Str) (scope : Scope) (f : Addr) (cd : Value) (A : Around) (outer : List Env) (s : Shared) (H : Hp) (ea : Addr) (ob : Obj) : Cx :=
  { cxOf CX0 P w K mg base N qual scope f cd A outer s H E0 with calm := false, pn := [(ea, ob)], xe := fun _ _ => False }
theorem calm_m {P : Program} {w : World} {K : PySem.W.Frag} {mg : Str → Option Value} {base : Heap} {N : List Str} {qual : Str} {scope : Scope} {f : Addr} {cd : Value} {A : Around} {outer : List Env} {s : Shared} {H : Hp} {ea C : Addr} {dx : Option Addr} {ob : Obj} (mk : MkO C dx ob) (hh : A.handled = some (.ref ea)) :
    Calm (cxM P w K mg base N qual scope f cd A outer s H ea ob) := by
  obtain ⟨vs, sl, rfl, h2⟩ := mk.ex
  exact .inr ⟨ea, C, dx, vs, sl, hh, h2, List.mem_singleton.mpr rfl⟩
theorem fn_ofM {P : Program} {w : World} {K : PySem.W.Frag} {mg : Str → Option Value} {base : Heap} {k : Nat} {f : Addr} {name qual : Str} {params : Arguments} {body : List Stmt} {scope : Scope} {dV kV doc pm cdv ct oc : Value} {an od : Option Addr} {ea C : Addr} {dx : Option Addr} {ob : Obj}
    {osl : Array (Option Value)} {N ps : List Str} {sp : Sp} (mk : MkO C dx ob) (lk : K.lookup f = some ⟨oc, od, .func (PySem.W.fnOf name qual params body scope dV kV doc pm an cdv ct), osl⟩) (hcd : PySem.W.codeIn K cdv qual = true) (S : FnScope N ps scope)
    (len : ∀ vs H Q E, sp vs H Q E → vs.length = ps.length)
    (hbody : ∀ (A : Around) (outer : List Env) (s : Shared) (H : Hp) (vs : List V) (Q : VK), RoomM k (A.deeper (envOfC qual scope s.heap.objs.size f cdv)) → Calm (cxM P w K mg base N qual scope f cdv A outer s H ea ob) → A.handled = some (.ref ea) → sp vs H Q E0 →
      ∃ t, PSs (cxM P w K mg base N qual scope f cdv A outer s H ea ob) body t ∧ t { nx := fun _ H' => Q .non H', rt := Q } (start N vs) H) :
    FnOkM P w K mg base ea ob (k + 1) f (PySem.W.fnOf name qual params body scope dV kV doc pm an cdv ct) ps sp := by
  refine ⟨len, fun A outer s H args us vs Q hr hh hea hne hnf e0 hb r hsp => ?_⟩
  have hl := len _ _ _ _ hsp
  have KX : K.In s.heap := e0.mod.kin.keeps fun b o e => (e0.bs b o e).1
  have lim : s.heap.NoLimit := e0.mod.nolimit.keeps fun b o e => (e0.bs b o e).1
  refine codeAny_call_function hr.depth (KX _ _ lk) rfl S.co S.gen rfl (PySem.W.codeRec_of KX hcd) (hb _ _ _ _ ?_)
  refine wpAny_newFunctionEnv_cells S.kind (fun ⟨n, v⟩ hy => ?_) fun env he s1 x => ?_
  · rcases S.par n (List.of_mem_zip hy).1 with q | q
    · exact .inl q
    · exact .inr ⟨q, PySem.W.cellsFrom_some _ _ _ (.inl q)⟩
  subst he
  refine ⟨lim.keeps x.toInCall.keep, codeAny_func ?_⟩
  obtain ⟨t, ht, hq⟩ := hbody A outer s H vs Q (hr.deeper _) (calm_m mk hh) hh hsp
  have e1 : Env0 P w K mg base { A with handled := none } outer s H := ⟨e0.frames, e0.mod, e0.bs, e0.bsz, e0.funs, e0.frf, e0.hok, e0.bare⟩
  have I0 : Inv (cxOf CX0 P w K mg base N qual scope f cdv { A with handled := none } outer s H E0) [] (start N vs) H s1 := inv_start S rfl e1 hl r x
  have I : Inv (cxM P w K mg base N qual scope f cdv A outer s H ea ob) [] (start N vs) H s1 := by
    refine ⟨⟨I0.ok.mod, I0.ok.kind, I0.ok.glob, I0.ok.blt, I0.ok.above, I0.ok.inj, I0.ok.has, I0.ok.cab, (fun z => nomatch z), Around.frames_deeper e0.frames, I0.ok.stk, I0.ok.exf, I0.ok.bs, I0.ok.bsz, I0.ok.noex, I0.ok.exfs, I0.ok.funs, I0.ok.frf⟩, I0.os, I0.bare, I0.base, I0.loc, I0.cell, I0.free, I0.freeC, fun p hp => ?_, I0.hok, I0.len⟩
    obtain rfl : p = (ea, ob) := by simpa [cxM] using hp
    obtain ⟨vs', sl, rfl, _⟩ := mk.ex
    exact ⟨x.toInCall.keep _ _ hea, hne, Nat.ne_of_lt (Heap.lt_size hea), hnf, fun v z => by cases z⟩
  refine wpAny_mono (ht [] s1 (start N vs) H _ I hq) (fun fl s' hs => ?_) fun e s' hs => hs.elim
  cases fl with
  | ret u =>
    obtain ⟨v, σ', H', J, rv, q⟩ := hs
    exact ⟨v, H', J.os, J.bare, J.base, J.hok, rv, q⟩
  | next =>
    obtain ⟨σ', H', J, q⟩ := hs
    exact ⟨.non, H', J.os, J.bare, J.base, J.hok, rfl, q⟩
  | brk =>
    obtain ⟨_, _, _, q⟩ := hs
    exact q.elim
  | cont =>
    obtain ⟨_, _, _, q⟩ := hs
    exact q.elim
section
variable {P : Program} {w : World} {K : PySem.W.Frag} {mg : Str → Option Value} {base : Heap} {x qual : Str} {st : Stmt} {f : Addr} {fd : FuncData} {N ps : List Str} {k : Nat} {sp : Sp}
theorem Fun.okR (F : Fun K x qual st f fd) (S : FnScope N ps (defScope st)) (len : ∀ vs H Q E, sp vs H Q E → vs.length = ps.length)
    (hbody : ∀ (cdv : Value) (A : Around) (outer : List Env) (s : Shared) (H : Hp) (vs : List V) (Q : VK) (E : XK), Room k (A.deeper (envOfC qual (defScope st) s.heap.objs.size f cdv)) → sp vs H Q E →
      ∃ t, PSs (cxOf (CXE P w) P w K mg base N qual (defScope st) f cdv A outer s H E) (defBody st) t ∧ t { nx := fun _ H' => Q .non H', rt := Q } (start N vs) H) : FnOk P w K mg base (CXE P w) (k + 1) f fd ps sp := by
  obtain ⟨oc, od, kV, doc, pm, an, cdv, ct, osl, rfl, lk, hcd⟩ := F.ex
  exact fn_of lk hcd S len fun A outer s H vs Q E hr hsp => hbody cdv A outer s H vs Q E hr hsp
theorem Fun.okM {ea C : Addr} {dx : Option Addr} {ob : Obj} (F : Fun K x qual st f fd) (mk : MkO C dx ob) (S : FnScope N ps (defScope st)) (len : ∀ vs H Q E, sp vs H Q E → vs.length = ps.length)
    (hbody : ∀ (cdv : Value) (A : Around) (outer : List Env) (s : Shared) (H : Hp) (vs : List V) (Q : VK), RoomM k (A.deeper (envOfC qual (defScope st) s.heap.objs.size f cdv)) → Calm (cxM P w K mg base N qual (defScope st) f cdv A outer s H ea ob) → A.handled = some (.ref ea) → sp vs H Q E0 →
      ∃ t, PSs (cxM P w K mg base N qual (defScope st) f cdv A outer s H ea ob) (defBody st) t ∧ t { nx := fun _ H' => Q .non H', rt := Q } (start N vs) H) : FnOkM P w K mg base ea ob (k + 1) f fd ps sp := by
  obtain ⟨oc, od, kV, doc, pm, an, cdv, ct, osl, rfl, lk, hcd⟩ := F.ex
  exact fn_ofM mk lk hcd S len fun A outer s H vs Q hr hc hh hsp => hbody cdv A outer s H vs Q hr hc hh hsp
end
theorem cxKm {P : Program} {w : World} {K : PySem.W.Frag} {mg : Str → Option Value} {base : Heap} {N : List Str} {qual : Str} {scope : Scope} {f : Addr} {cd : Value} {A : Around} {outer : List Env} {s : Shared} {H : Hp} {ea : Addr} {ob : Obj} : (cxM P w K mg base N qual scope f cd A outer s H ea ob).K = K := rfl
theorem cxKs {X : Cx} {pins : List (Addr × Obj)} {ea : Addr} {ob : Obj} : (cxSuite X pins ea ob).K = X.K := rfl
theorem cxKt {X : Cx} {pins : List (Addr × Obj)} {E : Value → Shared → Prop} : (cxTry X pins E).K = X.K := rfl
structure Mkd (X : Cx) (ea : Addr) (ob : Obj) : Prop where
  hd : X.A.handled = some (.ref ea)
  pin : (ea, ob) ∈ X.pn
theorem mkd_suite {X : Cx} {pins : List (Addr × Obj)} {ea : Addr} {ob : Obj} : Mkd (cxSuite X pins ea ob) ea ob := ⟨rfl, List.mem_append_right _ (List.mem_singleton.mpr rfl)⟩
theorem mkd_m {P : Program} {w : World} {K : PySem.W.Frag} {mg : Str → Option Value} {base : Heap} {N : List Str} {qual : Str} {scope : Scope} {f : Addr} {cd : Value} {A : Around} {outer : List Env} {s : Shared} {H : Hp} {ea : Addr} {ob : Obj} (hh : A.handled = some (.ref ea)) : Mkd (cxM P w K mg base N qual scope f cd A outer s H ea ob) ea ob := ⟨hh, List.mem_singleton.mpr rfl⟩
section
variable {X : Cx} {k : Nat} {f C : Addr} {fd : FuncData} {ps : List Str} {sp : Sp} {ea : Addr} {ob : Obj} {x m : Str} {p pos apos : Pos} {e o : Expr} {es : List Expr} {ta : TE} {t : TA}
theorem run_fnM {pins : List (Addr × Obj)} {σ : St} {H : Hp} {s : Shared} {Q : VK} {us : List Value} {vs : List V} (F : FnOkM X.prog X.w X.K X.mg X.base ea ob k f fd ps sp) (mk : Mkd X ea ob) (hr : RoomM k X.A) (hb : Binds X.K fd ps [])
    (I : Inv X pins σ H s) (r : Vals vs us) (h : sp vs H Q E0) : wpAny (model X.prog X.w) X.A (call (.ref f) us) (EP X pins σ Q) X.xe s := by
  have hl : (us ++ []).length = ps.length := by rw [List.append_nil, ← r.length]; exact F.len _ _ _ _ h
  obtain ⟨p1, p2, p3, p4, _⟩ := I.pin _ (List.mem_append_left _ mk.pin)
  have hb' := hb s us I.kIn hl
  rw [List.append_nil] at hb'
  refine wpAny_call (codeAny_mono (F.run X.A X.stack s H ⟨us, []⟩ us vs Q hr mk.hd p1 p2 (fun z => (List.mem_cons.mp (I.stkSub _ z)).elim p3 p4) I.env0 hb' r h) fun r s' hq => ?_)
  cases r with
  | error e => exact hq.elim
  | ok fl => cases fl with
    | ret u => exact I.after hq
    | next => exact hq.elim
    | brk => exact hq.elim
    | cont => exact hq.elim
theorem pe_callM (F : FnOkM X.prog X.w X.K X.mg X.base ea ob k f fd ps sp) (mk : Mkd X ea ob) (hr : RoomM k X.A) (hg : Gl X x) (hm : X.mg x = some (.ref f)) (hk : PySem.W.keepIn X.K (.ref f) = true) (hb : Binds X.K fd ps [])
    (ha : PA X (e :: es) t) (hdb : (x == ("__debug__" : Str)) = false := by decide) (he : starEach (e :: es) X.env = (false, eval e X.env) :: starEach es X.env := by rfl) (hpl : (backTo pos (starEach es X.env)).any (·.1) = false := by rfl) :
    PE X (.Call (.Name x p) (e :: es) [] pos) (tCall sp [] E0 t) := by
  intro pins s σ H Q I h
  refine wpAny_Call_Name_kw (ld_glob I hg hm ?_ hdb)
  exact PySem.W.callWith_K (h₀ := X.base) I.ok.mod.kin hk (thn (ha pos pins s σ H _ I h) fun us s1 ⟨vs, H1, I1, r, q⟩ => ⟨I1.kIn, run_fnM F mk hr hb I1 r (by simpa only [List.append_nil] using q)⟩) he hpl
end
end L2
set_option Elab.async false
set_option linter.all false
set_option maxRecDepth 100000
namespace L2
open PySem PySem.Spec PyProof.Rows PySem.W
section
variable {prog : Program} {w : World} {A : Around} {E : Value → Shared → Prop} {s : Shared} {K : Frag} {x D : Addr} {ox : Obj} {od : Option Obj} {name : Str}
structure ErrA (K : Frag) (D : Addr) : Prop where
  ga : findIn K (.ref D) "__getattribute__" = some (some (.builtin "BaseException.__getattribute__"))
  gn : findIn K (.ref D) "__getattr__" = some none
  bx : mroIn K D (.type "BaseException") = some true
theorem check_ga {M : Model} {nameV : Value} {Q : Unit → Shared → Prop} (X : K.In s.heap) (I : InstAt s.heap x ox D od) (er : ErrA K D) (q : Q () s) : wpAny M A (checkBuiltinCall "BaseException.__getattribute__" ⟨[.ref x, nameV], []⟩) Q E s := by
  obtain ⟨h, g, d, t, os⟩ := s
  have hk : builtinKind "BaseException.__getattribute__" = some .slot := by decide +kernel
  have hsplit : splitId "BaseException.__getattribute__" = some ("BaseException", "__getattribute__") := by decide +kernel
  have ha := F.args_bexc_ga (.ref x) nameV
  have L0 := I.type (M := M)
  have L1 := looks_mroIn (M := M) X er.bx
  have LI : Looks M h (isInstance (.ref x) (.type "BaseException")) true := L0.andThen L1
  simp only [checkBuiltinCall, hk, hsplit]
  refine wpAny_bind (LI.at ?_)
  repeat (any_goals (first | assumption | wp_step))
theorem exc_called {tk : Tok} {Q : Value → Shared → Prop} (X : K.In s.heap) (I : InstAt s.heap x ox D od) (er : ErrA K D)
    (h : wpAny (model prog w) A.in1 (Builtin.«object.__getattribute__» ⟨[.ref x, .str name tk], []⟩) (fun fin s' => match fin with | .done (.ret v) => Q v s' | _ => False) (fun _ _ => False) s) :
    wpAny (model prog w) A (boundAndCalled (.builtin "BaseException.__getattribute__") (.ref x) (.str name tk)) Q E s := by
  have f3 := F.excAttr_ValueError.ga.bind (.ref x)
  unfold boundAndCalled
  rw [f3]
  refine wpAny_bind (wpAny_pure ?_)
  refine wpAny_call (codeAny_call_builtin F.excAttr_ValueError.ga.plain F.entry_bexc_ga (check_ga X I er (wpAny_mono h (fun fin s' z => ?_) fun _ _ z => z.elim)))
  rcases fin with (_ | _ | _ | _) | _ <;> first | exact z | exact z.elim
theorem exc_attr {tk : Tok} {fill expr : Bool} {Q : Value → Shared → Prop} (X : K.In s.heap) (I : InstAt s.heap x ox D od) (er : ErrA K D)
    (h : wpAny (model prog w) A.in1 (Builtin.«object.__getattribute__» ⟨[.ref x, .str name tk], []⟩) (fun fin s' => match fin with | .done (.ret v) => wpAny (model prog w) A (handedOut v) Q E s' | _ => False) (fun _ _ => False) s) :
    wpAny (model prog w) A (getAttrBy (.ref x) (.str name tk) fill expr) Q E s := by
  have L0 := I.type (M := model prog w)
  have L1 := looks_findIn (M := model prog w) X er.ga
  have L2 := looks_findIn (M := model prog w) X er.gn
  unfold getAttrBy
  refine wpAny_holding (wpAny_bind (L0.here (wpAny_bind (L1.here ?_))))
  have hx2 : (Value.builtin "BaseException.__getattribute__" == Value.builtin "object.__getattribute__") = false := by decide +kernel
  dsimp only
  rw [if_neg (by rw [hx2, Bool.and_false]; exact Bool.false_ne_true)]
  unfold getAttrByItsOwn hookBefore
  rw [if_pos (show onTheHeap (.ref D) = true from rfl)]
  refine wpAny_bind (L2.here ?_)
  refine wpAny_bind (wpAny_attempt (wpAny_holding ?_))
  unfold callGetattribute
  rw [if_neg (by cases expr <;> exact Bool.false_ne_true)]
  exact exc_called X I er h
theorem exc_class (hc : (clsIn K D).isSome = true) (ha : findIn K (.ref D) "__class__" = some (some (.builtin "object.__class__")))
    (hn : specialIn K (.builtin "object.__class__") "__get__" = some (some (.builtin "getset_descriptor.__get__"))) (htk : takesIn K (.builtin "object.__class__") = some true) (hm : mroIn K D (.type "object") = some true)
    {Q : Option Value → Shared → Prop} (X : K.In s.heap) (I : InstAt s.heap x ox D od) (er : ErrA K D) (h : Q (some (.ref D)) { s with toks := s.toks + 1 }) : wpAny (model prog w) A (getAttr? (.ref x) "__class__") Q E s := by
  have hf : findObj K D od "__class__" = some (.bind (.builtin "getset_descriptor.__get__") (.builtin "object.__class__")) := by
    obtain ⟨cd, hc⟩ := Option.isSome_iff_exists.mp hc
    unfold findObj
    rw [hc, Option.bind_some, ha, Option.bind_some]
    simp [hn, htk]
  have L0 := I.type (M := model prog w)
  have L1 := looks_find (M := model prog w) X I hf
  unfold getAttr? getAttrBy?
  refine wpAny_bind (wpAny_mkText (wpAny_bind (wpAny_attempt (exc_attr (s := { s with toks := s.toks + 1 }) X I er ?_))))
  refine wpAny_bind (wpAny_pure (wpAny_bind (wpAny_pure (wpAny_bind (L0.here (s := { s with toks := s.toks + 1 }) (wpAny_bind (L1.here (s := { s with toks := s.toks + 1 }) ?_)))))))
  show wpAny _ _ (holding [Value.builtin "object.__class__"] (call (.builtin "getset_descriptor.__get__") [.builtin "object.__class__", .ref x, .ref D]) >>= ret) _ _ _
  refine wpAny_bind (wpAny_holding (wpAny_call (class_get (s := { s with toks := s.toks + 1 }) (ox := ox) (od := od) X I hm ?_)))
  exact wpAny_pure (handed_on rfl (wpAny_pure h))
theorem kitx_exc (hc : (clsIn K D).isSome = true) (ha : findIn K (.ref D) "__class__" = some (some (.builtin "object.__class__")))
    (hn : specialIn K (.builtin "object.__class__") "__get__" = some (some (.builtin "getset_descriptor.__get__"))) (htk : takesIn K (.builtin "object.__class__") = some true) (hm : mroIn K D (.type "object") = some true) (er : ErrA K D) :
    KitX K (.ref x) (.ref D) (fun h => ∃ ox od, InstAt h x ox D od) where
  ty := fun _ _ _ ⟨_, _, I⟩ => I.type
  it := fun _ _ X _ => by
    obtain ⟨cd, hcD⟩ := Option.isSome_iff_exists.mp hc
    unfold clsIn at hcD
    split at hcD
    · rename_i ho
      intro A' Q' E' s' k q
      unfold isType loadHead
      exact wpAny_bind (wpAny_loadPart (k _ _ (X _ _ ho)) (wpAny_pure q))
    · cases hcD
  ne := fun h tp dd its n sl X htp => by
    obtain ⟨cd, hcD⟩ := Option.isSome_iff_exists.mp hc
    refine Bool.eq_false_iff.mpr fun q => ?_
    have e : D = tp := Value.ref.inj (beq_iff_eq.mp q)
    subst e
    unfold clsIn at hcD
    split at hcD
    · rename_i ho
      have z := (X _ _ ho).symm.trans htp
      cases z
    · cases hcD
  ca := fun X ⟨_, _, I⟩ k => exc_class hc ha hn htk hm X I er k
end
structure ErrK (K : Frag) (D : Addr) : Prop extends ErrA K D where
  cl : (clsIn K D).isSome = true
  ca : findIn K (.ref D) "__class__" = some (some (.builtin "object.__class__"))
  cg : specialIn K (.builtin "object.__class__") "__get__" = some (some (.builtin "getset_descriptor.__get__"))
  ct : takesIn K (.builtin "object.__class__") = some true
  cm : mroIn K D (.type "object") = some true
def clsV : V → Option Value
  | .ref a => some (.ref a)
  | .ty n => some (.type n)
  | _ => none
theorem clsV_rel {c : V} {v u : Value} (h : clsV c = some v) (r : RelV c u) : u = v := by
  cases c <;> simp only [clsV] at h <;> cases h <;> exact r
section
variable {X : Cx} {ea C : Addr} {dx : Option Addr} {ob : Obj}
theorem call_isinstE (mk : Mkd X ea ob) (mo : MkO C none ob) (er : ErrK X.K C) : CallR X (.builtin "isinstance") (fun xs H Q => ∃ c v b, xs = [.ref ea, c] ∧ clsV c = some v ∧ kitOne X.K (.ref C) v = some b ∧ Q (.bl b) H) := by
  intro pins s σ H xs us Q I r h
  obtain ⟨c, v, b, rfl, hv, e, q⟩ := h
  obtain ⟨u1, u2, rfl, r1, r2⟩ := vals2 r
  cases (show u1 = Value.ref ea from r1)
  cases clsV_rel hv r2
  obtain ⟨p1, _⟩ := I.pin _ (List.mem_append_left _ mk.pin)
  obtain ⟨vs, sl, rfl, _⟩ := mo.ex
  exact kia_one (kitx_exc er.cl er.ca er.cg er.ct er.cm er.toErrA) I.kIn ⟨_, none, ⟨p1, rfl, rfl, True.intro⟩⟩ e (fun z => nomatch z) fun tk => ⟨.bl b, H, I.tok _, rfl, q⟩
end
end L2
set_option Elab.async false
set_option linter.all false
set_option maxRecDepth 100000
namespace L2
open PySem PySem.Spec PyProof.Rows PySem.Builtin PySem.Builtin.Str PySem.Builtin.Int
structure FunD (K : PySem.W.Frag) (x qual : Str) (st : Stmt) (f : Addr) (fd : FuncData) (items : Array Value) : Prop where
  ex : ∃ (oc : Value) (od : Option Addr) (kV doc pm : Value) (an : Option Addr) (cdv ct : Value) (osl : Array (Option Value)) (T : Addr) (oT : Obj) (n : Nat),
    fd = PySem.W.fnOf x qual (defArgs st) (defBody st) (defScope st) (.ref T) kV doc pm an cdv ct ∧ K.lookup f = some ⟨oc, od, .func fd, osl⟩ ∧ PySem.W.codeIn K cdv qual = true ∧ K.lookup T = some oT ∧ oT.data = .seq items n
  kp : PySem.W.keepIn K (.ref f) = true
section
variable {P : Program} {w : World} {K : PySem.W.Frag} {mg : Str → Option Value} {base : Heap} {x qual : Str} {st : Stmt} {f : Addr} {fd : FuncData} {items : Array Value} {N ps : List Str} {k : Nat} {sp : Sp}
theorem FunD.okR (F : FunD K x qual st f fd items) (S : FnScope N ps (defScope st)) (len : ∀ vs H Q E, sp vs H Q E → vs.length = ps.length)
    (hbody : ∀ (cdv : Value) (A : Around) (outer : List Env) (s : Shared) (H : Hp) (vs : List V) (Q : VK) (E : XK), Room k (A.deeper (envOfC qual (defScope st) s.heap.objs.size f cdv)) → sp vs H Q E →
      ∃ t, PSs (cxOf (CXE P w) P w K mg base N qual (defScope st) f cdv A outer s H E) (defBody st) t ∧ t { nx := fun _ H' => Q .non H', rt := Q } (start N vs) H) : FnOk P w K mg base (CXE P w) (k + 1) f fd ps sp := by
  obtain ⟨oc, od, kV, doc, pm, an, cdv, ct, osl, T, oT, n, rfl, lk, hcd, _⟩ := F.ex
  exact fn_of lk hcd S len fun A outer s H vs Q E hr hsp => hbody cdv A outer s H vs Q E hr hsp
theorem FunD.ok (F : FunD K x qual st f fd items) (S : FnScope N ps (defScope st)) (len : ∀ vs H Q E, sp vs H Q E → vs.length = ps.length)
    (hbody : ∀ (cdv : Value) (A : Around) (outer : List Env) (s : Shared) (H : Hp) (vs : List V) (Q : VK) (E : XK), Room k (A.deeper (envOfC qual (defScope st) s.heap.objs.size f cdv)) → sp vs H Q E →
      ∃ t, PSs (cxOf CX0 P w K mg base N qual (defScope st) f cdv A outer s H E).nox (defBody st) t ∧ t { nx := fun _ H' => Q .non H', rt := Q } (start N vs) H) : FnOk P w K mg base CX0 (k + 1) f fd ps sp := by
  obtain ⟨oc, od, kV, doc, pm, an, cdv, ct, osl, T, oT, n, rfl, lk, hcd, _⟩ := F.ex
  refine fn_of lk hcd S len fun A outer s H vs Q E hr hsp => ?_
  obtain ⟨t, h, q⟩ := hbody cdv A outer s H vs Q E hr hsp
  exact ⟨t, h.nox, q⟩
theorem FunD.binds {ds : List Value} (F : FunD K x qual st f fd items)
    (h : ∀ (T : Addr) (kV doc pm : Value) (an : Option Addr) (cdv ct : Value) (us : List Value), (us ++ ds).length = ps.length → ∃ k : Option (Array Value) → Sem (List (Str × Value)),
      bindArgs (PySem.W.fnOf x qual (defArgs st) (defBody st) (defScope st) (.ref T) kV doc pm an cdv ct) ⟨us, []⟩ = (seqItems? (.ref T) >>= k) ∧ k (some items) = pure (ps.zip (us ++ ds))) : Binds K fd ps ds := by
  obtain ⟨oc, od, kV, doc, pm, an, cdv, ct, osl, T, oT, n, rfl, lk, hcd, hT, hd⟩ := F.ex
  intro s us KX hl
  obtain ⟨k, h1, h2⟩ := h T kV doc pm an cdv ct us hl
  exact .of_defaults (k := k) rfl (KX _ _ hT) hd h1 h2
end
def tMethV (tab : List (Addr × Sp)) (m : Str) (ta : TE) (t : TA) : TE := fun σ H Q => ta σ H fun x H1 => ∃ a dx fs e, e ∈ tab ∧ x = .ref a ∧ H1 a = some (.ins e.1 dx fs) ∧ fs.lookup m = none ∧ t σ H1 fun vs H2 => e.2 (x :: vs) H2 Q E0
section
variable {X : Cx} {k : Nat} {ps : List Str} {tab : List (Addr × Sp)} {m : Str} {pos apos : Pos} {e o : Expr} {es : List Expr} {ta : TE} {t : TA}
end
theorem pg_pairC {X : Cx} {K : PySem.W.Frag} {scope : Scope} {cl : List (Str × Addr)} {a b : Str} {N : List Str} {C : Addr} {ex : List Addr} {s₀ : Shared} {H₀ : Hp} {k} {pa pb pos : Pos} (hK : X.K = K) (hc : Calm X) (hN : (a :: b :: N).Nodup) (la : Loc (compEnvC scope cl C X.env).scope a) (lb : Loc (compEnvC scope cl C X.env).scope b)
    (fa : (compEnvC scope cl C X.env).scope.names.lookup a = some .local) (fb : (compEnvC scope cl C X.env).scope.names.lookup b = some .local) :
    PG (cxComp X scope cl (a :: b :: N) C ex s₀ H₀) (.Tuple [.Name a pa, .Name b pb] k pos) (gTup K 2 (gCons (gName 0) (gCons (gName 1) gNil))) := by
  subst hK
  exact pg_tup (X := cxComp X scope cl (a :: b :: N) C ex s₀ H₀) (n := 2) (calm_comp hc) (pgs_cons (pg_name (i := 0) hN rfl la (.inr fa)) (pgs_cons (pg_name (i := 1) hN rfl lb (.inr fb)) pgs_nil))
theorem comp_pairs {K : PySem.W.Frag} {J : It} {H : Hp} {ts : List Addr} {u v : Addr → V} {tt : TT} {te : TE} {cs : St} {F : List V → Hp → Prop} (S : SrcIs J H (ts.map V.ref)) (ht : ∀ t ∈ ts, SqT K H t [u t, v t]) (p : Addr → Bool) (f : Addr → V)
    (htt : ∀ t ∈ ts, ∀ Q : Bool → Hp → Prop, Q (p t) H → tt (some (u t) :: some (v t) :: cs) H Q) (hte : ∀ t ∈ ts, p t = true → ∀ Q : VK, Q (f t) H → te (some (u t) :: some (v t) :: cs) H Q) (hn : ts.length ≤ sizeLine) (hF : F ((ts.filter p).map f) H) :
    ∃ W : Nat → Nat → List V → Hp → Prop, (∃ m, W 0 m [] H) ∧ CompW J (gTup K 2 (gCons (gName 0) (gCons (gName 1) gNil))) tt te (none :: none :: cs) W F := by
  refine ⟨fun i m ys H' => m = ts.length - i ∧ i ≤ ts.length ∧ H' = H ∧ ys = ((ts.take i).filter p).map f, ⟨ts.length, by simp, Nat.zero_le _, rfl, by simp⟩, ?_⟩
  rintro i m ys H' ⟨rfl, hi, rfl, rfl⟩
  have hlen : (((ts.take i).filter p).map f).length ≤ sizeLine := by
    rw [List.length_map]
    refine Nat.le_trans (List.length_filter_le _ _) ?_
    rw [List.length_take]
    omega
  by_cases hlt : i < ts.length
  · refine .inr ⟨S.go i (by rw [List.length_map]; exact hlt), fun ys' H'' => H'' = H' ∧ ys' = ((ts.take (i + 1)).filter p).map f, fun ys' H'' h => ⟨ts.length - (i + 1), by omega, rfl, hlt, h.1, h.2⟩, fun x H'' y => ?_⟩
    obtain ⟨rfl, hx⟩ := S.yld i x H'' (by rw [List.length_map]; exact hlt) y
    rw [List.getElem?_map] at hx
    obtain ⟨t, e, rfl⟩ := Option.map_eq_some_iff.mp hx
    have hm : t ∈ ts := List.mem_of_getElem? e
    have htk : ts.take (i + 1) = ts.take i ++ [t] := by
      rw [List.take_add_one, e]; rfl
    refine ⟨t, [u t, v t], rfl, ht t hm, rfl, u t, [v t], rfl, v t, [], rfl, rfl, ⟨by simp, fun j z hz => ?_⟩, ?_⟩
    · match j, hz with
      | 0, hz => cases hz
      | 1, hz => cases hz
      | (j + 2), hz => exact hz
    · refine htt t hm _ ?_
      cases hp : p t with
      | true =>
        rw [if_pos rfl]
        refine hte t hm hp _ ⟨hlen, rfl, ?_⟩
        rw [htk, List.filter_append, List.map_append]
        simp [hp]
      | false =>
        rw [if_neg (by decide)]
        refine ⟨rfl, ?_⟩
        rw [htk, List.filter_append, List.map_append]
        simp [hp]
  · have e : i = ts.length := by omega
    subst e
    refine .inl ⟨by have := S.stop; rw [List.length_map] at this; exact this, hlen, ?_⟩
    rw [List.take_length]
    exact hF
theorem hu1 {n : Nat} (h : n + 64 < cLine) : n + 1 < cLine := by omega
end L2
set_option Elab.async false
set_option linter.all false
set_option maxRecDepth 100000
namespace L2
open PySem PySem.Spec PyProof.Rows
section
variable {prog : Program} {w : World} {K : Type} [DecidableEq K] {knd : HeapKind prog w K} {A : Around} {E : Value → Shared → Prop} {s : Shared}
end
section
variable {prog : Program} {w : World} {K : Type} [DecidableEq K] {knd : HeapKind prog w K} {A : Around} {E : Value → Shared → Prop} {s : Shared}
end
theorem Paired.at1 {α β : Type} {R : α → β → Prop} : ∀ {l : List α} {m : List β}, Paired R l m → ∀ {j : Nat} {a : α}, l[j]? = some a → ∃ b, m[j]? = some b ∧ R a b
  | _, _, .cons h r, 0, _, e => by cases e; exact ⟨_, rfl, h⟩
  | _, _, .cons h r, j + 1, _, e => by
    rw [List.getElem?_cons_succ] at e
    obtain ⟨b, e1, e2⟩ := Paired.at1 r e
    exact ⟨b, by rw [List.getElem?_cons_succ]; exact e1, e2⟩
section
variable {prog : Program} {w : World} {A : Around} {E : Value → Shared → Prop} {s : Shared}
end
section
variable {X : Cx} {pins : List (Addr × Obj)} {σ : St} {H : Hp} {s : Shared} {a : Addr}
end
section
variable {prog : Program} {w : World} {d : Addr}
end
theorem hu65 {k : Nat} {A : Around} (r : Room k A) : A.units + 64 + 1 < cLine := by have := r.un; omega
end L2
set_option Elab.async false
set_option linter.all false
set_option maxRecDepth 100000
namespace L2
open PySem PySem.Spec PyProof.Rows
section
variable {X : Cx}
end
end L2
set_option Elab.async false
set_option linter.all false
set_option maxRecDepth 100000
namespace L2
open PySem PySem.Spec PyProof.Rows
section
variable {prog : Program} {w : World} {K : Type} [DecidableEq K] {knd : KeyKind prog w K} {A : Around} {R : Result → Shared → Prop}
end
section
variable {prog : Program} {w : World} {K : Type} [DecidableEq K] {knd : KeyKind prog w K} {A : Around} {E : Value → Shared → Prop} {s : Shared}
end
section
variable {X : Cx}
end
end L2
set_option Elab.async false
set_option linter.all false
set_option maxRecDepth 100000
namespace L2
open PySem PySem.Spec PyProof.Rows
end L2
set_option Elab.async false
set_option linter.all false
set_option maxRecDepth 100000
namespace L2
open PySem PySem.Spec PyProof.Rows
section
variable {X : Cx} {pins : List (Addr × Obj)} {σ : St} {H : Hp} {s : Shared} {a : Addr}
end
theorem Inv.sorted {X : Cx} {pins : List (Addr × Obj)} {σ : St} {H : Hp} {s : Shared} {h' : Heap} {tk : Nat} {a e : Nat} {out : Array Value} {ms : List Int} (I : Inv X pins σ H s) (hk : ∀ b o, s.heap.get? b = some o → h'.get? b = some o) (ha : s.heap.objs.size ≤ a)
    (hm : IntsAre out.toList ms) (hz : ms.length ≤ sizeLine) (ho : h'.get? a = some (seqObj "list" out e)) : Inv X pins σ (upd H a (.lst (ms.map V.int))) { s with heap := h', toks := tk } :=
  I.laid (t' := tk) hk ha (show ObjOk X.prog X.w _ h' _ (.lst (ms.map V.int)) from ⟨by rw [List.length_map]; exact hz, out.toList, e, vals_ints hm, by rw [ho]⟩)
section
variable {prog : Program} {w : World} {A : Around} {E : Value → Shared → Prop} {s : Shared} {K : Type} [DecidableEq K] {knd : KeyKind prog w K} {d : Addr} {kvs : List (K × Value)} {ep : Nat}
end
end L2
set_option Elab.async false
set_option linter.all false
set_option maxRecDepth 100000
namespace L2
open PySem PySem.Spec PyProof.Rows
section
variable {prog : Program} {w : World} {A : Around} {E : Value → Shared → Prop} {s : Shared} {d : Addr}
end
end L2
set_option Elab.async false
set_option linter.all false
set_option maxRecDepth 100000
namespace L2
open PySem PySem.Spec PyProof.Rows PySem.W
section
variable {n : Nat} {lt : Nat → Nat → Bool} {cmp : Nat → Nat → (Bool → Shared → Prop) → Shared → Prop} {s : Shared}
structure Ord (lt : Nat → Nat → Bool) : Prop where
  tr : ∀ i j k, lt j i = false → lt k j = false → lt k i = false
  as : ∀ i j, lt i j = true → lt j i = false
def Asks (n : Nat) (lt : Nat → Nat → Bool) (cmp : Nat → Nat → (Bool → Shared → Prop) → Shared → Prop) (s : Shared) : Prop := ∀ i j C, i < n → j < n → C (lt i j) s → cmp i j C s
theorem Ord.rf (o : Ord lt) (i : Nat) : lt i i = false := by
  cases h : lt i i with
  | false => rfl
  | true => rw [← h]; exact (o.as i i h)
def Pm (n : Nat) (p : Array Nat) : Prop := p.Perm (List.range n).toArray
abbrev Kp (p : Array Nat) (i : Nat) : Nat := p.getD i 0
theorem Pm.size {p : Array Nat} (h : Pm n p) : p.size = n := by
  have := Array.Perm.size_eq h
  simpa using this
theorem Pm.below {p : Array Nat} (h : Pm n p) (h0 : 0 < n) (i : Nat) : Kp p i < n := by
  unfold Kp
  by_cases z : i < p.size
  · have e : p.getD i 0 = p[i] := by simp [Array.getD, z]
    rw [e]
    have m : p[i] ∈ (List.range n).toArray := (Array.Perm.mem_iff h).mp (Array.getElem_mem z)
    simpa using m
  · have e : p.getD i 0 = 0 := by simp [Array.getD, z]
    rw [e]
    exact h0
theorem kp_get (p : Array Nat) (i : Nat) : Kp p i = (p[i]?).getD 0 := by
  unfold Kp
  by_cases z : i < p.size
  · simp [Array.getD, z]
  · simp [Array.getD, z]
def Up (lt : Nat → Nat → Bool) (p : Array Nat) (m : Nat) : Prop := ∀ i j, i ≤ j → j < m → lt (Kp p j) (Kp p i) = false
theorem kp_rev {p : Array Nat} {u v : Nat} (hv : v ≤ p.size) (huv : u ≤ v) (k : Nat) : Kp (kas_rev p u v) k = if u ≤ k ∧ k < v then Kp p (u + v - 1 - k) else Kp p k := by
  rw [kp_get]
  unfold kas_rev
  rw [getElem?_mirror hv _ (by omega)]
  by_cases h : u ≤ k ∧ k < v
  · rw [if_pos h]
    by_cases h2 : (u ≤ k ∧ k < u + (v - u) / 2) ∨ (v - (v - u) / 2 ≤ k ∧ k < v)
    · rw [if_pos h2, kp_get]
    · rw [if_neg h2, kp_get]
      have : u + v - 1 - k = k := by omega
      rw [this]
  · rw [if_neg h, if_neg (by omega), kp_get]
theorem Pm.rev {p : Array Nat} (h : Pm n p) (u v : Nat) : Pm n (kas_rev p u v) := Array.Perm.trans (mirror_perm _ _ _ _) h
theorem kp_bubble {p : Array Nat} {k l : Nat} (hk : k < p.size) (hl : l ≤ k) (x : Nat) : Kp (bubble p k (k - l)) x = if x = l then Kp p k else if l < x ∧ x ≤ k then Kp p (x - 1) else Kp p x := by
  rw [kp_get, getElem?_bubble hk _ (by omega), show k - (k - l) = l by omega]
  by_cases h1 : x = l
  · rw [if_pos h1, if_pos h1, kp_get]
  · rw [if_neg h1, if_neg h1]
    by_cases h2 : l < x ∧ x ≤ k
    · rw [if_pos h2, if_pos h2, kp_get]
    · rw [if_neg h2, if_neg h2, kp_get]
end
end L2
set_option Elab.async false
set_option linter.all false
namespace Hq
open PySem L2
theorem lex_irrefl : ∀ a : List Int, HT.lexLt a a = false
  | [] => rfl
  | x :: a => by rw [HT.lexLt_cons, if_pos rfl]; exact lex_irrefl a
theorem lex_asymm : ∀ {a b : List Int}, HT.lexLt a b = true → HT.lexLt b a = false
  | [], [], h => by cases h
  | [], _ :: _, _ => rfl
  | _ :: _, [], h => by cases h
  | x :: a, y :: b, h => by
    rw [HT.lexLt_cons] at h ⊢
    by_cases e : x = y
    · rw [if_pos e] at h
      rw [if_pos e.symm]
      exact lex_asymm h
    · rw [if_neg e, decide_eq_true_eq] at h
      rw [if_neg (fun z => e z.symm)]
      exact decide_eq_false (by omega)
theorem lex_total : ∀ {a b : List Int}, HT.lexLt a b = false → HT.lexLt b a = false → a = b
  | [], [], _, _ => rfl
  | [], _ :: _, h, _ => by cases h
  | _ :: _, [], _, h => by cases h
  | x :: a, y :: b, h1, h2 => by
    rw [HT.lexLt_cons] at h1 h2
    by_cases e : x = y
    · rw [if_pos e] at h1
      rw [if_pos e.symm] at h2
      rw [e, lex_total h1 h2]
    · rw [if_neg e, decide_eq_false_iff_not] at h1
      rw [if_neg (fun z => e z.symm), decide_eq_false_iff_not] at h2
      omega
def Le (a b : List Int) : Prop := HT.lexLt b a = false
theorem Le.refl (a : List Int) : Le a a := lex_irrefl a
theorem Le.of {a b : List Int} (h : HT.lexLt a b = true) : Le a b := lex_asymm h
theorem Le.trans : ∀ {a b c : List Int}, Le a b → Le b c → Le a c
  | [], _, [], _, _ => rfl
  | [], _, _ :: _, _, _ => rfl
  | _ :: _, [], _, h, _ => by cases h
  | _ :: _, _ :: _, [], _, h => by cases h
  | x :: a, y :: b, z :: c, h1, h2 => by
    unfold Le at h1 h2 ⊢
    rw [HT.lexLt_cons] at h1 h2 ⊢
    by_cases e1 : y = x <;> by_cases e2 : z = y
    · rw [if_pos e1] at h1
      rw [if_pos e2] at h2
      rw [if_pos (e2.trans e1)]
      exact Le.trans (a := a) (b := b) h1 h2
    · rw [if_neg e2, decide_eq_false_iff_not] at h2
      rw [if_neg (by omega)]
      exact decide_eq_false (by omega)
    · rw [if_neg e1, decide_eq_false_iff_not] at h1
      rw [if_neg (by omega)]
      exact decide_eq_false (by omega)
    · rw [if_neg e1, decide_eq_false_iff_not] at h1
      rw [if_neg e2, decide_eq_false_iff_not] at h2
      rw [if_neg (by omega)]
      exact decide_eq_false (by omega)
section
variable {α : Type} {k : α → List Int} {ts : List α}
def Hok (k : α → List Int) (ts : List α) : Prop := ∀ (i : Nat) (x y : α), 0 < i → ts[i]? = some x → ts[(i - 1) / 2]? = some y → Le (k y) (k x)
def swp (ts : List α) (p a : Nat) (x y : α) : List α := (ts.set p y).set a x
theorem swp_get {p a : Nat} {x y : α} (hp : p < ts.length) (ha : a < ts.length) (i : Nat) : (swp ts p a x y)[i]? = if i = a then some x else if i = p then some y else ts[i]? := by
  unfold swp
  rw [List.getElem?_set]
  by_cases e : a = i
  · subst e
    rw [if_pos rfl, if_pos rfl, if_pos (by rw [List.length_set]; exact ha)]
  · rw [if_neg e, if_neg (fun z => e z.symm), List.getElem?_set]
    by_cases e2 : p = i
    · subst e2
      rw [if_pos rfl, if_pos rfl, if_pos hp]
    · rw [if_neg e2, if_neg (fun z => e2 z.symm)]
theorem swp_len {p a : Nat} {x y : α} : (swp ts p a x y).length = ts.length := by simp [swp]
structure Lift (k : α → List Int) (ts : List α) (p : Nat) : Prop where
  up : ∀ (i : Nat) (x y : α), 0 < i → i ≠ p → ts[i]? = some x → ts[(i - 1) / 2]? = some y → Le (k y) (k x)
  gp : 0 < p → ∀ (i : Nat) (x y : α), 0 < i → (i - 1) / 2 = p → ts[i]? = some x → ts[(p - 1) / 2]? = some y → Le (k y) (k x)
theorem lt_of_get {i : Nat} {x : α} (h : ts[i]? = some x) : i < ts.length := (List.getElem?_eq_some_iff.mp h).1
theorem Lift.step {p : Nat} {x y : α} (L : Lift k ts p) (p0 : 0 < p) (hx : ts[p]? = some x) (hy : ts[(p - 1) / 2]? = some y) (h : HT.lexLt (k x) (k y) = true) : Lift k (swp ts p ((p - 1) / 2) x y) ((p - 1) / 2) := by
  have lp := lt_of_get hx
  have la := lt_of_get hy
  have ne : (p - 1) / 2 ≠ p := by omega
  have g := swp_get (x := x) (y := y) lp la
  refine ⟨fun i u v i0 ia hu hv => ?_, fun a0 i u v i0 ia hu hv => ?_⟩
  · rw [g] at hu hv
    rw [if_neg ia] at hu
    by_cases ip : i = p
    · subst ip
      rw [if_pos rfl] at hu hv
      cases hu
      cases hv
      exact Le.of h
    · rw [if_neg ip] at hu
      by_cases ja : (i - 1) / 2 = (p - 1) / 2
      · rw [if_pos ja] at hv
        cases hv
        exact Le.trans (Le.of h) (L.up i u y i0 ip hu (by rw [ja]; exact hy))
      · rw [if_neg ja] at hv
        by_cases jp : (i - 1) / 2 = p
        · rw [if_pos jp] at hv
          cases hv
          exact L.gp p0 i u _ i0 jp hu hy
        · rw [if_neg jp] at hv
          exact L.up i u v i0 ip hu hv
  · rw [g] at hu hv
    have e1 : ¬ ((p - 1) / 2 - 1) / 2 = (p - 1) / 2 := by omega
    have e2 : ¬ ((p - 1) / 2 - 1) / 2 = p := by omega
    rw [if_neg e1, if_neg e2] at hv
    have hz := L.up _ y v a0 ne hy hv
    rw [if_neg (show ¬ i = (p - 1) / 2 by omega)] at hu
    by_cases ip : i = p
    · rw [if_pos ip] at hu
      cases hu
      exact hz
    · rw [if_neg ip] at hu
      exact Le.trans hz (L.up i u y i0 ip hu (by rw [ia]; exact hy))
theorem Lift.done {p : Nat} (L : Lift k ts p) (h : p = 0 ∨ ∃ x y, ts[p]? = some x ∧ ts[(p - 1) / 2]? = some y ∧ HT.lexLt (k x) (k y) = false) : Hok k ts := by
  intro i x y i0 hx hy
  by_cases ip : i = p
  · subst ip
    rcases h with h | ⟨x', y', h1, h2, h3⟩
    · omega
    · rw [hx] at h1
      rw [hy] at h2
      cases h1
      cases h2
      exact h3
  · exact L.up i x y i0 ip hx hy
theorem Lift.start {t : α} (h : Hok k ts) : Lift k (ts ++ [t]) ts.length := by
  refine ⟨fun i x y i0 ip hx hy => ?_, fun p0 i x y i0 ip hx hy => ?_⟩
  · have li := lt_of_get hx
    rw [List.length_append, List.length_cons, List.length_nil] at li
    rw [List.getElem?_append_left (by omega)] at hx
    rw [List.getElem?_append_left (by omega)] at hy
    exact h i x y i0 hx hy
  · have li := lt_of_get hx
    rw [List.length_append, List.length_cons, List.length_nil] at li
    omega
structure Sink (k : α → List Int) (ts : List α) (p : Nat) : Prop where
  up : ∀ (i : Nat) (x y : α), 0 < i → (i - 1) / 2 ≠ p → ts[i]? = some x → ts[(i - 1) / 2]? = some y → Le (k y) (k x)
  gp : 0 < p → ∀ (i : Nat) (x y : α), 0 < i → (i - 1) / 2 = p → ts[i]? = some x → ts[(p - 1) / 2]? = some y → Le (k y) (k x)
structure Lesser (k : α → List Int) (ts : List α) (p b : Nat) : Prop where
  b0 : 0 < b
  bp : (b - 1) / 2 = p
  le : ∀ (i : Nat) (x y : α), 0 < i → (i - 1) / 2 = p → ts[i]? = some x → ts[b]? = some y → Le (k y) (k x)
theorem Sink.step {p b : Nat} {x y : α} (S : Sink k ts p) (B : Lesser k ts p b) (hx : ts[b]? = some x) (hy : ts[p]? = some y) (h : HT.lexLt (k x) (k y) = true) : Sink k (swp ts p b y x) b := by
  have lb := lt_of_get hx
  have lp := lt_of_get hy
  have b0 := B.b0
  have bp := B.bp
  have g := swp_get (x := y) (y := x) lp lb
  refine ⟨fun i u v i0 jb hu hv => ?_, fun _ i u v i0 jb hu hv => ?_⟩
  · rw [g] at hu hv
    rw [if_neg jb] at hv
    by_cases jp : (i - 1) / 2 = p
    · rw [if_pos jp] at hv
      cases hv
      by_cases ib : i = b
      · rw [if_pos ib] at hu
        cases hu
        exact Le.of h
      · rw [if_neg ib, if_neg (by omega)] at hu
        exact B.le i u _ i0 jp hu hx
    · rw [if_neg jp] at hv
      rw [if_neg (fun z => jp (by rw [z]; exact bp))] at hu
      by_cases ip : i = p
      · rw [if_pos ip] at hu
        cases hu
        subst ip
        exact S.gp i0 b _ v b0 bp hx hv
      · rw [if_neg ip] at hu
        exact S.up i u v i0 jp hu hv
  · rw [g] at hu hv
    rw [if_neg (show ¬ (b - 1) / 2 = b by omega), if_pos bp] at hv
    cases hv
    rw [if_neg (show ¬ i = b by omega), if_neg (show ¬ i = p by omega)] at hu
    exact S.up i u _ i0 (by omega) hu (by rw [jb]; exact hx)
theorem Sink.done {p : Nat} (S : Sink k ts p) (h : (∀ i, 0 < i → (i - 1) / 2 = p → ts[i]? = none) ∨ ∃ b x y, Lesser k ts p b ∧ ts[b]? = some x ∧ ts[p]? = some y ∧ HT.lexLt (k x) (k y) = false) : Hok k ts := by
  intro i x y i0 hx hy
  by_cases ip : (i - 1) / 2 = p
  · rcases h with h | ⟨b, x', y', B, h1, h2, h3⟩
    · rw [h i i0 ip] at hx
      cases hx
    · rw [ip, h2] at hy
      cases hy
      exact Le.trans h3 (B.le i x x' i0 ip hx h1)
  · exact S.up i x y i0 ip hx hy
theorem Sink.start {z : α} (h : Hok k ts) : Sink k (ts.set 0 z) 0 := by
  refine ⟨fun i x y i0 jp hx hy => ?_, fun p0 => absurd p0 (Nat.lt_irrefl _)⟩
  rw [List.getElem?_set_ne (by omega)] at hx
  rw [List.getElem?_set_ne (by omega)] at hy
  exact h i x y i0 hx hy
theorem Hok.least (h : Hok k ts) {r : α} (hr : ts[0]? = some r) : ∀ (i : Nat) (x : α), ts[i]? = some x → Le (k r) (k x) := by
  intro i
  induction i using Nat.strongRecOn with
  | _ i ih =>
    intro x hx
    by_cases i0 : 0 < i
    · have li := lt_of_get hx
      obtain ⟨y, hy⟩ : ∃ y, ts[(i - 1) / 2]? = some y := ⟨_, List.getElem?_eq_getElem (by omega)⟩
      exact Le.trans (ih _ (by omega) y hy) (h i x y i0 hx hy)
    · have : i = 0 := by omega
      subst this
      rw [hr] at hx
      cases hx
      exact Le.refl _
theorem Hok.init {t : α} (h : Hok k (ts ++ [t])) : Hok k ts := by
  intro i x y i0 hx hy
  have li := lt_of_get hx
  exact h i x y i0 (by rw [List.getElem?_append_left li]; exact hx) (by rw [List.getElem?_append_left (by omega)]; exact hy)
theorem swp_perm [DecidableEq α] {p a : Nat} {x y : α} (hx : ts[p]? = some x) (hy : ts[a]? = some y) (ne : p ≠ a) : (swp ts p a x y).Perm ts := by
  have lp := lt_of_get hx
  have la := lt_of_get hy
  rw [List.perm_iff_count]
  intro z
  unfold swp
  have la' : a < (ts.set p y).length := by rw [List.length_set]; exact la
  have e1 : ts[p] = x := (List.getElem?_eq_some_iff.mp hx).2
  have e2 : ts[a] = y := (List.getElem?_eq_some_iff.mp hy).2
  rw [List.count_set la', List.count_set lp, List.getElem_set_ne ne, e1, e2]
  have c1 : (if (x == z) = true then 1 else 0) ≤ ts.count z := by
    split
    · rename_i h
      rw [beq_iff_eq] at h
      exact List.count_pos_iff.mpr (h ▸ List.mem_of_getElem? hx)
    · exact Nat.zero_le _
  omega
end
end Hq
set_option Elab.async false
set_option linter.all false
set_option maxRecDepth 100000
namespace L2
open PySem PySem.Spec PyProof.Rows PySem.W Hq
def TupI (h : Heap) (v : Value) (k : List Int) : Prop := ∃ a o xs m, v = .ref a ∧ h.get? a = some o ∧ o.cls = .type "tuple" ∧ o.data = .seq xs m ∧ IntsAre xs.toList k
theorem TupI.keep {h h' : Heap} {v : Value} {k : List Int} (t : TupI h v k) (e : ∀ a o, h.get? a = some o → o.cls = .type "tuple" → h'.get? a = some o) : TupI h' v k := by
  obtain ⟨a, o, xs, m, h1, h2, h3, h4, h5⟩ := t
  exact ⟨a, o, xs, m, h1, e a o h2 h3, h3, h4, h5⟩
section
variable {prog : Program} {w : World} {A : Around} {E : Value → Shared → Prop} {s : Shared}
theorem lex_ok {bb : Bool} {fin : Bool} {Q : Bool → Shared → Prop} : ∀ {xs ys : List Value} {a b : List Int}, IntsAre xs a → IntsAre ys b → fin = decide (a.length < b.length) → Q (HT.lexLt a b) s → ∀ i, KatLex prog w A bb fin Q (xs.zip ys) i s
  | _, _, _, _, .nil, .nil, hf, q, i => kat_nil (by rw [hf]; exact q)
  | _, _, _, _, .nil, .cons _ _ _, hf, q, i => kat_nil (by rw [hf]; exact q)
  | _, _, _, _, .cons _ _ _, .nil, hf, q, i => kat_nil (by rw [hf]; exact q)
  | _, _, _, _, .cons x t hx, .cons y u hy, hf, q, i => by
    rw [HT.lexLt_cons] at q
    refine kat_cons (wpAny_eqBool_int ?_)
    by_cases e : x = y
    · rw [if_pos e] at q
      rw [show (x == y) = true by simpa using e]
      exact kat_yes (lex_ok hx hy (by rw [hf]; simp) q (i + 1))
    · rw [if_neg e] at q
      rw [show (x == y) = false by simpa using e]
      refine kat_no ?_
      cases (bb && i == 0) with
      | true => exact oneLt_int q
      | false => exact kat_one _ _ (lt_int q)
def Tups (h : Heap) (vs : List Value) (ks : List (List Int)) : Prop := Paired (TupI h) vs ks
theorem tups_firsts {h : Heap} : ∀ {vs : List Value} {ks : List (List Int)}, Tups h vs ks → (∀ k ∈ ks, k ≠ []) → ∃ fs : List Value, KatTups h vs fs ∧ fs.length = vs.length ∧ ∀ f ∈ fs, ∃ i t, f = .int i t
  | _, _, .nil, _ => ⟨[], .nil, rfl, by simp⟩
  | _, _, .cons ⟨a, o, xs, m, h1, h2, h3, h4, h5⟩ r, hne => by
    obtain ⟨fs, f1, f2, f3⟩ := tups_firsts r fun k hk => hne k (List.mem_cons_of_mem _ hk)
    subst h1
    obtain ⟨l⟩ := xs
    cases h5 with
    | nil => exact absurd rfl (hne _ List.mem_cons_self)
    | cons i t hr =>
      refine ⟨.int i t :: fs, .cons h2 h3 h4 rfl f1, by simp [f2], fun f hf => ?_⟩
      rcases List.mem_cons.mp hf with z | z
      · exact ⟨i, t, z⟩
      · exact f3 f z
theorem asks_tups {vs : List Value} {ks : List (List Int)} {bb : Bool} (h : Tups s.heap vs ks) : Asks vs.length (fun i j => HT.lexLt (ks.getD i []) (ks.getD j [])) (kas_ask prog w A (tuples' bb) vs) s := fun i j C hi hj q => by
  have get : ∀ i, i < vs.length → TupI s.heap (vs.getD i Value.none) (ks.getD i []) := fun i hi => by
    obtain ⟨k, e1, e2⟩ := Paired.at1 h (show vs[i]? = some vs[i] by simp [hi])
    have e3 : vs.getD i Value.none = vs[i] := by simp [hi]
    have e4 : ks.getD i [] = k := by simp [List.getD, e1]
    rw [e3, e4]
    exact e2
  unfold kas_ask
  obtain ⟨a, o, xs, m, h1, h2, h3, h4, h5⟩ := get i hi
  obtain ⟨b, o', ys, m', g1, g2, g3, g4, g5⟩ := get j hj
  rw [h1, g1]
  refine kat_lt h2 h4 g2 g4 (lex_ok h5 g5 ?_ q 0)
  have l1 := h5.length
  have l2 := g5.length
  simp only [Array.length_toList] at l1 l2
  rw [l1, l2]
theorem ord_lex (f : Nat → List Int) : Ord (fun i j => HT.lexLt (f i) (f j)) where
  tr := fun i j k h1 h2 => Le.trans (a := f i) (b := f j) (c := f k) h1 h2
  as := fun i j h => lex_asymm h
theorem range_get {α : Type} (l : List α) (d : α) : (List.range l.length).map (fun i => l.getD i d) = l := by
  apply List.ext_getElem
  · simp
  · intro i h1 h2
    simp [h2]
end
end L2
set_option Elab.async false
set_option linter.all false
set_option maxRecDepth 100000
namespace L2
open PySem PySem.Spec PyProof.Rows PySem.W Hq
theorem vals_refs : ∀ {ts : List Addr} {us : List Value}, Vals (ts.map V.ref) us → us = ts.map Value.ref
  | [], _, r => by rw [List.map_nil] at r; cases r; rfl
  | t :: ts, _, r => by
    rw [List.map_cons] at r
    cases r with
    | cons h q => rw [List.map_cons, ← vals_refs q]; cases h; rfl
theorem refs_vals : ∀ ts : List Addr, Vals (ts.map V.ref) (ts.map Value.ref)
  | [] => .nil
  | t :: ts => .cons rfl (refs_vals ts)
theorem HOk.tups {P : Program} {w : World} {H : Hp} {h : Heap} (ok : HOk P w H h) {k : Addr → List Int} : ∀ {ts : List Addr}, (∀ t ∈ ts, H t = some (.tup ((k t).map V.int))) → Tups h (ts.map Value.ref) (ts.map k)
  | [], _ => .nil
  | t :: ts, e => .cons (by
      obtain ⟨_, its, r, o, e1, e2, m, e3⟩ := (show ObjOk P w H h t (.tup ((k t).map V.int)) from ok t _ (e t List.mem_cons_self))
      exact ⟨t, o, its.toArray, m, rfl, e1, e2, e3, intsAre_of r⟩) (HOk.tups ok fun x hx => e x (List.mem_cons_of_mem _ hx))
section
variable {prog : Program} {w : World} {A : Around} {E : Value → Shared → Prop}
def StT (I l : Addr) (vs : List Value) (ks : List (List Int)) (i : Nat) (h : Heap) : Prop := h.IsListIter I l i ∧ h.IsList l vs.toArray ∧ Tups h vs ks
theorem StT.keep {I l : Addr} {vs : List Value} {ks : List (List Int)} {i : Nat} {h h' : Heap} (st : StT I l vs ks i h) (e1 : ∀ o, h.get? I = some o → h'.get? I = some o) (e2 : ∀ b o, b ≠ I → h.get? b = some o → o.cls = .type "list" ∧ b = l ∨ o.cls = .type "tuple" → h'.get? b = some o) : StT I l vs ks i h' := by
  obtain ⟨⟨o, ho, hc, hd⟩, ⟨o2, h2, c2, d2⟩, hT⟩ := st
  refine ⟨⟨o, e1 o ho, hc, hd⟩, ⟨o2, e2 l o2 (fun z => ?_) h2 (.inl ⟨c2, rfl⟩), c2, d2⟩, Paired.mapP hT fun v k t => t.keep fun a u ea ec => e2 a u (fun z => ?_) ea (.inr ec)⟩
  · rw [z, ho] at h2
    cases h2
    rw [hc] at c2
    exact absurd c2 (by decide)
  · rw [z, ho] at ea
    cases ea
    rw [hc] at ec
    exact absurd ec (by decide)
theorem minT_loop (hh : A.handled = none) (hu : A.in1.units < cLine) {I l S : Addr} {vs : List Value} {ks : List (List Int)} {R : Result → Shared → Prop} (hSI : S ≠ I) (hSl : S ≠ l) :
    ∀ (k j : Nat) (s : Shared) (vb : Value) (c : Nat), vs.length - (j + 1) = k → j + 1 ≤ vs.length → StT I l vs ks (j + 1) s.heap → vs[argBest (fun i j => HT.lexLt (ks.getD i []) (ks.getD j [])) j]? = some vb → s.heap.get? S = some { cls := .type "list", dict := none, data := .seq #[vb, vb] c, slots := #[] } →
    (∀ v h' tk, vs[argBest (fun i j => HT.lexLt (ks.getD i []) (ks.getD j [])) (vs.length - 1)]? = some v → (∀ b o, b ≠ I → b ≠ S → s.heap.get? b = some o → h'.get? b = some o) → R (.ok (.ret v)) { s with heap := h', toks := tk }) →
    codeAny (model prog w) A (.builtin "min.loop" ⟨[.ref I, .none, .ref S], []⟩) R s := by
  have hname : (toString "min" ++ toString ".loop" : String) = "min.loop" := by decide
  intro k
  induction k with
  | zero =>
    intro j s vb c hk hj st hb hS hR
    have hin : j + 1 = vs.length := by omega
    obtain ⟨hit, hl, hT⟩ := st
    refine codeAny_builtin PySem.F.entry_min_loop ?_
    rw [Around.under_plainId PySem.F.plain_min_loop _]
    refine wpAny_bind (m := seqItems? (.ref S)) (wpAny_seqItems hS rfl (wpAny_bind (m := tryCatch (pyNext (.ref I)) _) (wpAny_tryCatch (wpAny_pyNext_list_end (show A.in1.handled = none from hh) hit hl (by simp; omega) fun h' he => ?_))))
    have s2 := he S _ hSI hS
    refine wpAny_bind (m := updateSeq S (fun _ => #[])) ?_
    refine wpAny_updateSeq s2 rfl (wpAny_bind (wpAny_letGo (wpAny_pure ?_)))
    exact hR vb _ s.toks (by rw [← hin]; exact hb) fun b o b1 b2 e => (Heap.get?_update_other _ _ (Ne.symm b2)).trans (he b o b1 e)
  | succ k ih =>
    intro j s vb c hk hj st hb hS hR
    have hlt : j + 1 < vs.length := by omega
    obtain ⟨hit, hl, hT⟩ := id st
    refine codeAny_builtin PySem.F.entry_min_loop ?_
    rw [Around.under_plainId PySem.F.plain_min_loop _]
    refine wpAny_bind (m := seqItems? (.ref S)) (wpAny_seqItems hS rfl (wpAny_bind (m := tryCatch (pyNext (.ref I)) _) (wpAny_tryCatch (wpAny_pyNext_list_item hit hl (x := vs[j + 1]) (by simp [hlt]) fun h' hit' hs' => ?_))))
    have ex := hs'.extBut
    have s2 := ex S _ hSI hS
    have st2 : StT I l vs ks (j + 1 + 1) h' := by
      obtain ⟨o, ho, hc, hd⟩ := id hit
      obtain ⟨o2, h2, c2, d2⟩ := id hl
      refine ⟨hit', ⟨o2, ex l o2 (fun z => ?_) h2, c2, d2⟩, Paired.mapP hT fun v k t => t.keep fun a u ea ec => ex a u (fun z => ?_) ea⟩
      · rw [z, ho] at h2
        cases h2
        rw [hc] at c2
        exact absurd c2 (by decide)
      · rw [z, ho] at ea
        cases ea
        rw [hc] at ec
        exact absurd ec (by decide)
    have get : ∀ (i : Nat) (v : Value), vs[i]? = some v → TupI h' v (ks.getD i []) := fun i v e => by
      obtain ⟨k, e1, e2⟩ := Paired.at1 st2.2.2 e
      have e3 : ks.getD i [] = k := by simp [List.getD, e1]
      rw [e3]
      exact e2
    obtain ⟨a, o, xs, m, h1, h2, h3, h4, h5⟩ := get (j + 1) vs[j + 1] (by simp [hlt])
    obtain ⟨b, o', ys, m', g1, g2, g3, g4, g5⟩ := get _ vb hb
    show wpAny _ A.in1 (tryCatch (holding [vs[j + 1], vs[j + 1]] (richCompare .Lt vs[j + 1] vb >>= _)) _ >>= _) _ _ _
    have cmp : ∀ (Q : Value → Shared → Prop) (E : Value → Shared → Prop), Q (.bool (HT.lexLt (ks.getD (j + 1) []) (ks.getD (argBest (fun i j => HT.lexLt (ks.getD i []) (ks.getD j [])) j) []))) { s with heap := h' } → wpAny (model prog w) A.in1 (richCompare .Lt vs[j + 1] vb) Q E { s with heap := h' } := fun Q E q => by
      rw [h1, g1]
      exact HT.lt_tupInts (s := { s with heap := h' }) ⟨o, h2, h3, m, h4⟩ ⟨o', g2, g3, m', g4⟩ h5 g5 hu q
    refine wpAny_bind (wpAny_tryCatch (wpAny_holding (wpAny_bind (cmp _ _ (wpAny_bind (wpAny_holding (wpAny_truthy_bool (wpAny_bind (wpAny_letGo (wpAny_pure ?_))))))))))
    cases hbt : HT.lexLt (ks.getD (j + 1) []) (ks.getD (argBest (fun i j => HT.lexLt (ks.getD i []) (ks.getD j [])) j) []) with
    | true =>
      simp only [if_true]
      refine wpAny_bind (m := updateSeq S (fun _ => #[vs[j + 1], vs[j + 1]])) ?_
      refine wpAny_updateSeq s2 rfl (wpAny_bind (wpAny_letGo ?_))
      rw [hname]
      have up : ∀ b o, b ≠ S → h'.get? b = some o → (h'.update S (Obj.mapSeq fun _ => #[vs[j + 1], vs[j + 1]])).get? b = some o := fun b o b1 e => (Heap.get?_update_other _ _ (Ne.symm b1)).trans e
      refine wpAny_pure ⟨plainId_quiet PySem.F.plain_min_loop _, ih (j + 1) _ vs[j + 1] _ (by omega) hlt (st2.keep (fun o e => up I o (Ne.symm hSI) e) fun b o b1 e y => up b o (fun z => ?_) e) ?_ (Heap.get?_update_self _ s2 rfl) fun v h2 tk hv hk2 => hR v h2 tk hv fun b o b1 b2 e => hk2 b o b1 b2 (up b o b2 (ex b o b1 e))⟩
      · rcases y with ⟨_, y⟩ | y
        · exact hSl (z.symm.trans y)
        · rw [z, s2] at e
          cases e
          exact absurd (show Value.type "list" = Value.type "tuple" from y) (by decide)
      · simp only [argBest, hbt, if_true]
        simp [hlt]
    | false =>
      simp only [Bool.false_eq_true, if_false]
      refine wpAny_bind (wpAny_letGo ?_)
      rw [hname]
      refine wpAny_pure ⟨plainId_quiet PySem.F.plain_min_loop _, ih (j + 1) _ vb c (by omega) hlt st2 ?_ s2 fun v h2 tk hv hk2 => hR v h2 tk hv fun b o b1 b2 e => hk2 b o b1 b2 (ex b o b1 e)⟩
      simp only [argBest, hbt, Bool.false_eq_true, if_false]
      exact hb
theorem min_tups {l : Addr} {vs : List Value} {ks : List (List Int)} {s : Shared} {Q : Value → Shared → Prop} (hh : A.handled = none) (hu : A.in1.units < cLine) (hl : s.heap.IsList l vs.toArray) (hT : Tups s.heap vs ks) (hn : 0 < vs.length)
    (h : ∀ v h' tk, vs[argBest (fun i j => HT.lexLt (ks.getD i []) (ks.getD j [])) (vs.length - 1)]? = some v → (∀ b o, s.heap.get? b = some o → h'.get? b = some o) → Q v { s with heap := h', toks := tk }) :
    wpAny (model prog w) A (call (.builtin "min") [.ref l]) Q E s := by
  have hname : (toString "min" ++ toString ".loop" : String) = "min.loop" := by decide
  have ll : l < s.heap.objs.size := by obtain ⟨_, e, _⟩ := hl; exact Heap.lt_size e
  refine PySem.call_function_tree PySem.F.kind_min PySem.F.plain_min PySem.F.entry_min (PySem.F.args_min1 _) (wpAny_bind (m := Builtin.Builtins.bindParams "min" ["key", "default"] 0 ⟨[], []⟩) (wpAny_of_eq (a := [none, none]) rfl (wpAny_bind (wpAny_pure (wpAny_bind (wpAny_pyIter_list hl ?_))))))
  refine wpAny_bind (wpAny_newObj_type ?_)
  rw [hname]
  have sz : (s.heap.push { cls := .type "list_iterator", data := .fields #[.ref l, .int 0 0] }).objs.size = s.heap.objs.size + 1 := Heap.size_push ..
  have hS := Heap.get?_push_size (h := s.heap.push { cls := .type "list_iterator", data := .fields #[.ref l, .int 0 0] }) (o := { cls := .type "list", data := .seq #[] }) rfl
  have up : ∀ b o, s.heap.get? b = some o → ((s.heap.push { cls := .type "list_iterator", data := .fields #[.ref l, .int 0 0] }).push { cls := .type "list", data := .seq #[] }).get? b = some o := fun b o e => Heap.get?_push_of_some _ (Heap.get?_push_of_some _ e)
  have hI := Heap.get?_push_of_some { cls := .type "list", data := .seq #[] } (Heap.get?_push_size (h := s.heap) (o := { cls := .type "list_iterator", data := .fields #[.ref l, .int 0 0] }) rfl)
  refine wpAny_pure ⟨plainId_quiet PySem.F.plain_min_loop _, codeAny_builtin PySem.F.entry_min_loop ?_⟩
  rw [Around.under_plainId PySem.F.plain_min_loop _]
  rw [sz] at hS ⊢
  generalize ((s.heap.push { cls := .type "list_iterator", data := .fields #[.ref l, .int 0 0] }).push { cls := .type "list", data := .seq #[] }) = h1 at hS up hI ⊢
  have hl1 : h1.IsList l vs.toArray := hl.at fun o e => up l o e
  have hT1 : Tups h1 vs ks := Paired.mapP hT fun v k t => t.keep fun a o e _ => up a o e
  have hSI : s.heap.objs.size + 1 ≠ s.heap.objs.size := Nat.succ_ne_self _
  have hSl : s.heap.objs.size + 1 ≠ l := Nat.ne_of_gt (Nat.lt_succ_of_lt ll)
  refine wpAny_bind (m := seqItems? (.ref (s.heap.objs.size + 1))) (wpAny_seqItems hS rfl (wpAny_bind (m := tryCatch (pyNext (.ref s.heap.objs.size)) _) (wpAny_tryCatch (wpAny_pyNext_list_item (i := 0) ⟨_, hI, rfl, rfl⟩ hl1 (x := vs[0]) (by simp [hn]) fun h' hit' hs' => ?_))))
  have ex := hs'.extBut
  have s2 := ex _ _ hSI hS
  refine wpAny_bind (m := updateSeq (s.heap.objs.size + 1) (fun _ => #[vs[0], vs[0]])) ?_
  refine wpAny_updateSeq s2 rfl ?_
  rw [hname]
  have up2 : ∀ b o, b ≠ s.heap.objs.size + 1 → h'.get? b = some o → (h'.update (s.heap.objs.size + 1) (Obj.mapSeq fun _ => #[vs[0], vs[0]])).get? b = some o := fun b o b1 e => (Heap.get?_update_other _ _ (Ne.symm b1)).trans e
  have keep : ∀ b o, s.heap.get? b = some o → (h'.update (s.heap.objs.size + 1) (Obj.mapSeq fun _ => #[vs[0], vs[0]])).get? b = some o := fun b o e => up2 b o (Nat.ne_of_lt (Nat.lt_succ_of_lt (Heap.lt_size e))) (ex b o (Nat.ne_of_lt (Heap.lt_size e)) (up b o e))
  refine wpAny_pure ⟨plainId_quiet PySem.F.plain_min_loop _, minT_loop (I := s.heap.objs.size) (l := l) (vs := vs) (ks := ks) hh hu hSI hSl _ 0 _ vs[0] _ rfl hn ⟨?_, ?_, ?_⟩ (by simp [argBest, hn]) (Heap.get?_update_self _ s2 rfl) fun v h2 tk hv hk2 => h v h2 tk hv fun b o e => hk2 b o (Nat.ne_of_lt (Heap.lt_size e)) (Nat.ne_of_lt (Nat.lt_succ_of_lt (Heap.lt_size e))) (keep b o e)⟩
  · obtain ⟨o, ho, hc, hd⟩ := hit'
    exact ⟨o, up2 _ o (Nat.ne_of_lt (Nat.lt_succ_self _)) ho, hc, hd⟩
  · exact hl.at fun o e => keep l o e
  · exact Paired.mapP hT fun v k t => t.keep fun a o e _ => keep a o e
theorem best_ok (f : Nat → List Int) : ∀ n, argBest (fun i j => HT.lexLt (f i) (f j)) n ≤ n ∧ ∀ j, j ≤ n → Le (f (argBest (fun i j => HT.lexLt (f i) (f j)) n)) (f j)
  | 0 => ⟨Nat.le_refl _, fun j h => by obtain rfl : j = 0 := by omega
                                       exact Le.refl _⟩
  | n + 1 => by
    obtain ⟨h1, h2⟩ := best_ok f n
    simp only [argBest]
    by_cases c : HT.lexLt (f (n + 1)) (f (argBest (fun i j => HT.lexLt (f i) (f j)) n)) = true
    · rw [if_pos c]
      refine ⟨Nat.le_refl _, fun j h => ?_⟩
      by_cases e : j = n + 1
      · rw [e]; exact Le.refl _
      · exact (Le.of c).trans (h2 j (by omega))
    · rw [if_neg c]
      refine ⟨by omega, fun j h => ?_⟩
      by_cases e : j = n + 1
      · rw [e]; exact Bool.eq_false_iff.mpr c
      · exact h2 j (by omega)
end
theorem call_minT {X : Cx} (hc : X.calm = true) (hu : X.A.units + 1 < cLine) : CallR X (.builtin "min") (fun xs H Q => ∃ (p : Addr) (ts : List Addr) (k : Addr → List Int), xs = [.ref p] ∧ SqL X.K H p (ts.map V.ref) ∧ ts ≠ [] ∧ (∀ t ∈ ts, H t = some (.tup ((k t).map V.int))) ∧
    ∀ r ∈ ts, (∀ t ∈ ts, Le (k r) (k t)) → Q (.ref r) H) := by
  intro pins s σ H xs us Q I r h
  obtain ⟨p, ts, k, rfl, hq, hne, hk, q⟩ := h
  obtain ⟨u, rfl, rx⟩ := vals1 r
  cases rx
  obtain ⟨its, r', pl, hz⟩ := I.list hq
  obtain rfl := vals_refs r'
  have hn : 0 < ts.length := List.length_pos_iff.mpr hne
  refine min_tups (I.ok.hd hc) hu pl.isList (HOk.tups I.hok hk) (by rw [List.length_map]; exact hn) fun v h' tk hv hk' => ?_
  obtain ⟨b1, b2⟩ := best_ok (fun i => (ts.map k).getD i []) ((ts.map Value.ref).length - 1)
  rw [List.getElem?_map] at hv
  obtain ⟨t, ht, rfl⟩ := Option.map_eq_some_iff.mp hv
  refine ⟨.ref t, H, I.kept (t' := tk) hk', rfl, q t (List.mem_of_getElem? ht) fun x hx => ?_⟩
  obtain ⟨j, hj⟩ := List.getElem?_of_mem hx
  have lj := (List.getElem?_eq_some_iff.mp hj).1
  have e1 : (ts.map k).getD (argBest (fun i j => HT.lexLt ((ts.map k).getD i []) ((ts.map k).getD j [])) ((ts.map Value.ref).length - 1)) [] = k t := by
    rw [List.getD_eq_getElem?_getD, List.getElem?_map, ht]
    rfl
  have e2 : (ts.map k).getD j [] = k x := by
    rw [List.getD_eq_getElem?_getD, List.getElem?_map, hj]
    rfl
  have := b2 j (by rw [List.length_map]; omega)
  rw [e1, e2] at this
  exact this
end L2
set_option Elab.async false
set_option linter.all false
set_option maxRecDepth 100000
namespace L2
open PySem PySem.Spec PyProof.Rows PySem.W Hq
open PySem.SeqAt PySem.MeetsSeq
open PySem.AutoSeq1 (wpAny_loadPart')
theorem removeAt (l : Addr) (items : Array Value) (n : Nat) (x : Value) (e : Nat → Bool) (j : Nat) (hj : j < items.size) (hit : e j = true) (hz : items.size ≤ sizeLine) : ∀ (k i : Nat), j - i = k → i ≤ j → (∀ m, m < j → e m = false) →
    Meets (Builtin.«list.remove.loop» ⟨[.ref l, x, rawInt i], []⟩) (fun A R s => s.heap.get? l = some { cls := .type "list", dict := none, data := .seq items n, slots := #[] } ∧ (∀ m (hm : m < items.size), EqAt A.in1 s items[m] x (e m)) ∧
      R (.ok (.ret .none)) { s with heap := s.heap.update l (Obj.mapSeq fun xs => xs.eraseIdxIfInBounds j) }) := by
  intro k
  induction k with
  | zero =>
    intro i hk hij hno prog w A R s h
    obtain ⟨hp, g, d, tk, os⟩ := s
    obtain ⟨hl, he, h⟩ := h
    obtain rfl : i = j := by omega
    wp_walk using (wpAny_loadPart' hl)
    rw [show items[((i : Nat) : Int).toNat]? = some items[i] by simp [hj]]
    refine wpAny_bind (he i hj prog w _ _ ?_)
    rw [hit]
    have z2 : (items.eraseIdxIfInBounds i).size ≤ sizeLine + 1 := Nat.le_succ_of_le (Nat.le_trans (size_erased items i) hz)
    wp_walk using (wpAny_updateSeq hl rfl (hz := hz) (_hz' := z2)), (wpAny_loadPart' hl)
    simpa using h
  | succ k ih =>
    intro i hk hij hno prog w A R s h
    obtain ⟨hp, g, d, tk, os⟩ := s
    obtain ⟨hl, he, h⟩ := h
    have hlt : i < items.size := by omega
    wp_walk using (wpAny_loadPart' hl)
    rw [show items[((i : Nat) : Int).toNat]? = some items[i] by simp [hlt]]
    refine wpAny_bind (he i hlt prog w _ _ ?_)
    rw [hno i (by omega)]
    wp_walk
    rw [show ((i : Int) + 1) = ((i + 1 : Nat) : Int) by push_cast; rfl]
    refine ⟨plainId_quiet plain_remove_loop _, codeAny_builtin entry_remove_loop ?_⟩
    rw [Around.under_plainId plain_remove_loop _]
    exact ih (i + 1) (by omega) (by omega) hno prog w A R _ ⟨hl, he, h⟩
theorem removeAt0 (l : Addr) (items : Array Value) (n : Nat) (x : Value) (e : Nat → Bool) (j : Nat) (hj : j < items.size) (hit : e j = true) (hz : items.size ≤ sizeLine) (hno : ∀ m, m < j → e m = false) :
    Meets (Builtin.«list.remove» ⟨[.ref l, x], []⟩) (fun A R s => s.heap.get? l = some { cls := .type "list", dict := none, data := .seq items n, slots := #[] } ∧ (∀ m (hm : m < items.size), EqAt A.in1 s items[m] x (e m)) ∧
      R (.ok (.ret .none)) { s with heap := s.heap.update l (Obj.mapSeq fun xs => xs.eraseIdxIfInBounds j) }) := by
  intro prog w A R s h
  obtain ⟨hp, g, d, tk, os⟩ := s
  obtain ⟨hl, he, h⟩ := h
  wp_walk using (wpAny_loadPart' hl)
  refine ⟨plainId_quiet plain_remove_loop _, codeAny_builtin entry_remove_loop ?_⟩
  rw [Around.under_plainId plain_remove_loop _]
  exact removeAt l items n x e j hj hit hz _ 0 rfl (Nat.zero_le _) hno prog w A R _ ⟨hl, he, h⟩
def rRemT : V → List V → Hp → VK → Prop := fun x vs H Q => ∃ (l r : Addr) (ts : List Addr) (k : Addr → List Int), x = .ref l ∧ vs = [.ref r] ∧ H l = some (.lst (ts.map V.ref)) ∧ r ∈ ts ∧ (∀ t ∈ ts, H t = some (.tup ((k t).map V.int))) ∧
  ∀ (q : Addr) (us : List Addr), k q = k r → ts.Perm (q :: us) → Q .non (upd H l (.lst (us.map V.ref)))
theorem eqv_ints : ∀ (a b : List Int), PyData.eqvAll (a.map PyData.int) (b.map PyData.int) = decide (a = b)
  | [], [] => by simp [PyData.eqvAll]
  | [], _ :: _ => by simp [PyData.eqvAll]
  | _ :: _, [] => by simp [PyData.eqvAll]
  | x :: a, y :: b => by
    rw [List.map_cons, List.map_cons]
    simp only [PyData.eqvAll, PyData.eqv, eqv_ints a b]
    by_cases h1 : x = y <;> by_cases h2 : a = b <;> simp [h1, h2]
theorem erase_map {α β : Type} (f : α → β) : ∀ (l : List α) (i : Nat), (l.map f).eraseIdx i = (l.eraseIdx i).map f
  | [], _ => by simp
  | _ :: _, 0 => rfl
  | a :: l, i + 1 => by
    rw [List.map_cons, List.eraseIdx_cons_succ, List.eraseIdx_cons_succ, List.map_cons, erase_map f l i]
theorem erase_perm {α : Type} : ∀ (l : List α) (i : Nat) (h : i < l.length), l.Perm (l[i] :: l.eraseIdx i)
  | [], _, h => by simp at h
  | a :: l, 0, _ => List.Perm.refl _
  | a :: l, i + 1, h => by
    rw [List.eraseIdx_cons_succ, List.getElem_cons_succ]
    exact ((erase_perm l i (by simpa using h)).cons a).trans (List.Perm.swap ..)
theorem mt_remT {X : Cx} (hu : X.A.units + 64 + 1 < cLine) : MtM X "list.remove" rRemT := by
  intro pins s σ H x vs v us Q I rx rv h
  obtain ⟨l, r, ts, k, rfl, rfl, hH, hr, hk, q⟩ := h
  cases rx
  obtain ⟨u, rfl, ru⟩ := rv.one
  cases ru
  obtain ⟨z, its, n, r', hl, e⟩ := I.lstM hH
  obtain rfl := vals_refs r'
  have hj : ts.findIdx (fun t => decide (k t = k r)) < ts.length := List.findIdx_lt_length_of_exists ⟨r, hr, by simp⟩
  have hit : decide (k (ts.getD (ts.findIdx (fun t => decide (k t = k r))) 0) = k r) = true := by
    have := List.findIdx_getElem (xs := ts) (p := fun t => decide (k t = k r)) (w := hj)
    simpa [hj] using this
  have hno : ∀ m, m < ts.findIdx (fun t => decide (k t = k r)) → decide (k (ts.getD m 0) = k r) = false := fun m hm => by
    have := List.not_of_lt_findIdx hm
    have lm : m < ts.length := by omega
    simpa [lm] using this
  refine call_meets PySem.F.slot_list_remove ⟨_, e, rfl⟩ PySem.F.entry_list_remove (PySem.F.args_list_remove_2 _ _) (removeAt0 l _ n (.ref r) (fun m => decide (k (ts.getD m 0) = k r)) _ (by simpa using hj) hit (by simpa using z) hno) ⟨e, fun m hm => ?_, ?_⟩
  · have lm : m < ts.length := by simpa using hm
    have em : (ts.map Value.ref).toArray[m] = .ref ts[m] := by simp
    have eg : ts.getD m 0 = ts[m] := by simp [lm]
    rw [em, eg]
    by_cases same : ts[m] = r
    · rw [same, decide_eq_true rfl]
      exact .same _
    · refine .of_refs same fun prog w E Q hq => ?_
      obtain ⟨as, ra⟩ := (den_intsT (K := X.K) (SqT.of (hk _ (List.getElem_mem lm)))).reads I (u := .ref ts[m]) rfl
      obtain ⟨bs, rb⟩ := (den_intsT (K := X.K) (SqT.of (hk r hr))).reads I (u := .ref r) rfl
      refine eq_dataH ra rb (shaped_intsT _) (shaped_intsT _) (by show X.A.units + 1 + 64 < cLine; omega) ?_
      simp only [PyData.eqv, eqv_ints]
      exact hq
  · refine ⟨.non, _, I.lset (its' := (ts.eraseIdx (ts.findIdx (fun t => decide (k t = k r)))).map Value.ref) hH e ?_ (refs_vals _) ?_, rfl, q ts[ts.findIdx (fun t => decide (k t = k r))] _ ?_ ?_⟩
    · show (ts.map Value.ref).toArray.eraseIdxIfInBounds _ = _
      rw [List.eraseIdxIfInBounds_toArray]
      congr 1
      exact erase_map _ _ _
    · rw [List.length_map]
      have := List.length_eraseIdx_le (l := ts) (i := ts.findIdx (fun t => decide (k t = k r)))
      rw [List.length_map] at z
      omega
    · have := List.findIdx_getElem (xs := ts) (p := fun t => decide (k t = k r)) (w := hj)
      exact of_decide_eq_true this
    · exact erase_perm ts _ hj
def tRevL (K : PySem.W.Frag) (te : TE) : TE := fun σ H Q => te σ H fun x H1 => ∃ a xs, x = .ref a ∧ SqL K H1 a xs ∧ ∀ p, H1 p = none → Q (.ref p) (upd H1 p (.lst xs.reverse))
end L2
set_option Elab.async false
set_option linter.all false
set_option maxRecDepth 100000
namespace L2
open PySem PySem.Spec PyProof.Rows PySem.W
section
variable {M : Model} {A : Around} {E : Value → Shared → Prop} {σ : Type} {s : Shared}
theorem kasC_for {β : Type} {a b : Nat} {c : β} {f : Nat → β → StateT σ Sem (ForInStep β)} {Q : β → σ → Shared → Prop} {st : σ} (J : Nat → β → σ → Prop) (F : β → σ → Prop) (h0 : J 0 c st)
    (hs : ∀ k x c st, k < b - a → J k c st → kasC M A E (f x c) (fun r st' s' => s' = s ∧ (match r with | .done c' => F c' st' | .yield c' => J (k + 1) c' st')) st s) (hd : ∀ c st, J (b - a) c st → F c st) (hq : ∀ c st, F c st → Q c st s) : kasC M A E (forIn [a:b] c f) Q st s := by
  refine kasC_range ?_
  have go : ∀ (k : Nat) (l : List Nat) (c : β) (st : σ), k + l.length = b - a → J k c st → kasC M A E (forIn l c f) Q st s := by
    intro k l
    induction l generalizing k with
    | nil =>
      intro c st hl j
      refine kasC_nil (hq c st (hd c st ?_))
      have : k = b - a := by simpa using hl
      rw [← this]
      exact j
    | cons x l ih =>
      intro c st hl j
      have hl' : k + 1 + l.length = b - a := by simp at hl; omega
      refine kasC_cons (wpAny_mono (hs k x c st (by omega) j) (fun r s' h => ?_) fun _ _ e => e)
      obtain ⟨r, st'⟩ := r
      obtain ⟨rfl, h⟩ := h
      cases r with
      | done c' => exact hq c' st' h
      | yield c' => exact ih (k + 1) c' st' hl' h
  exact go 0 _ c st (by simp) h0
end
section
variable {prog : Program} {w : World} {A : Around} {E : Value → Shared → Prop} {κ : SortKind} {it : Array Keyed} {n : Nat} {lt : Nat → Nat → Bool} {s : Shared} {st : SortSt}
theorem qlt {i j : Nat} {Q : Option Bool → SortSt → Shared → Prop} (hc : Asks n lt (kas_cmp prog w A κ it) s) (hk : kindOf st = κ) (hi : i < n) (hj : j < n) (h : Q (some (lt i j)) st s) : kasC (model prog w) A E (lt' (kas_item it i) (kas_item it j)) Q st s := by
  rw [lt'_eq]
  refine kasC_bind (kasC_get ?_)
  have hw := hc i j (fun c s' => c = lt i j ∧ s' = s) hi hj ⟨rfl, rfl⟩
  unfold kas_cmp at hw
  rw [← hk] at hw
  refine kasC_bind (kasC_lift (wpAny_attempt (wpAny_mono hw (fun c s' hc => ?_) fun _ _ hF => hF.elim)))
  obtain ⟨rfl, rfl⟩ := hc
  exact kasC_pure h
theorem qelem {arr : Array Keyed} {i : Nat} {x : Keyed} {Q : Keyed → SortSt → Shared → Prop} (e : arr[i]? = some x) (h : Q x st s) : kasC (model prog w) A E (elem' arr i) Q st s := by
  rw [elem'_eq, e]
  exact kasC_pure h
def gallop' : Bool → Keyed → Array Keyed → Nat → Nat → Nat → StateT SortSt Sem (Option Nat) := sortPriv% PySem.Builtin.gallop
def byG (left : Bool) (lt : Nat → Nat → Bool) (k : Nat) (g : Nat → Nat) (i : Nat) : Bool := if left = true then lt (g i) k else !(lt k (g i))
theorem qbeyond {left : Bool} {k base i : Nat} {g : Nat → Nat} {arr : Array Keyed} {Q : Option Bool → SortSt → Shared → Prop} (hc : Asks n lt (kas_cmp prog w A κ it) s) (hk : kindOf st = κ) (e : arr[base + i]? = some (kas_item it (g i))) (gi : g i < n) (kn : k < n) (q : Q (some (byG left lt k g i)) st s) :
    kasC (model prog w) A E (elem' arr (base + i) >>= fun x => if left = true then lt' x (kas_item it k) else (lt' (kas_item it k) x >>= fun r => pure (Option.map (fun x => !x) r))) Q st s := by
  refine kasC_bind (qelem e ?_)
  unfold byG at q
  cases left with
  | true => rw [if_pos rfl] at q ⊢; exact qlt hc hk gi kn q
  | false => rw [if_neg (by decide)] at q ⊢; exact kasC_bind (qlt hc hk kn gi (kasC_pure q))
theorem gallop_ok {left : Bool} {k base m h : Nat} {g : Nat → Nat} {arr : Array Keyed} {Q : Option Nat → SortSt → Shared → Prop} (hc : Asks n lt (kas_cmp prog w A κ it) s) (hk : kindOf st = κ) (ha : ∀ i, i < m → arr[base + i]? = some (kas_item it (g i))) (hg : ∀ i, i < m → g i < n) (kn : k < n)
    (mono : ∀ i j, i ≤ j → j < m → byG left lt k g j = true → byG left lt k g i = true) (hm : h < m) (q : ∀ r, r ≤ m → (∀ i, i < r → byG left lt k g i = true) → (∀ i, r ≤ i → i < m → byG left lt k g i = false) → Q (some r) st s) :
    kasC (model prog w) A E (gallop' left (kas_item it k) arr base m h) Q st s := by
  have one : ∀ {i : Nat} {Q : Option Bool → SortSt → Shared → Prop}, i < m → Q (some (byG left lt k g i)) st s → kasC (model prog w) A E (elem' arr (base + i) >>= fun x => if left = true then lt' x (kas_item it k) else (lt' (kas_item it k) x >>= fun r => pure (Option.map (fun x => !x) r))) Q st s :=
    fun hi q => qbeyond hc hk (ha _ hi) (hg _ hi) kn q
  unfold gallop'
  k_delta "gallop"
  refine kasC_bind (one hm ?_)
  dsimp only
  cases e0 : byG left lt k g h with
  | true =>
    rw [if_pos rfl]
    refine kasC_bind (kasC_for (fun t c st' => st' = st ∧ c.1 = none ∧ c.2.1 < c.2.2 ∧ t < c.2.2 ∧ h + c.2.1 < m ∧ byG left lt k g (h + c.2.1) = true) (fun c st' => st' = st ∧ c.1 = none ∧ c.2.1 < c.2.2 ∧ h + c.2.1 < m ∧ byG left lt k g (h + c.2.1) = true ∧ (m - h ≤ c.2.2 ∨ byG left lt k g (h + c.2.2) = false)) ⟨rfl, rfl, by decide, by decide, hm, e0⟩ ?_ ?_ ?_)
    · rintro t x ⟨r, l, u⟩ st' ht ⟨rfl, rfl, g1, g2, g3, g4⟩
      dsimp only at g1 g2 g3 g4 ⊢
      by_cases z : u ≥ m - h
      · rw [if_pos z]
        exact kasC_pure ⟨rfl, rfl, rfl, g1, g3, g4, .inl z⟩
      · rw [if_neg z]
        refine kasC_bind (one (i := h + u) (by (try dsimp only at *); omega) ?_)
        cases e : byG left lt k g (h + u) with
        | true =>
          exact kasC_pure ⟨rfl, rfl, rfl, by (try dsimp only at *); omega, by (try dsimp only at *); omega, by (try dsimp only at *); omega, e⟩
        | false =>
          exact kasC_pure ⟨rfl, rfl, rfl, g1, g3, g4, .inr e⟩
    · rintro ⟨r, l, u⟩ st' ⟨rfl, rfl, g1, g2, g3, g4⟩
      exact ⟨rfl, rfl, g1, g3, g4, .inl (by (try dsimp only at *); omega)⟩
    · rintro ⟨r, l, u⟩ st' ⟨rfl, rfl, g1, g3, g4, g5⟩
      dsimp only at g1 g3 g4 g5 ⊢
      have b1 : h + l + 1 = 0 ∨ byG left lt k g (h + l + 1 - 1) = true := .inr (by rw [Nat.add_sub_cancel]; exact g4)
      have b2 : h + min u (m - h) = m ∨ byG left lt k g (h + min u (m - h)) = false := by
        by_cases z : m - h ≤ u
        · exact .inl (by omega)
        · rcases g5 with y | y
          · exact absurd y z
          · exact .inr (by rw [show min u (m - h) = u by omega]; exact y)
      have b3 : h + l + 1 ≤ h + min u (m - h) := by omega
      have b4 : h + min u (m - h) ≤ m := by omega
      refine kasC_bind (kasC_for (fun t c st'' => st'' = st' ∧ c.1 = none ∧ (c.2.1 = 0 ∨ byG left lt k g (c.2.1 - 1) = true) ∧ (c.2.2 = m ∨ byG left lt k g c.2.2 = false) ∧ c.2.1 ≤ c.2.2 ∧ c.2.2 ≤ m ∧ (c.2.2 - c.2.1 + t ≤ m)) (fun c st'' => st'' = st' ∧ c.1 = none ∧ (c.2.1 = 0 ∨ byG left lt k g (c.2.1 - 1) = true) ∧ (c.2.2 = m ∨ byG left lt k g c.2.2 = false) ∧ c.2.1 = c.2.2 ∧ c.2.2 ≤ m) ⟨rfl, rfl, b1, b2, b3, b4, by dsimp only; omega⟩ ?_ ?_ ?_)
      · rintro t x ⟨r, l, u⟩ st2 ht ⟨rfl, rfl, f1, f2, f3, f4, f5⟩
        dsimp only at f1 f2 f3 f4 f5 ⊢
        by_cases z : l ≥ u
        · rw [if_pos z]
          exact kasC_pure ⟨rfl, rfl, rfl, f1, f2, by dsimp only; omega, f4⟩
        · rw [if_neg z]
          refine kasC_bind (one (i := l + (u - l) / 2) (by omega) ?_)
          cases e : byG left lt k g (l + (u - l) / 2) with
          | true =>
            dsimp only
            rw [if_pos rfl]
            exact kasC_pure ⟨rfl, rfl, rfl, .inr (by dsimp only; rw [Nat.add_sub_cancel]; exact e), f2, by dsimp only; omega, f4, by dsimp only; omega⟩
          | false =>
            dsimp only
            rw [if_neg (by decide)]
            exact kasC_pure ⟨rfl, rfl, rfl, f1, .inr e, by dsimp only; omega, by dsimp only; omega, by dsimp only; omega⟩
      · rintro ⟨r, l, u⟩ st2 ⟨rfl, rfl, f1, f2, f3, f4, f5⟩
        exact ⟨rfl, rfl, f1, f2, by (try dsimp only at *); omega, f4⟩
      · rintro ⟨r, l, u⟩ st2 ⟨rfl, rfl, f1, f2, f3, f4⟩
        dsimp only at f1 f2 f3 f4 ⊢
        subst f3
        refine kasC_pure (q l f4 (fun i hi => ?_) fun i hi hi2 => ?_)
        · rcases f1 with z | z
          · omega
          · exact mono i (l - 1) (by omega) (by omega) z
        · rcases f2 with z | z
          · omega
          · cases e : byG left lt k g i with
            | false => rfl
            | true => rw [mono l i hi hi2 e] at z; cases z
  | false =>
    rw [if_neg (by decide)]
    refine kasC_bind (kasC_for (fun t c st' => st' = st ∧ c.1 = none ∧ c.2.1 < c.2.2 ∧ t < c.2.2 ∧ c.2.1 ≤ h ∧ byG left lt k g (h - c.2.1) = false) (fun c st' => st' = st ∧ c.1 = none ∧ c.2.1 < c.2.2 ∧ c.2.1 ≤ h ∧ byG left lt k g (h - c.2.1) = false ∧ (h + 1 ≤ c.2.2 ∨ byG left lt k g (h - c.2.2) = true)) ⟨rfl, rfl, by decide, by decide, Nat.zero_le _, e0⟩ ?_ ?_ ?_)
    · rintro t x ⟨r, l, u⟩ st' ht ⟨rfl, rfl, g1, g2, g3, g4⟩
      dsimp only at g1 g2 g3 g4 ⊢
      by_cases z : u ≥ h + 1
      · rw [if_pos z]
        exact kasC_pure ⟨rfl, rfl, rfl, g1, g3, g4, .inl z⟩
      · rw [if_neg z]
        refine kasC_bind (one (i := h - u) (by (try dsimp only at *); omega) ?_)
        cases e : byG left lt k g (h - u) with
        | true =>
          exact kasC_pure ⟨rfl, rfl, rfl, g1, g3, g4, .inr e⟩
        | false =>
          exact kasC_pure ⟨rfl, rfl, rfl, by (try dsimp only at *); omega, by (try dsimp only at *); omega, by (try dsimp only at *); omega, e⟩
    · rintro ⟨r, l, u⟩ st' ⟨rfl, rfl, g1, g2, g3, g4⟩
      exact ⟨rfl, rfl, g1, g3, g4, .inl (by (try dsimp only at *); omega)⟩
    · rintro ⟨r, l, u⟩ st' ⟨rfl, rfl, g1, g3, g4, g5⟩
      dsimp only at g1 g3 g4 g5 ⊢
      have b1 : h + 1 - min u (h + 1) = 0 ∨ byG left lt k g (h + 1 - min u (h + 1) - 1) = true := by
        by_cases z : h + 1 ≤ u
        · exact .inl (by omega)
        · rcases g5 with y | y
          · exact absurd y z
          · exact .inr (by rw [show h + 1 - min u (h + 1) - 1 = h - u by omega]; exact y)
      have b2 : h - l = m ∨ byG left lt k g (h - l) = false := .inr g4
      have b3 : h + 1 - min u (h + 1) ≤ h - l := by omega
      have b4 : h - l ≤ m := by omega
      refine kasC_bind (kasC_for (fun t c st'' => st'' = st' ∧ c.1 = none ∧ (c.2.1 = 0 ∨ byG left lt k g (c.2.1 - 1) = true) ∧ (c.2.2 = m ∨ byG left lt k g c.2.2 = false) ∧ c.2.1 ≤ c.2.2 ∧ c.2.2 ≤ m ∧ (c.2.2 - c.2.1 + t ≤ m)) (fun c st'' => st'' = st' ∧ c.1 = none ∧ (c.2.1 = 0 ∨ byG left lt k g (c.2.1 - 1) = true) ∧ (c.2.2 = m ∨ byG left lt k g c.2.2 = false) ∧ c.2.1 = c.2.2 ∧ c.2.2 ≤ m) ⟨rfl, rfl, b1, b2, b3, b4, by dsimp only; omega⟩ ?_ ?_ ?_)
      · rintro t x ⟨r, l, u⟩ st2 ht ⟨rfl, rfl, f1, f2, f3, f4, f5⟩
        dsimp only at f1 f2 f3 f4 f5 ⊢
        by_cases z : l ≥ u
        · rw [if_pos z]
          exact kasC_pure ⟨rfl, rfl, rfl, f1, f2, by dsimp only; omega, f4⟩
        · rw [if_neg z]
          refine kasC_bind (one (i := l + (u - l) / 2) (by omega) ?_)
          cases e : byG left lt k g (l + (u - l) / 2) with
          | true =>
            dsimp only
            rw [if_pos rfl]
            exact kasC_pure ⟨rfl, rfl, rfl, .inr (by dsimp only; rw [Nat.add_sub_cancel]; exact e), f2, by dsimp only; omega, f4, by dsimp only; omega⟩
          | false =>
            dsimp only
            rw [if_neg (by decide)]
            exact kasC_pure ⟨rfl, rfl, rfl, f1, .inr e, by dsimp only; omega, by dsimp only; omega, by dsimp only; omega⟩
      · rintro ⟨r, l, u⟩ st2 ⟨rfl, rfl, f1, f2, f3, f4, f5⟩
        exact ⟨rfl, rfl, f1, f2, by (try dsimp only at *); omega, f4⟩
      · rintro ⟨r, l, u⟩ st2 ⟨rfl, rfl, f1, f2, f3, f4⟩
        dsimp only at f1 f2 f3 f4 ⊢
        subst f3
        refine kasC_pure (q l f4 (fun i hi => ?_) fun i hi hi2 => ?_)
        · rcases f1 with z | z
          · omega
          · exact mono i (l - 1) (by omega) (by omega) z
        · rcases f2 with z | z
          · omega
          · cases e : byG left lt k g i with
            | false => rfl
            | true => rw [mono l i hi hi2 e] at z; cases z
end
end L2
set_option Elab.async false
set_option linter.all false
set_option maxRecDepth 100000
namespace L2
section
variable {lt : Nat → Nat → Bool} {u v o : List Nat} {ia ib : Nat}
def Srt (lt : Nat → Nat → Bool) (l : List Nat) : Prop := l.Pairwise fun x y => lt y x = false
structure MI (lt : Nat → Nat → Bool) (u v o : List Nat) (ia ib : Nat) : Prop where
  pm : o.Perm (u.take ia ++ v.take ib)
  sr : Srt lt o
  ru : ∀ x ∈ o, ∀ y ∈ u.drop ia, lt y x = false
  rv : ∀ x ∈ o, ∀ y ∈ v.drop ib, lt y x = false
theorem drop_get {l : List Nat} {i x : Nat} (h : l[i]? = some x) : l.drop i = x :: l.drop (i + 1) := by
  obtain ⟨h1, h2⟩ := List.getElem?_eq_some_iff.mp h
  rw [← h2]
  exact List.drop_eq_getElem_cons h1
theorem take_get {l : List Nat} {i x : Nat} (h : l[i]? = some x) : l.take (i + 1) = l.take i ++ [x] := by
  rw [List.take_add_one, h]
  rfl
theorem Srt.snoc {l : List Nat} {x : Nat} (h : Srt lt l) (hx : ∀ y ∈ l, lt x y = false) : Srt lt (l ++ [x]) := by
  refine List.pairwise_append.mpr ⟨h, List.pairwise_singleton _ _, fun y hy z hz => ?_⟩
  rw [List.mem_singleton.mp hz]
  exact hx y hy
theorem Srt.drop {l : List Nat} (h : Srt lt l) (i : Nat) : Srt lt (l.drop i) := List.Pairwise.sublist (List.drop_sublist _ _) h
theorem Srt.head {l : List Nat} {i x : Nat} (h : Srt lt l) (hx : l[i]? = some x) (rf : lt x x = false) : ∀ y ∈ l.drop i, lt y x = false := fun y hy => by
  have := h.drop i
  rw [drop_get hx] at this hy
  rcases List.mem_cons.mp hy with z | z
  · rw [z]; exact rf
  · exact (List.pairwise_cons.mp this).1 y z
theorem MI.takeV {y : Nat} (m : MI lt u v o ia ib) (sv : Srt lt v) (hy : v[ib]? = some y) (rf : lt y y = false) (h : ∀ z ∈ u.drop ia, lt z y = false) : MI lt u v (o ++ [y]) ia (ib + 1) := by
  have hd := drop_get hy
  have my : y ∈ v.drop ib := by rw [hd]; exact List.mem_cons_self
  refine ⟨?_, m.sr.snoc fun x hx => m.rv x hx y my, fun x hx z hz => ?_, fun x hx z hz => ?_⟩
  · rw [take_get hy, ← List.append_assoc]
    exact m.pm.append_right _
  · rcases List.mem_append.mp hx with w | w
    · exact m.ru x w z hz
    · rw [List.mem_singleton.mp w]; exact h z hz
  · have mz : z ∈ v.drop ib := by rw [hd]; exact List.mem_cons_of_mem _ hz
    rcases List.mem_append.mp hx with w | w
    · exact m.rv x w z mz
    · rw [List.mem_singleton.mp w]; exact sv.head hy rf z mz
theorem MI.takeU {y : Nat} (m : MI lt u v o ia ib) (su : Srt lt u) (hy : u[ia]? = some y) (rf : lt y y = false) (h : ∀ z ∈ v.drop ib, lt z y = false) : MI lt u v (o ++ [y]) (ia + 1) ib := by
  have hd := drop_get hy
  have my : y ∈ u.drop ia := by rw [hd]; exact List.mem_cons_self
  refine ⟨?_, m.sr.snoc fun x hx => m.ru x hx y my, fun x hx z hz => ?_, fun x hx z hz => ?_⟩
  · rw [take_get hy, List.append_assoc]
    refine (m.pm.append_right [y]).trans ?_
    rw [List.append_assoc]
    exact List.Perm.append_left _ List.perm_append_comm
  · have mz : z ∈ u.drop ia := by rw [hd]; exact List.mem_cons_of_mem _ hz
    rcases List.mem_append.mp hx with w | w
    · exact m.ru x w z mz
    · rw [List.mem_singleton.mp w]; exact su.head hy rf z mz
  · rcases List.mem_append.mp hx with w | w
    · exact m.rv x w z hz
    · rw [List.mem_singleton.mp w]; exact h z hz
theorem MI.takeUs (su : Srt lt u) (rf : ∀ x, lt x x = false) : ∀ (k : Nat) {o : List Nat} {ia : Nat}, MI lt u v o ia ib → ia + k ≤ u.length → (∀ i, ia ≤ i → i < ia + k → ∀ x, u[i]? = some x → ∀ z ∈ v.drop ib, lt z x = false) → MI lt u v (o ++ (u.drop ia).take k) (ia + k) ib
  | 0, o, ia, m, _, _ => by rw [List.take_zero, List.append_nil]; exact m
  | k + 1, o, ia, m, hl, h => by
    obtain ⟨x, hx⟩ : ∃ x, u[ia]? = some x := ⟨_, List.getElem?_eq_getElem (by omega)⟩
    have := MI.takeUs su rf k (m.takeU su hx (rf x) (h ia (Nat.le_refl _) (by omega) x hx)) (by omega) fun i h1 h2 => h i (by omega) (by omega)
    rw [drop_get hx, List.take_succ_cons, show ia + (k + 1) = ia + 1 + k by omega, show o ++ x :: (u.drop (ia + 1)).take k = o ++ [x] ++ (u.drop (ia + 1)).take k by simp]
    exact this
theorem MI.takeVs (sv : Srt lt v) (rf : ∀ x, lt x x = false) : ∀ (k : Nat) {o : List Nat} {ib : Nat}, MI lt u v o ia ib → ib + k ≤ v.length → (∀ i, ib ≤ i → i < ib + k → ∀ x, v[i]? = some x → ∀ z ∈ u.drop ia, lt z x = false) → MI lt u v (o ++ (v.drop ib).take k) ia (ib + k)
  | 0, o, ib, m, _, _ => by rw [List.take_zero, List.append_nil]; exact m
  | k + 1, o, ib, m, hl, h => by
    obtain ⟨x, hx⟩ : ∃ x, v[ib]? = some x := ⟨_, List.getElem?_eq_getElem (by omega)⟩
    have := MI.takeVs sv rf k (m.takeV sv hx (rf x) (h ib (Nat.le_refl _) (by omega) x hx)) (by omega) fun i h1 h2 => h i (by omega) (by omega)
    rw [drop_get hx, List.take_succ_cons, show ib + (k + 1) = ib + 1 + k by omega, show o ++ x :: (v.drop (ib + 1)).take k = o ++ [x] ++ (v.drop (ib + 1)).take k by simp]
    exact this
def Merged (lt : Nat → Nat → Bool) (u v r : List Nat) : Prop := r.Perm (u ++ v) ∧ Srt lt r
theorem MI.all (m : MI lt u v o ia ib) (hu : u.length ≤ ia) (hv : v.length ≤ ib) : Merged lt u v o := by
  have := m.pm
  rw [List.take_of_length_le hu, List.take_of_length_le hv] at this
  exact ⟨this, m.sr⟩
theorem MI.finU (m : MI lt u v o ia ib) (su : Srt lt u) (rf : ∀ x, lt x x = false) (hv : v.length ≤ ib) (hu : ia ≤ u.length) : Merged lt u v (o ++ u.drop ia ++ v.drop ib) := by
  have e : v.drop ib = [] := List.drop_of_length_le hv
  have := MI.takeUs su rf (u.length - ia) m (by omega) fun i _ _ x _ z hz => by rw [e] at hz; cases hz
  rw [e, List.append_nil]
  rw [List.take_of_length_le (by rw [List.length_drop]; exact Nat.le_refl _)] at this
  exact this.all (by omega) hv
theorem MI.finV (m : MI lt u v o ia ib) (su : Srt lt u) (sv : Srt lt v) (rf : ∀ x, lt x x = false) (hv : ib ≤ v.length) (hu : ia ≤ u.length) (h : ∀ x ∈ v.drop ib, ∀ z ∈ u.drop ia, lt z x = false) : Merged lt u v (o ++ v.drop ib ++ u.drop ia) := by
  have m1 := MI.takeVs sv rf (v.length - ib) m (by omega) fun i h1 h2 x hx z hz => h x (List.mem_of_getElem? (by rw [List.getElem?_drop]; rw [show ib + (i - ib) = i by omega]; exact hx)) z hz
  rw [List.take_of_length_le (by rw [List.length_drop]; exact Nat.le_refl _)] at m1
  have m2 := m1.finU su rf (by omega) hu
  rw [List.drop_of_length_le (show v.length ≤ ib + (v.length - ib) by omega), List.append_nil] at m2
  exact m2
end
end L2
set_option Elab.async false
set_option linter.all false
set_option maxRecDepth 100000
namespace L2
open PySem PySem.Spec PyProof.Rows PySem.W
def mergeLo' : Array Keyed → Array Keyed → StateT SortSt Sem (Array Keyed) := sortPriv% PySem.Builtin.mergeLo
def setMinGallop' : Nat → StateT SortSt Sem Unit := sortPriv% PySem.Builtin.setMinGallop
abbrev setG (st : SortSt) (g : Nat) : SortSt := SortSt.mk' (kindOf st) (arrOf st) (pendingOf st) g (failedOf st)
abbrev its (it : Array Keyed) (l : List Nat) : Array Keyed := (l.map (kas_item it)).toArray
section
variable {it : Array Keyed} {o l : List Nat}
theorem its_get {i x : Nat} (h : l[i]? = some x) : (its it l)[i]? = some (kas_item it x) := by simp [its, h]
theorem its_push {y : Nat} : (its it o).push (kas_item it y) = its it (o ++ [y]) := by simp [its]
theorem its_size : (its it l).size = l.length := by simp [its]
theorem its_ext {i j : Nat} : its it o ++ (its it l).extract i j = its it (o ++ (l.drop i).take (j - i)) := by simp [its, List.map_take, List.map_drop]
theorem its_rest {i : Nat} : its it o ++ (its it l).extract i (its it l).size = its it (o ++ l.drop i) := by
  rw [its_ext, its_size, List.take_of_length_le (by rw [List.length_drop]; exact Nat.le_refl _)]
end
section
variable {prog : Program} {w : World} {A : Around} {E : Value → Shared → Prop} {κ : SortKind} {it : Array Keyed} {n : Nat} {lt : Nat → Nat → Bool} {s : Shared} {st : SortSt}
theorem qset {g : Nat} {Q : Unit → SortSt → Shared → Prop} (h : Q () (setG st g) s) : kasC (model prog w) A E (setMinGallop' g) Q st s := by
  unfold setMinGallop'
  k_delta "setMinGallop"
  exact kasC_modify h
def Mid (lt : Nat → Nat → Bool) (u v : List Nat) (it : Array Keyed) (out : Array Keyed) (ia ib : Nat) : Prop := ∃ o, out = its it o ∧ MI lt u v o ia ib ∧ ia + 1 < u.length ∧ ib < v.length
def Res (lt : Nat → Nat → Bool) (u v : List Nat) (it : Array Keyed) (r : Option (Array Keyed)) : Prop := ∃ l, r = some (its it l) ∧ Merged lt u v l
theorem mergeLo_ok {u v : List Nat} {Q : Array Keyed → SortSt → Shared → Prop} (hc : Asks n lt (kas_cmp prog w A κ it) s) (od : Ord lt) (hk : kindOf st = κ) (hu : ∀ x ∈ u, x < n) (hv : ∀ x ∈ v, x < n) (su : Srt lt u) (sv : Srt lt v) (u1 : 0 < u.length) (v1 : 0 < v.length)
    (first : ∀ y x, v[0]? = some y → u[0]? = some x → lt y x = true) (last : ∀ y ∈ v, ∀ x, u[u.length - 1]? = some x → lt y x = true) (q : ∀ r g, Merged lt u v r → Q (its it r) (setG st g) s) : kasC (model prog w) A E (mergeLo' (its it u) (its it v)) Q st s := by
  have rf := od.rf
  obtain ⟨y0, hy0⟩ : ∃ y, v[0]? = some y := ⟨_, List.getElem?_eq_getElem v1⟩
  obtain ⟨x0, hx0⟩ : ∃ x, u[0]? = some x := ⟨_, List.getElem?_eq_getElem u1⟩
  obtain ⟨xl, hxl⟩ : ∃ x, u[u.length - 1]? = some x := ⟨_, List.getElem?_eq_getElem (by omega)⟩
  have upu : ∀ {i j x z}, u[i]? = some x → i ≤ j → u[j]? = some z → lt z x = false := fun {i j x z} hx hij hz =>
    su.head hx (rf x) z (List.mem_of_getElem? (i := j - i) (by rw [List.getElem?_drop, show i + (j - i) = j by omega]; exact hz))
  have upv : ∀ {i j x z}, v[i]? = some x → i ≤ j → v[j]? = some z → lt z x = false := fun {i j x z} hx hij hz =>
    sv.head hx (rf x) z (List.mem_of_getElem? (i := j - i) (by rw [List.getElem?_drop, show i + (j - i) = j by omega]; exact hz))
  have inU : ∀ {i : Nat} {z}, z ∈ u.drop i → ∃ j, i ≤ j ∧ u[j]? = some z := fun {i z} hz => by
    obtain ⟨j, hj⟩ := List.mem_iff_getElem?.mp hz
    rw [List.getElem?_drop] at hj
    exact ⟨_, by omega, hj⟩
  have inV : ∀ {i : Nat} {z}, z ∈ v.drop i → ∃ j, i ≤ j ∧ v[j]? = some z := fun {i z} hz => by
    obtain ⟨j, hj⟩ := List.mem_iff_getElem?.mp hz
    rw [List.getElem?_drop] at hj
    exact ⟨_, by omega, hj⟩
  have getU : ∀ {i}, i < u.length → ∃ x, u[i]? = some x ∧ x < n := fun {i} hi => ⟨u[i], List.getElem?_eq_getElem hi, hu _ (List.getElem_mem hi)⟩
  have getV : ∀ {i}, i < v.length → ∃ x, v[i]? = some x ∧ x < n := fun {i} hi => ⟨v[i], List.getElem?_eq_getElem hi, hv _ (List.getElem_mem hi)⟩
  have lastV : ∀ {ib : Nat} {x}, x ∈ v.drop ib → ∀ {ia}, ia + 1 = u.length → ∀ z ∈ u.drop ia, lt z x = false := fun {ib x} hx {ia} e z hz => by
    obtain ⟨j, h1, h2⟩ := inU hz
    have : j < u.length := (List.getElem?_eq_some_iff.mp h2).1
    rw [show j = u.length - 1 by omega] at h2
    exact od.as _ _ (last x (List.mem_of_mem_drop hx) z h2)
  have fin1 : ∀ {o ia ib}, MI lt u v o ia ib → ib = v.length → ia ≤ u.length → Merged lt u v (o ++ u.drop ia ++ v.drop ib) := fun m h1 h2 => m.finU su rf (by omega) h2
  have fin2 : ∀ {o ia ib}, MI lt u v o ia ib → ib ≤ v.length → ia + 1 = u.length → Merged lt u v (o ++ v.drop ib ++ u.drop ia) := fun m h1 h2 => m.finV su sv rf h1 (by omega) fun x hx z hz => lastV hx h2 z hz
  have m0 : MI lt u v [y0] 0 1 := by
    have : MI lt u v [] 0 0 := ⟨by simp, List.Pairwise.nil, fun x hx => (by cases hx), fun x hx => (by cases hx)⟩
    refine this.takeV sv hy0 (rf y0) fun z hz => ?_
    obtain ⟨j, _, h2⟩ := inU hz
    exact od.tr _ _ _ (od.as _ _ (first y0 x0 hy0 hx0)) (upu hx0 (Nat.zero_le _) h2)
  unfold mergeLo'
  k_delta "mergeLo"
  refine kasC_bind (kasC_lift (wpAny_rule (kasC_bind (qelem (its_get hy0) ?_))))
  try dsimp only
  rw [show (#[kas_item it y0] : Array Keyed) = its it [y0] from rfl]
  by_cases z1 : 1 = v.length
  · rw [if_pos (by simp [z1]), its_rest, its_rest]
    exact kasC_pure (q _ (gallopOf st) (fin1 m0 z1 (by omega)))
  rw [if_neg (by simp; omega)]
  by_cases z2 : 0 + 1 = u.length
  · rw [if_pos (by simp; omega), its_rest, its_rest]
    exact kasC_pure (q _ (gallopOf st) (fin2 m0 (by omega) z2))
  rw [if_neg (by simp; omega)]
  refine kasC_bind (kasC_get ?_)
  refine kasC_bind (kasC_for (fun t c st' => c.1 = none ∧ Mid lt u v it c.2.1 c.2.2.1 c.2.2.2.1 ∧ t + 1 ≤ c.2.2.1 + c.2.2.2.1 ∧ ∃ g, st' = setG st g) (fun c st' => (∃ g, st' = setG st g) ∧ Res lt u v it c.1) ⟨rfl, ⟨_, rfl, m0, by dsimp only; omega, by dsimp only; omega⟩, by dsimp only; omega, gallopOf st, rfl⟩ ?_ ?_ ?_)
  · rintro t x ⟨r, out, ia, ib, mg⟩ st' ht ⟨rfl, ⟨o, rfl, m, h1, h2⟩, hp, g0, rfl⟩
    dsimp only at m h1 h2 hp ⊢
    refine kasC_bind (kasC_for (fun t' c st' => c.1 = none ∧ Mid lt u v it c.2.1 c.2.2.1 c.2.2.2.1 ∧ ia + ib + t' ≤ c.2.2.1 + c.2.2.2.1 ∧ st' = setG st g0) (fun c st' => st' = setG st g0 ∧ ((c.1 = none ∧ Mid lt u v it c.2.1 c.2.2.1 c.2.2.2.1 ∧ ia + ib + 1 ≤ c.2.2.1 + c.2.2.2.1) ∨ Res lt u v it c.1)) ⟨rfl, ⟨_, rfl, m, h1, h2⟩, by dsimp only; omega, rfl⟩ ?_ ?_ ?_)
    · rintro t' x ⟨r, out, ia', ib', ac, bc⟩ st' ht' ⟨rfl, ⟨o', rfl, m', h1', h2'⟩, hp', rfl⟩
      dsimp only at m' h1' h2' hp' ⊢
      obtain ⟨y, hy, yn⟩ := getV h2'
      obtain ⟨x1, hx1, xn1⟩ := getU (i := ia') (by omega)
      refine kasC_bind (qelem (its_get hy) (kasC_bind (qelem (its_get hx1) (kasC_bind (qlt hc hk yn xn1 ?_)))))
      cases e : lt y x1 with
      | true =>
        try dsimp only
        rw [if_pos rfl]
        refine kasC_bind (qelem (its_get hy) ?_)
        try dsimp only
        rw [its_push]
        have M1 := m'.takeV sv hy (rf y) (fun z hz => by obtain ⟨j, a1, a2⟩ := inU hz; exact od.tr _ _ _ (od.as _ _ e) (upu hx1 a1 a2))
        by_cases z3 : ib' + 1 = v.length
        · rw [if_pos (by simp [z3])]
          exact kasC_pure ⟨rfl, rfl, .inr ⟨_, by rw [its_rest, its_rest], fin1 M1 z3 (by omega)⟩⟩
        · rw [if_neg (by simp [z3])]
          split
          · exact kasC_pure ⟨rfl, rfl, .inl ⟨rfl, ⟨_, rfl, M1, by dsimp only; omega, by dsimp only; omega⟩, by dsimp only; omega⟩⟩
          · exact kasC_pure ⟨rfl, rfl, ⟨_, rfl, M1, by dsimp only; omega, by dsimp only; omega⟩, by dsimp only; omega, rfl⟩
      | false =>
        try dsimp only
        rw [if_neg (by decide)]
        refine kasC_bind (qelem (its_get hx1) ?_)
        try dsimp only
        rw [its_push]
        have M1 := m'.takeU su hx1 (rf x1) (fun z hz => by obtain ⟨j, a1, a2⟩ := inV hz; exact od.tr _ _ _ e (upv hy a1 a2))
        by_cases z3 : ia' + 1 + 1 = u.length
        · rw [if_pos (by simp [z3])]
          exact kasC_pure ⟨rfl, rfl, .inr ⟨_, by rw [its_rest, its_rest], fin2 M1 (by omega) z3⟩⟩
        · rw [if_neg (by simp [z3])]
          split
          · exact kasC_pure ⟨rfl, rfl, .inl ⟨rfl, ⟨_, rfl, M1, by dsimp only; omega, by dsimp only; omega⟩, by dsimp only; omega⟩⟩
          · exact kasC_pure ⟨rfl, rfl, ⟨_, rfl, M1, by dsimp only; omega, by dsimp only; omega⟩, by dsimp only; omega, rfl⟩
    · rintro ⟨r, out, ia', ib', ac, bc⟩ st' ⟨rfl, mid, hp', rfl⟩
      refine ⟨rfl, .inl ⟨rfl, mid, ?_⟩⟩
      dsimp only at hp' ⊢
      rw [its_size, its_size] at hp'
      omega
    · rintro ⟨r, out, ia', ib', ac, bc⟩ st' ⟨rfl, hh⟩
      rcases hh with ⟨rfl, ⟨o', rfl, m', h1', h2'⟩, hp'⟩ | ⟨l, rfl, ml⟩
      · dsimp only at m' h1' h2' hp' ⊢
        refine kasC_bind (kasC_lift (wpAny_rule ?_))
        refine kasC_bind (kasC_for (fun t' c st' => c.1 = none ∧ Mid lt u v it c.2.1 c.2.2.1 c.2.2.2.1 ∧ ia + ib + 1 ≤ c.2.2.1 + c.2.2.2.1 ∧ ∃ g, st' = setG st g) (fun c st' => (∃ g, st' = setG st g) ∧ ((c.1 = none ∧ Mid lt u v it c.2.1 c.2.2.1 c.2.2.2.1 ∧ ia + ib + 1 ≤ c.2.2.1 + c.2.2.2.1) ∨ Res lt u v it c.1)) ⟨rfl, ⟨_, rfl, m', h1', h2'⟩, by dsimp only; omega, _, rfl⟩ ?_ ?_ ?_)
        · rintro t' x ⟨r, out, ia, ib, mg', ac, bc⟩ st' ht' ⟨rfl, ⟨o, rfl, m, h1, h2⟩, hp, g1, rfl⟩
          dsimp only at m h1 h2 hp ⊢
          obtain ⟨y, hy, yn⟩ := getV h2
          by_cases zg : mg' > 1
          · rw [if_pos zg]
            refine kasC_bind (qset ?_)
            refine kasC_bind (qelem (its_get hy) (kasC_bind (gallop_ok (g := fun i => u.getD (ia + i) 0) hc hk (fun i hi => ?_) (fun i hi => ?_) yn (fun i j hij hj hb => ?_) (by rw [its_size]; omega) fun k kl kt kf => ?_)))
            · rw [its_size] at hi
              obtain ⟨t', ht', _⟩ := getU (i := ia + i) (by omega)
              rw [its_get ht', List.getD_eq_getElem?_getD, ht']
              rfl
            · rw [its_size] at hi
              obtain ⟨t', ht', tn'⟩ := getU (i := ia + i) (by omega)
              rw [List.getD_eq_getElem?_getD, ht']
              exact tn'
            · rw [its_size] at hj
              obtain ⟨ti, hti, _⟩ := getU (i := ia + i) (by omega)
              obtain ⟨tj, htj, _⟩ := getU (i := ia + j) (by omega)
              simp only [byG, Bool.false_eq_true, if_false, List.getD_eq_getElem?_getD, hti, htj, Option.getD_some, Bool.not_eq_true'] at hb ⊢
              exact od.tr _ _ _ (upu hti (by omega) htj) hb
            rw [its_size] at kl kf
            have gu : ∀ {a b z : Nat}, a = b → u[b]? = some z → u.getD a 0 = z := fun {a b z} e1 e2 => by rw [e1, List.getD_eq_getElem?_getD, e2]; rfl
            simp only [byG, Bool.false_eq_true, if_false, Bool.not_eq_true', Bool.not_eq_false'] at kt kf
            have kl2 : ia + k + 1 ≤ u.length := by
              by_cases z : ia + k + 1 ≤ u.length
              · exact z
              · have := kt (u.length - 1 - ia) (by omega)
                rw [gu (show ia + (u.length - 1 - ia) = u.length - 1 by omega) hxl, last y (List.mem_of_getElem? hy) xl hxl] at this
                cases this
            try dsimp only
            by_cases zk : k > 0
            · rw [if_pos zk, its_ext, Nat.add_sub_cancel_left]
              have MO := MI.takeUs su rf k m (by omega) (fun i h1 h2 x' hx' z hz => by
                obtain ⟨j, a1, a2⟩ := inV hz
                have := kt (i - ia) (by omega)
                rw [gu (show ia + (i - ia) = i by omega) hx'] at this
                exact od.tr _ _ _ this (upv hy a1 a2))
              by_cases z1 : ia + k + 1 = u.length
              · rw [if_pos (by simp [z1])]
                exact kasC_pure ⟨rfl, ⟨_, rfl⟩, .inr ⟨_, by rw [its_rest, its_rest], fin2 MO (by omega) z1⟩⟩
              · rw [if_neg (by simp [z1]), if_neg (by simp; omega)]
                have lessU : ∀ z ∈ u.drop (ia + k), lt y z = true := fun z hz => by
                  obtain ⟨j, a1, a2⟩ := inU hz
                  have := kf (j - ia) (by omega) (by have := (List.getElem?_eq_some_iff.mp a2).1; omega)
                  rw [gu (show ia + (j - ia) = j by omega) a2] at this
                  exact this
                refine kasC_bind (qelem (its_get hy) ?_)
                try dsimp only
                rw [its_push]
                have M2 := MO.takeV sv hy (rf y) (fun z hz => od.as _ _ (lessU z hz))
                by_cases z2 : ib + 1 = v.length
                · rw [if_pos (by simp [z2])]
                  exact kasC_pure ⟨rfl, ⟨_, rfl⟩, .inr ⟨_, by rw [its_rest, its_rest], fin1 M2 z2 (by omega)⟩⟩
                · rw [if_neg (by simp [z2])]
                  obtain ⟨x1, hx1, xn1⟩ := getU (i := (ia + k)) (by omega)
                  refine kasC_bind (qelem (its_get hx1) (kasC_bind (gallop_ok (g := fun i => v.getD (ib + 1 + i) 0) hc hk (fun i hi => ?_) (fun i hi => ?_) xn1 (fun i j hij hj hb => ?_) (by rw [its_size]; omega) fun k2 k2l kt kf => ?_)))
                  · rw [its_size] at hi
                    obtain ⟨t', ht', _⟩ := getV (i := ib + 1 + i) (by omega)
                    rw [its_get ht', List.getD_eq_getElem?_getD, ht']
                    rfl
                  · rw [its_size] at hi
                    obtain ⟨t', ht', tn'⟩ := getV (i := ib + 1 + i) (by omega)
                    rw [List.getD_eq_getElem?_getD, ht']
                    exact tn'
                  · rw [its_size] at hj
                    obtain ⟨ti, hti, _⟩ := getV (i := ib + 1 + i) (by omega)
                    obtain ⟨tj, htj, _⟩ := getV (i := ib + 1 + j) (by omega)
                    simp only [byG, if_true, List.getD_eq_getElem?_getD, hti, htj, Option.getD_some] at hb ⊢
                    cases e : lt ti x1 with
                    | true => rfl
                    | false => rw [od.tr _ _ _ e (upv hti (by omega) htj)] at hb; cases hb
                  rw [its_size] at k2l kf
                  have gv : ∀ {a b z : Nat}, a = b → v[b]? = some z → v.getD a 0 = z := fun {a b z} e1 e2 => by rw [e1, List.getD_eq_getElem?_getD, e2]; rfl
                  simp only [byG, if_true] at kt kf
                  try dsimp only
                  by_cases z3 : k2 > 0
                  · rw [if_pos z3, its_ext, Nat.add_sub_cancel_left]
                    have M3 := MI.takeVs sv rf k2 M2 (by omega) (fun i h1 h2 x' hx' z hz => by
                      obtain ⟨j, a1, a2⟩ := inU hz
                      have := kt (i - (ib + 1)) (by omega)
                      rw [gv (show ib + 1 + (i - (ib + 1)) = i by omega) hx'] at this
                      exact od.tr _ _ _ (od.as _ _ this) (upu hx1 a1 a2))
                    by_cases z5 : ib + 1 + k2 = v.length
                    · rw [if_pos (by simp [z5])]
                      exact kasC_pure ⟨rfl, ⟨_, rfl⟩, .inr ⟨_, by rw [its_rest, its_rest], fin1 M3 z5 (by omega)⟩⟩
                    · rw [if_neg (by simp [z5])]
                      refine kasC_bind (qelem (its_get hx1) ?_)
                      try dsimp only
                      rw [its_push]
                      have M4 := M3.takeU su hx1 (rf x1) (by
                        intro z hz
                        obtain ⟨j, a1, a2⟩ := inV hz
                        have := kf (j - (ib + 1)) (by omega) (by have := (List.getElem?_eq_some_iff.mp a2).1; omega)
                        rw [gv (show ib + 1 + (j - (ib + 1)) = j by omega) a2] at this
                        exact this)
                      by_cases z4 : (ia + k) + 1 + 1 = u.length
                      · rw [if_pos (by simp [z4])]
                        exact kasC_pure ⟨rfl, ⟨_, rfl⟩, .inr ⟨_, by rw [its_rest, its_rest], fin2 M4 (by omega) z4⟩⟩
                      · rw [if_neg (by simp [z4])]
                        split
                        · exact kasC_pure ⟨rfl, ⟨_, rfl⟩, .inl ⟨rfl, ⟨_, rfl, M4, by dsimp only; omega, by dsimp only; omega⟩, by dsimp only; omega⟩⟩
                        · exact kasC_pure ⟨rfl, rfl, ⟨_, rfl, M4, by dsimp only; omega, by dsimp only; omega⟩, by dsimp only; omega, _, rfl⟩
                  · rw [if_neg z3]
                    obtain rfl : k2 = 0 := by omega
                    refine kasC_bind (qelem (its_get hx1) ?_)
                    try dsimp only
                    rw [its_push]
                    have M4 := M2.takeU su hx1 (rf x1) (by
                      intro z hz
                      obtain ⟨j, a1, a2⟩ := inV hz
                      have := kf (j - (ib + 1)) (by omega) (by have := (List.getElem?_eq_some_iff.mp a2).1; omega)
                      rw [gv (show ib + 1 + (j - (ib + 1)) = j by omega) a2] at this
                      exact this)
                    by_cases z4 : (ia + k) + 1 + 1 = u.length
                    · rw [if_pos (by simp [z4])]
                      exact kasC_pure ⟨rfl, ⟨_, rfl⟩, .inr ⟨_, by rw [its_rest, its_rest], fin2 M4 (by omega) z4⟩⟩
                    · rw [if_neg (by simp [z4])]
                      split
                      · exact kasC_pure ⟨rfl, ⟨_, rfl⟩, .inl ⟨rfl, ⟨_, rfl, M4, by dsimp only; omega, by dsimp only; omega⟩, by dsimp only; omega⟩⟩
                      · exact kasC_pure ⟨rfl, rfl, ⟨_, rfl, M4, by dsimp only; omega, by dsimp only; omega⟩, by dsimp only; omega, _, rfl⟩
            · rw [if_neg zk]
              obtain rfl : k = 0 := by omega
              have MO := m
              have lessU : ∀ z ∈ u.drop ia, lt y z = true := fun z hz => by
                obtain ⟨j, a1, a2⟩ := inU hz
                have := kf (j - ia) (by omega) (by have := (List.getElem?_eq_some_iff.mp a2).1; omega)
                rw [gu (show ia + (j - ia) = j by omega) a2] at this
                exact this
              refine kasC_bind (qelem (its_get hy) ?_)
              try dsimp only
              rw [its_push]
              have M2 := MO.takeV sv hy (rf y) (fun z hz => od.as _ _ (lessU z hz))
              by_cases z2 : ib + 1 = v.length
              · rw [if_pos (by simp [z2])]
                exact kasC_pure ⟨rfl, ⟨_, rfl⟩, .inr ⟨_, by rw [its_rest, its_rest], fin1 M2 z2 (by omega)⟩⟩
              · rw [if_neg (by simp [z2])]
                obtain ⟨x1, hx1, xn1⟩ := getU (i := ia) (by omega)
                refine kasC_bind (qelem (its_get hx1) (kasC_bind (gallop_ok (g := fun i => v.getD (ib + 1 + i) 0) hc hk (fun i hi => ?_) (fun i hi => ?_) xn1 (fun i j hij hj hb => ?_) (by rw [its_size]; omega) fun k2 k2l kt kf => ?_)))
                · rw [its_size] at hi
                  obtain ⟨t', ht', _⟩ := getV (i := ib + 1 + i) (by omega)
                  rw [its_get ht', List.getD_eq_getElem?_getD, ht']
                  rfl
                · rw [its_size] at hi
                  obtain ⟨t', ht', tn'⟩ := getV (i := ib + 1 + i) (by omega)
                  rw [List.getD_eq_getElem?_getD, ht']
                  exact tn'
                · rw [its_size] at hj
                  obtain ⟨ti, hti, _⟩ := getV (i := ib + 1 + i) (by omega)
                  obtain ⟨tj, htj, _⟩ := getV (i := ib + 1 + j) (by omega)
                  simp only [byG, if_true, List.getD_eq_getElem?_getD, hti, htj, Option.getD_some] at hb ⊢
                  cases e : lt ti x1 with
                  | true => rfl
                  | false => rw [od.tr _ _ _ e (upv hti (by omega) htj)] at hb; cases hb
                rw [its_size] at k2l kf
                have gv : ∀ {a b z : Nat}, a = b → v[b]? = some z → v.getD a 0 = z := fun {a b z} e1 e2 => by rw [e1, List.getD_eq_getElem?_getD, e2]; rfl
                simp only [byG, if_true] at kt kf
                try dsimp only
                by_cases z3 : k2 > 0
                · rw [if_pos z3, its_ext, Nat.add_sub_cancel_left]
                  have M3 := MI.takeVs sv rf k2 M2 (by omega) (fun i h1 h2 x' hx' z hz => by
                    obtain ⟨j, a1, a2⟩ := inU hz
                    have := kt (i - (ib + 1)) (by omega)
                    rw [gv (show ib + 1 + (i - (ib + 1)) = i by omega) hx'] at this
                    exact od.tr _ _ _ (od.as _ _ this) (upu hx1 a1 a2))
                  by_cases z5 : ib + 1 + k2 = v.length
                  · rw [if_pos (by simp [z5])]
                    exact kasC_pure ⟨rfl, ⟨_, rfl⟩, .inr ⟨_, by rw [its_rest, its_rest], fin1 M3 z5 (by omega)⟩⟩
                  · rw [if_neg (by simp [z5])]
                    refine kasC_bind (qelem (its_get hx1) ?_)
                    try dsimp only
                    rw [its_push]
                    have M4 := M3.takeU su hx1 (rf x1) (by
                      intro z hz
                      obtain ⟨j, a1, a2⟩ := inV hz
                      have := kf (j - (ib + 1)) (by omega) (by have := (List.getElem?_eq_some_iff.mp a2).1; omega)
                      rw [gv (show ib + 1 + (j - (ib + 1)) = j by omega) a2] at this
                      exact this)
                    by_cases z4 : ia + 1 + 1 = u.length
                    · rw [if_pos (by simp [z4])]
                      exact kasC_pure ⟨rfl, ⟨_, rfl⟩, .inr ⟨_, by rw [its_rest, its_rest], fin2 M4 (by omega) z4⟩⟩
                    · rw [if_neg (by simp [z4])]
                      split
                      · exact kasC_pure ⟨rfl, ⟨_, rfl⟩, .inl ⟨rfl, ⟨_, rfl, M4, by dsimp only; omega, by dsimp only; omega⟩, by dsimp only; omega⟩⟩
                      · exact kasC_pure ⟨rfl, rfl, ⟨_, rfl, M4, by dsimp only; omega, by dsimp only; omega⟩, by dsimp only; omega, _, rfl⟩
                · rw [if_neg z3]
                  obtain rfl : k2 = 0 := by omega
                  refine kasC_bind (qelem (its_get hx1) ?_)
                  try dsimp only
                  rw [its_push]
                  have M4 := M2.takeU su hx1 (rf x1) (by
                    intro z hz
                    obtain ⟨j, a1, a2⟩ := inV hz
                    have := kf (j - (ib + 1)) (by omega) (by have := (List.getElem?_eq_some_iff.mp a2).1; omega)
                    rw [gv (show ib + 1 + (j - (ib + 1)) = j by omega) a2] at this
                    exact this)
                  by_cases z4 : ia + 1 + 1 = u.length
                  · rw [if_pos (by simp [z4])]
                    exact kasC_pure ⟨rfl, ⟨_, rfl⟩, .inr ⟨_, by rw [its_rest, its_rest], fin2 M4 (by omega) z4⟩⟩
                  · rw [if_neg (by simp [z4])]
                    split
                    · exact kasC_pure ⟨rfl, ⟨_, rfl⟩, .inl ⟨rfl, ⟨_, rfl, M4, by dsimp only; omega, by dsimp only; omega⟩, by dsimp only; omega⟩⟩
                    · exact kasC_pure ⟨rfl, rfl, ⟨_, rfl, M4, by dsimp only; omega, by dsimp only; omega⟩, by dsimp only; omega, _, rfl⟩
          · rw [if_neg zg]
            refine kasC_bind (qset ?_)
            refine kasC_bind (qelem (its_get hy) (kasC_bind (gallop_ok (g := fun i => u.getD (ia + i) 0) hc hk (fun i hi => ?_) (fun i hi => ?_) yn (fun i j hij hj hb => ?_) (by rw [its_size]; omega) fun k kl kt kf => ?_)))
            · rw [its_size] at hi
              obtain ⟨t', ht', _⟩ := getU (i := ia + i) (by omega)
              rw [its_get ht', List.getD_eq_getElem?_getD, ht']
              rfl
            · rw [its_size] at hi
              obtain ⟨t', ht', tn'⟩ := getU (i := ia + i) (by omega)
              rw [List.getD_eq_getElem?_getD, ht']
              exact tn'
            · rw [its_size] at hj
              obtain ⟨ti, hti, _⟩ := getU (i := ia + i) (by omega)
              obtain ⟨tj, htj, _⟩ := getU (i := ia + j) (by omega)
              simp only [byG, Bool.false_eq_true, if_false, List.getD_eq_getElem?_getD, hti, htj, Option.getD_some, Bool.not_eq_true'] at hb ⊢
              exact od.tr _ _ _ (upu hti (by omega) htj) hb
            rw [its_size] at kl kf
            have gu : ∀ {a b z : Nat}, a = b → u[b]? = some z → u.getD a 0 = z := fun {a b z} e1 e2 => by rw [e1, List.getD_eq_getElem?_getD, e2]; rfl
            simp only [byG, Bool.false_eq_true, if_false, Bool.not_eq_true', Bool.not_eq_false'] at kt kf
            have kl2 : ia + k + 1 ≤ u.length := by
              by_cases z : ia + k + 1 ≤ u.length
              · exact z
              · have := kt (u.length - 1 - ia) (by omega)
                rw [gu (show ia + (u.length - 1 - ia) = u.length - 1 by omega) hxl, last y (List.mem_of_getElem? hy) xl hxl] at this
                cases this
            try dsimp only
            by_cases zk : k > 0
            · rw [if_pos zk, its_ext, Nat.add_sub_cancel_left]
              have MO := MI.takeUs su rf k m (by omega) (fun i h1 h2 x' hx' z hz => by
                obtain ⟨j, a1, a2⟩ := inV hz
                have := kt (i - ia) (by omega)
                rw [gu (show ia + (i - ia) = i by omega) hx'] at this
                exact od.tr _ _ _ this (upv hy a1 a2))
              by_cases z1 : ia + k + 1 = u.length
              · rw [if_pos (by simp [z1])]
                exact kasC_pure ⟨rfl, ⟨_, rfl⟩, .inr ⟨_, by rw [its_rest, its_rest], fin2 MO (by omega) z1⟩⟩
              · rw [if_neg (by simp [z1]), if_neg (by simp; omega)]
                have lessU : ∀ z ∈ u.drop (ia + k), lt y z = true := fun z hz => by
                  obtain ⟨j, a1, a2⟩ := inU hz
                  have := kf (j - ia) (by omega) (by have := (List.getElem?_eq_some_iff.mp a2).1; omega)
                  rw [gu (show ia + (j - ia) = j by omega) a2] at this
                  exact this
                refine kasC_bind (qelem (its_get hy) ?_)
                try dsimp only
                rw [its_push]
                have M2 := MO.takeV sv hy (rf y) (fun z hz => od.as _ _ (lessU z hz))
                by_cases z2 : ib + 1 = v.length
                · rw [if_pos (by simp [z2])]
                  exact kasC_pure ⟨rfl, ⟨_, rfl⟩, .inr ⟨_, by rw [its_rest, its_rest], fin1 M2 z2 (by omega)⟩⟩
                · rw [if_neg (by simp [z2])]
                  obtain ⟨x1, hx1, xn1⟩ := getU (i := (ia + k)) (by omega)
                  refine kasC_bind (qelem (its_get hx1) (kasC_bind (gallop_ok (g := fun i => v.getD (ib + 1 + i) 0) hc hk (fun i hi => ?_) (fun i hi => ?_) xn1 (fun i j hij hj hb => ?_) (by rw [its_size]; omega) fun k2 k2l kt kf => ?_)))
                  · rw [its_size] at hi
                    obtain ⟨t', ht', _⟩ := getV (i := ib + 1 + i) (by omega)
                    rw [its_get ht', List.getD_eq_getElem?_getD, ht']
                    rfl
                  · rw [its_size] at hi
                    obtain ⟨t', ht', tn'⟩ := getV (i := ib + 1 + i) (by omega)
                    rw [List.getD_eq_getElem?_getD, ht']
                    exact tn'
                  · rw [its_size] at hj
                    obtain ⟨ti, hti, _⟩ := getV (i := ib + 1 + i) (by omega)
                    obtain ⟨tj, htj, _⟩ := getV (i := ib + 1 + j) (by omega)
                    simp only [byG, if_true, List.getD_eq_getElem?_getD, hti, htj, Option.getD_some] at hb ⊢
                    cases e : lt ti x1 with
                    | true => rfl
                    | false => rw [od.tr _ _ _ e (upv hti (by omega) htj)] at hb; cases hb
                  rw [its_size] at k2l kf
                  have gv : ∀ {a b z : Nat}, a = b → v[b]? = some z → v.getD a 0 = z := fun {a b z} e1 e2 => by rw [e1, List.getD_eq_getElem?_getD, e2]; rfl
                  simp only [byG, if_true] at kt kf
                  try dsimp only
                  by_cases z3 : k2 > 0
                  · rw [if_pos z3, its_ext, Nat.add_sub_cancel_left]
                    have M3 := MI.takeVs sv rf k2 M2 (by omega) (fun i h1 h2 x' hx' z hz => by
                      obtain ⟨j, a1, a2⟩ := inU hz
                      have := kt (i - (ib + 1)) (by omega)
                      rw [gv (show ib + 1 + (i - (ib + 1)) = i by omega) hx'] at this
                      exact od.tr _ _ _ (od.as _ _ this) (upu hx1 a1 a2))
                    by_cases z5 : ib + 1 + k2 = v.length
                    · rw [if_pos (by simp [z5])]
                      exact kasC_pure ⟨rfl, ⟨_, rfl⟩, .inr ⟨_, by rw [its_rest, its_rest], fin1 M3 z5 (by omega)⟩⟩
                    · rw [if_neg (by simp [z5])]
                      refine kasC_bind (qelem (its_get hx1) ?_)
                      try dsimp only
                      rw [its_push]
                      have M4 := M3.takeU su hx1 (rf x1) (by
                        intro z hz
                        obtain ⟨j, a1, a2⟩ := inV hz
                        have := kf (j - (ib + 1)) (by omega) (by have := (List.getElem?_eq_some_iff.mp a2).1; omega)
                        rw [gv (show ib + 1 + (j - (ib + 1)) = j by omega) a2] at this
                        exact this)
                      by_cases z4 : (ia + k) + 1 + 1 = u.length
                      · rw [if_pos (by simp [z4])]
                        exact kasC_pure ⟨rfl, ⟨_, rfl⟩, .inr ⟨_, by rw [its_rest, its_rest], fin2 M4 (by omega) z4⟩⟩
                      · rw [if_neg (by simp [z4])]
                        split
                        · exact kasC_pure ⟨rfl, ⟨_, rfl⟩, .inl ⟨rfl, ⟨_, rfl, M4, by dsimp only; omega, by dsimp only; omega⟩, by dsimp only; omega⟩⟩
                        · exact kasC_pure ⟨rfl, rfl, ⟨_, rfl, M4, by dsimp only; omega, by dsimp only; omega⟩, by dsimp only; omega, _, rfl⟩
                  · rw [if_neg z3]
                    obtain rfl : k2 = 0 := by omega
                    refine kasC_bind (qelem (its_get hx1) ?_)
                    try dsimp only
                    rw [its_push]
                    have M4 := M2.takeU su hx1 (rf x1) (by
                      intro z hz
                      obtain ⟨j, a1, a2⟩ := inV hz
                      have := kf (j - (ib + 1)) (by omega) (by have := (List.getElem?_eq_some_iff.mp a2).1; omega)
                      rw [gv (show ib + 1 + (j - (ib + 1)) = j by omega) a2] at this
                      exact this)
                    by_cases z4 : (ia + k) + 1 + 1 = u.length
                    · rw [if_pos (by simp [z4])]
                      exact kasC_pure ⟨rfl, ⟨_, rfl⟩, .inr ⟨_, by rw [its_rest, its_rest], fin2 M4 (by omega) z4⟩⟩
                    · rw [if_neg (by simp [z4])]
                      split
                      · exact kasC_pure ⟨rfl, ⟨_, rfl⟩, .inl ⟨rfl, ⟨_, rfl, M4, by dsimp only; omega, by dsimp only; omega⟩, by dsimp only; omega⟩⟩
                      · exact kasC_pure ⟨rfl, rfl, ⟨_, rfl, M4, by dsimp only; omega, by dsimp only; omega⟩, by dsimp only; omega, _, rfl⟩
            · rw [if_neg zk]
              obtain rfl : k = 0 := by omega
              have MO := m
              have lessU : ∀ z ∈ u.drop ia, lt y z = true := fun z hz => by
                obtain ⟨j, a1, a2⟩ := inU hz
                have := kf (j - ia) (by omega) (by have := (List.getElem?_eq_some_iff.mp a2).1; omega)
                rw [gu (show ia + (j - ia) = j by omega) a2] at this
                exact this
              refine kasC_bind (qelem (its_get hy) ?_)
              try dsimp only
              rw [its_push]
              have M2 := MO.takeV sv hy (rf y) (fun z hz => od.as _ _ (lessU z hz))
              by_cases z2 : ib + 1 = v.length
              · rw [if_pos (by simp [z2])]
                exact kasC_pure ⟨rfl, ⟨_, rfl⟩, .inr ⟨_, by rw [its_rest, its_rest], fin1 M2 z2 (by omega)⟩⟩
              · rw [if_neg (by simp [z2])]
                obtain ⟨x1, hx1, xn1⟩ := getU (i := ia) (by omega)
                refine kasC_bind (qelem (its_get hx1) (kasC_bind (gallop_ok (g := fun i => v.getD (ib + 1 + i) 0) hc hk (fun i hi => ?_) (fun i hi => ?_) xn1 (fun i j hij hj hb => ?_) (by rw [its_size]; omega) fun k2 k2l kt kf => ?_)))
                · rw [its_size] at hi
                  obtain ⟨t', ht', _⟩ := getV (i := ib + 1 + i) (by omega)
                  rw [its_get ht', List.getD_eq_getElem?_getD, ht']
                  rfl
                · rw [its_size] at hi
                  obtain ⟨t', ht', tn'⟩ := getV (i := ib + 1 + i) (by omega)
                  rw [List.getD_eq_getElem?_getD, ht']
                  exact tn'
                · rw [its_size] at hj
                  obtain ⟨ti, hti, _⟩ := getV (i := ib + 1 + i) (by omega)
                  obtain ⟨tj, htj, _⟩ := getV (i := ib + 1 + j) (by omega)
                  simp only [byG, if_true, List.getD_eq_getElem?_getD, hti, htj, Option.getD_some] at hb ⊢
                  cases e : lt ti x1 with
                  | true => rfl
                  | false => rw [od.tr _ _ _ e (upv hti (by omega) htj)] at hb; cases hb
                rw [its_size] at k2l kf
                have gv : ∀ {a b z : Nat}, a = b → v[b]? = some z → v.getD a 0 = z := fun {a b z} e1 e2 => by rw [e1, List.getD_eq_getElem?_getD, e2]; rfl
                simp only [byG, if_true] at kt kf
                try dsimp only
                by_cases z3 : k2 > 0
                · rw [if_pos z3, its_ext, Nat.add_sub_cancel_left]
                  have M3 := MI.takeVs sv rf k2 M2 (by omega) (fun i h1 h2 x' hx' z hz => by
                    obtain ⟨j, a1, a2⟩ := inU hz
                    have := kt (i - (ib + 1)) (by omega)
                    rw [gv (show ib + 1 + (i - (ib + 1)) = i by omega) hx'] at this
                    exact od.tr _ _ _ (od.as _ _ this) (upu hx1 a1 a2))
                  by_cases z5 : ib + 1 + k2 = v.length
                  · rw [if_pos (by simp [z5])]
                    exact kasC_pure ⟨rfl, ⟨_, rfl⟩, .inr ⟨_, by rw [its_rest, its_rest], fin1 M3 z5 (by omega)⟩⟩
                  · rw [if_neg (by simp [z5])]
                    refine kasC_bind (qelem (its_get hx1) ?_)
                    try dsimp only
                    rw [its_push]
                    have M4 := M3.takeU su hx1 (rf x1) (by
                      intro z hz
                      obtain ⟨j, a1, a2⟩ := inV hz
                      have := kf (j - (ib + 1)) (by omega) (by have := (List.getElem?_eq_some_iff.mp a2).1; omega)
                      rw [gv (show ib + 1 + (j - (ib + 1)) = j by omega) a2] at this
                      exact this)
                    by_cases z4 : ia + 1 + 1 = u.length
                    · rw [if_pos (by simp [z4])]
                      exact kasC_pure ⟨rfl, ⟨_, rfl⟩, .inr ⟨_, by rw [its_rest, its_rest], fin2 M4 (by omega) z4⟩⟩
                    · rw [if_neg (by simp [z4])]
                      split
                      · exact kasC_pure ⟨rfl, ⟨_, rfl⟩, .inl ⟨rfl, ⟨_, rfl, M4, by dsimp only; omega, by dsimp only; omega⟩, by dsimp only; omega⟩⟩
                      · exact kasC_pure ⟨rfl, rfl, ⟨_, rfl, M4, by dsimp only; omega, by dsimp only; omega⟩, by dsimp only; omega, _, rfl⟩
                · rw [if_neg z3]
                  obtain rfl : k2 = 0 := by omega
                  refine kasC_bind (qelem (its_get hx1) ?_)
                  try dsimp only
                  rw [its_push]
                  have M4 := M2.takeU su hx1 (rf x1) (by
                    intro z hz
                    obtain ⟨j, a1, a2⟩ := inV hz
                    have := kf (j - (ib + 1)) (by omega) (by have := (List.getElem?_eq_some_iff.mp a2).1; omega)
                    rw [gv (show ib + 1 + (j - (ib + 1)) = j by omega) a2] at this
                    exact this)
                  by_cases z4 : ia + 1 + 1 = u.length
                  · rw [if_pos (by simp [z4])]
                    exact kasC_pure ⟨rfl, ⟨_, rfl⟩, .inr ⟨_, by rw [its_rest, its_rest], fin2 M4 (by omega) z4⟩⟩
                  · rw [if_neg (by simp [z4])]
                    split
                    · exact kasC_pure ⟨rfl, ⟨_, rfl⟩, .inl ⟨rfl, ⟨_, rfl, M4, by dsimp only; omega, by dsimp only; omega⟩, by dsimp only; omega⟩⟩
                    · exact kasC_pure ⟨rfl, rfl, ⟨_, rfl, M4, by dsimp only; omega, by dsimp only; omega⟩, by dsimp only; omega, _, rfl⟩
        · rintro ⟨r, out, ia', ib', mg', ac, bc⟩ st' ⟨rfl, mid, hp', g1, rfl⟩
          exact ⟨⟨g1, rfl⟩, .inl ⟨rfl, mid, hp'⟩⟩
        · rintro ⟨r, out, ia', ib', mg', ac, bc⟩ st' ⟨⟨g1, rfl⟩, hh⟩
          rcases hh with ⟨rfl, mid, hp'⟩ | ⟨l, rfl, ml⟩
          · dsimp only at mid hp' ⊢
            refine kasC_bind (qset (kasC_pure ⟨rfl, rfl, mid, ?_, _, rfl⟩))
            try dsimp only
            omega
          · exact kasC_pure ⟨rfl, ⟨g1, rfl⟩, l, rfl, ml⟩
      · exact kasC_pure ⟨rfl, ⟨g0, rfl⟩, l, rfl, ml⟩
  · rintro ⟨r, out, ia, ib, mg⟩ st' ⟨rfl, ⟨o, rfl, m, h1, h2⟩, hp, g0, rfl⟩
    dsimp only at m h1 h2 hp
    rw [its_size, its_size] at hp
    omega
  · rintro ⟨r, out, ia, ib, mg⟩ st' ⟨⟨g0, rfl⟩, l, rfl, ml⟩
    exact kasC_pure (q l g0 ml)
end
end L2
set_option Elab.async false
set_option linter.all false
set_option maxRecDepth 100000
namespace L2
open PySem PySem.Spec PyProof.Rows PySem.W
def mergeHi' : Array Keyed → Array Keyed → StateT SortSt Sem (Array Keyed) := sortPriv% PySem.Builtin.mergeHi
section
variable {it : Array Keyed} {o l p : List Nat}
theorem rev_get {i : Nat} (h0 : 0 < i) (h1 : i ≤ l.length) : l.reverse[l.length - i]? = l[i - 1]? := by
  rw [List.getElem?_reverse (by omega)]
  congr 1
  omega
theorem rev_seg {a i : Nat} (h0 : a ≤ i) (h1 : i ≤ l.length) : (l.reverse.drop (l.length - i)).take (i - a) = ((l.drop a).take (i - a)).reverse := by
  rw [List.drop_reverse, List.take_reverse, List.length_take, List.drop_take, show l.length - (l.length - i) = i by omega, show min i l.length - (i - a) = a by omega]
theorem rev_rest {i : Nat} (h1 : i ≤ l.length) : l.reverse.drop (l.length - i) = (l.take i).reverse := by
  rw [List.drop_reverse, show l.length - (l.length - i) = i by omega]
theorem its_segR {a i : Nat} : its it o ++ ((its it l).extract a i).reverse = its it (o ++ ((l.drop a).take (i - a)).reverse) := by simp [its, List.map_take, List.map_drop]
theorem its_done {i j : Nat} : (its it l).extract 0 i ++ (its it p).extract 0 j ++ (its it o).reverse = its it (l.take i ++ p.take j ++ o.reverse) := by simp [its, List.map_take]
end
def gtr (lt : Nat → Nat → Bool) (x y : Nat) : Bool := lt y x
theorem Ord.flip {lt : Nat → Nat → Bool} (o : Ord lt) : Ord (gtr lt) := ⟨fun i j k h1 h2 => o.tr k j i h2 h1, fun i j h => o.as j i h⟩
theorem Srt.rev {lt : Nat → Nat → Bool} {l : List Nat} (h : Srt lt l) : Srt (gtr lt) l.reverse := List.pairwise_reverse.mpr h
theorem Merged.rev {lt : Nat → Nat → Bool} {u v r : List Nat} (h : Merged (gtr lt) v.reverse u.reverse r) : Merged lt u v r.reverse := by
  refine ⟨?_, List.pairwise_reverse.mpr h.2⟩
  refine (List.reverse_perm r).trans (h.1.trans ?_)
  rw [← List.reverse_append]
  exact List.reverse_perm _
section
variable {prog : Program} {w : World} {A : Around} {E : Value → Shared → Prop} {κ : SortKind} {it : Array Keyed} {n : Nat} {lt : Nat → Nat → Bool} {s : Shared} {st : SortSt}
def MidR (lt : Nat → Nat → Bool) (u v : List Nat) (it : Array Keyed) (out : Array Keyed) (na nb : Nat) : Prop := ∃ o, out = its it o ∧ MI (gtr lt) v.reverse u.reverse o (v.length - nb) (u.length - na) ∧ 0 < na ∧ 1 < nb ∧ na ≤ u.length ∧ nb ≤ v.length
theorem mergeHi_ok {u v : List Nat} {Q : Array Keyed → SortSt → Shared → Prop} (hc : Asks n lt (kas_cmp prog w A κ it) s) (od : Ord lt) (hk : kindOf st = κ) (hu : ∀ x ∈ u, x < n) (hv : ∀ x ∈ v, x < n) (su : Srt lt u) (sv : Srt lt v) (u1 : 0 < u.length) (v1 : 0 < v.length)
    (first : ∀ y, v[0]? = some y → ∀ x ∈ u, lt y x = true) (last : ∀ y ∈ v, ∀ x, u[u.length - 1]? = some x → lt y x = true) (q : ∀ r g, Merged lt u v r → Q (its it r) (setG st g) s) : kasC (model prog w) A E (mergeHi' (its it u) (its it v)) Q st s := by
  have rf := od.rf
  have fo := od.flip
  have rf' : ∀ x, gtr lt x x = false := rf
  have su' := su.rev
  have sv' := sv.rev
  obtain ⟨y0, hy0⟩ : ∃ y, v[0]? = some y := ⟨_, List.getElem?_eq_getElem v1⟩
  obtain ⟨yl, hyl⟩ : ∃ y, v[v.length - 1]? = some y := ⟨_, List.getElem?_eq_getElem (by omega)⟩
  obtain ⟨xl, hxl⟩ : ∃ x, u[u.length - 1]? = some x := ⟨_, List.getElem?_eq_getElem (by omega)⟩
  have upu : ∀ {i j x z}, u[i]? = some x → i ≤ j → u[j]? = some z → lt z x = false := fun {i j x z} hx hij hz =>
    su.head hx (rf x) z (List.mem_of_getElem? (i := j - i) (by rw [List.getElem?_drop, show i + (j - i) = j by omega]; exact hz))
  have upv : ∀ {i j x z}, v[i]? = some x → i ≤ j → v[j]? = some z → lt z x = false := fun {i j x z} hx hij hz =>
    sv.head hx (rf x) z (List.mem_of_getElem? (i := j - i) (by rw [List.getElem?_drop, show i + (j - i) = j by omega]; exact hz))
  have inU : ∀ {i : Nat} {z}, i ≤ u.length → z ∈ u.reverse.drop (u.length - i) → ∃ j, j < i ∧ u[j]? = some z := fun {i z} hi hz => by
    rw [rev_rest hi] at hz
    obtain ⟨j, hj⟩ := List.mem_iff_getElem?.mp (List.mem_reverse.mp hz)
    rw [List.getElem?_take] at hj
    split at hj
    · exact ⟨j, by assumption, hj⟩
    · cases hj
  have inV : ∀ {i : Nat} {z}, i ≤ v.length → z ∈ v.reverse.drop (v.length - i) → ∃ j, j < i ∧ v[j]? = some z := fun {i z} hi hz => by
    rw [rev_rest hi] at hz
    obtain ⟨j, hj⟩ := List.mem_iff_getElem?.mp (List.mem_reverse.mp hz)
    rw [List.getElem?_take] at hj
    split at hj
    · exact ⟨j, by assumption, hj⟩
    · cases hj
  have getU : ∀ {i}, i < u.length → ∃ x, u[i]? = some x ∧ x < n := fun {i} hi => ⟨u[i], List.getElem?_eq_getElem hi, hu _ (List.getElem_mem hi)⟩
  have getV : ∀ {i}, i < v.length → ∃ x, v[i]? = some x ∧ x < n := fun {i} hi => ⟨v[i], List.getElem?_eq_getElem hi, hv _ (List.getElem_mem hi)⟩
  have tkU : ∀ {o na nb x}, MI (gtr lt) v.reverse u.reverse o (v.length - nb) (u.length - na) → 0 < na → na ≤ u.length → nb ≤ v.length → u[na - 1]? = some x → (∀ j z, j < nb → v[j]? = some z → lt x z = false) → MI (gtr lt) v.reverse u.reverse (o ++ [x]) (v.length - nb) (u.length - (na - 1)) := fun {o na nb x} m h1 h2 h3 hx h => by
    rw [show u.length - (na - 1) = u.length - na + 1 by omega]
    refine m.takeV su' (by rw [rev_get h1 h2]; exact hx) (rf' x) fun z hz => ?_
    obtain ⟨j, a1, a2⟩ := inV h3 hz
    exact h j z a1 a2
  have tkV : ∀ {o na nb y}, MI (gtr lt) v.reverse u.reverse o (v.length - nb) (u.length - na) → 0 < nb → nb ≤ v.length → na ≤ u.length → v[nb - 1]? = some y → (∀ j z, j < na → u[j]? = some z → lt y z = false) → MI (gtr lt) v.reverse u.reverse (o ++ [y]) (v.length - (nb - 1)) (u.length - na) := fun {o na nb y} m h1 h2 h3 hy h => by
    rw [show v.length - (nb - 1) = v.length - nb + 1 by omega]
    refine m.takeU sv' (by rw [rev_get h1 h2]; exact hy) (rf' y) fun z hz => ?_
    obtain ⟨j, a1, a2⟩ := inU h3 hz
    exact h j z a1 a2
  have tkUs : ∀ {o na nb a}, MI (gtr lt) v.reverse u.reverse o (v.length - nb) (u.length - na) → a ≤ na → na ≤ u.length → nb ≤ v.length → (∀ i x, a ≤ i → i < na → u[i]? = some x → ∀ j z, j < nb → v[j]? = some z → lt x z = false) → MI (gtr lt) v.reverse u.reverse (o ++ ((u.drop a).take (na - a)).reverse) (v.length - nb) (u.length - a) := fun {o na nb a} m h1 h2 h3 h => by
    rw [← rev_seg h1 h2, show u.length - a = u.length - na + (na - a) by omega]
    refine MI.takeVs su' rf' (na - a) m (by rw [List.length_reverse]; omega) fun i g1 g2 x hx z hz => ?_
    obtain ⟨j, a1, a2⟩ := inV h3 hz
    rw [List.getElem?_reverse (by omega)] at hx
    exact h _ x (by omega) (by omega) hx j z a1 a2
  have tkVs : ∀ {o na nb a}, MI (gtr lt) v.reverse u.reverse o (v.length - nb) (u.length - na) → a ≤ nb → nb ≤ v.length → na ≤ u.length → (∀ i x, a ≤ i → i < nb → v[i]? = some x → ∀ j z, j < na → u[j]? = some z → lt x z = false) → MI (gtr lt) v.reverse u.reverse (o ++ ((v.drop a).take (nb - a)).reverse) (v.length - a) (u.length - na) := fun {o na nb a} m h1 h2 h3 h => by
    rw [← rev_seg h1 h2, show v.length - a = v.length - nb + (nb - a) by omega]
    refine MI.takeUs sv' rf' (nb - a) m (by rw [List.length_reverse]; omega) fun i g1 g2 x hx z hz => ?_
    obtain ⟨j, a1, a2⟩ := inU h3 hz
    rw [List.getElem?_reverse (by omega)] at hx
    exact h _ x (by omega) (by omega) hx j z a1 a2
  have fin1 : ∀ {o na nb}, MI (gtr lt) v.reverse u.reverse o (v.length - nb) (u.length - na) → na = 0 → nb ≤ v.length → Merged lt u v (u.take na ++ v.take nb ++ o.reverse) := fun {o na nb} m h1 h2 => by
    have := (m.finU sv' rf' (by rw [List.length_reverse]; omega) (by rw [List.length_reverse]; omega)).rev
    rw [rev_rest h2, rev_rest (by omega), h1] at this
    simpa [h1] using this
  have fin2 : ∀ {o na nb}, MI (gtr lt) v.reverse u.reverse o (v.length - nb) (u.length - na) → nb = 1 → na ≤ u.length → Merged lt u v (v.take nb ++ u.take na ++ o.reverse) := fun {o na nb} m h1 h2 => by
    have := (m.finV sv' su' rf' (by rw [List.length_reverse]; omega) (by rw [List.length_reverse]; omega) (fun x hx z hz => by
      obtain ⟨j, a1, a2⟩ := inU h2 hx
      obtain ⟨i, b1, b2⟩ := inV (by omega) hz
      obtain rfl : i = 0 := by omega
      exact od.as _ _ (first z b2 x (List.mem_of_getElem? a2)))).rev
    rw [rev_rest h2, rev_rest (by omega)] at this
    simpa using this
  have m0 : MI (gtr lt) v.reverse u.reverse [xl] (v.length - v.length) (u.length - (u.length - 1)) := by
    have : MI (gtr lt) v.reverse u.reverse [] (v.length - v.length) (u.length - u.length) := ⟨by simp, List.Pairwise.nil, fun x hx => (by cases hx), fun x hx => (by cases hx)⟩
    exact tkU this u1 (Nat.le_refl _) (Nat.le_refl _) hxl fun j z _ hz => od.as _ _ (last z (List.mem_of_getElem? hz) xl hxl)
  unfold mergeHi'
  k_delta "mergeHi"
  refine kasC_bind (kasC_lift (wpAny_rule ?_))
  try dsimp only
  rw [its_size]
  refine kasC_bind (qelem (its_get hxl) ?_)
  try dsimp only
  rw [show (#[kas_item it xl] : Array Keyed) = its it [xl] from rfl]
  by_cases z1 : u.length - 1 = 0
  · rw [if_pos (by simp [z1]), its_size, its_done]
    exact kasC_pure (q _ (gallopOf st) (fin1 m0 z1 (Nat.le_refl _)))
  rw [if_neg (by simp [z1])]
  by_cases z2 : v.length = 1
  · rw [if_pos (by simp [z2]), its_size, its_done]
    exact kasC_pure (q _ (gallopOf st) (fin2 m0 z2 (by omega)))
  rw [if_neg (by simp [z2])]
  refine kasC_bind (kasC_get ?_)
  refine kasC_bind (kasC_for (fun t c st' => c.1 = none ∧ MidR lt u v it c.2.2.2.1 c.2.1 c.2.2.1 ∧ c.2.1 + c.2.2.1 + t + 1 ≤ u.length + v.length ∧ ∃ g, st' = setG st g) (fun c st' => (∃ g, st' = setG st g) ∧ Res lt u v it c.1) ⟨rfl, ⟨_, rfl, by dsimp only; rw [its_size]; exact m0, by dsimp only; omega, by dsimp only; rw [its_size]; omega, by dsimp only; omega, by dsimp only; rw [its_size]; exact Nat.le_refl _⟩, by dsimp only; rw [its_size]; omega, gallopOf st, rfl⟩ ?_ ?_ ?_)
  · rintro t x ⟨r, na, nb, out, mg⟩ st' ht ⟨rfl, ⟨o, rfl, m, h1, h2, h3, h4⟩, hp, g0, rfl⟩
    dsimp only at m h1 h2 h3 h4 hp ⊢
    refine kasC_bind (kasC_for (fun t' c st' => c.1 = none ∧ MidR lt u v it c.2.2.2.1 c.2.1 c.2.2.1 ∧ c.2.1 + c.2.2.1 + t' ≤ na + nb ∧ st' = setG st g0) (fun c st' => st' = setG st g0 ∧ ((c.1 = none ∧ MidR lt u v it c.2.2.2.1 c.2.1 c.2.2.1 ∧ c.2.1 + c.2.2.1 + 1 ≤ na + nb) ∨ Res lt u v it c.1)) ⟨rfl, ⟨_, rfl, m, h1, h2, h3, h4⟩, by dsimp only; omega, rfl⟩ ?_ ?_ ?_)
    · rintro t' x ⟨r, na', nb', out, ac, bc⟩ st' ht' ⟨rfl, ⟨o', rfl, m', h1', h2', h3', h4'⟩, hp', rfl⟩
      dsimp only at m' h1' h2' h3' h4' hp' ⊢
      obtain ⟨y, hy, yn⟩ := getV (i := nb' - 1) (by omega)
      obtain ⟨x1, hx1, xn1⟩ := getU (i := na' - 1) (by omega)
      refine kasC_bind (qelem (its_get hy) (kasC_bind (qelem (its_get hx1) (kasC_bind (qlt hc hk yn xn1 ?_)))))
      cases e : lt y x1 with
      | true =>
        try dsimp only
        rw [if_pos rfl]
        refine kasC_bind (qelem (its_get hx1) ?_)
        try dsimp only
        rw [its_push]
        have M1 := tkU m' (by omega) (by omega) (by omega) hx1 (fun j z hj hz => od.tr _ _ _ (upv hz (by omega) hy) (od.as _ _ e))
        by_cases z3 : na' - 1 = 0
        · rw [if_pos (by simp [z3]), its_done]
          exact kasC_pure ⟨rfl, rfl, .inr ⟨_, rfl, fin1 M1 z3 (by omega)⟩⟩
        · rw [if_neg (by simp [z3])]
          split
          · exact kasC_pure ⟨rfl, rfl, .inl ⟨rfl, ⟨_, rfl, M1, by dsimp only; omega, by dsimp only; omega, by dsimp only; omega, by dsimp only; omega⟩, by dsimp only; omega⟩⟩
          · exact kasC_pure ⟨rfl, rfl, ⟨_, rfl, M1, by dsimp only; omega, by dsimp only; omega, by dsimp only; omega, by dsimp only; omega⟩, by dsimp only; omega, rfl⟩
      | false =>
        try dsimp only
        rw [if_neg (by decide)]
        refine kasC_bind (qelem (its_get hy) ?_)
        try dsimp only
        rw [its_push]
        have M1 := tkV m' (by omega) (by omega) (by omega) hy (fun j z hj hz => od.tr _ _ _ (upu hz (by omega) hx1) e)
        by_cases z3 : nb' - 1 = 1
        · rw [if_pos (by simp [z3]), its_done]
          exact kasC_pure ⟨rfl, rfl, .inr ⟨_, rfl, fin2 M1 z3 (by omega)⟩⟩
        · rw [if_neg (by simp [z3])]
          split
          · exact kasC_pure ⟨rfl, rfl, .inl ⟨rfl, ⟨_, rfl, M1, by dsimp only; omega, by dsimp only; omega, by dsimp only; omega, by dsimp only; omega⟩, by dsimp only; omega⟩⟩
          · exact kasC_pure ⟨rfl, rfl, ⟨_, rfl, M1, by dsimp only; omega, by dsimp only; omega, by dsimp only; omega, by dsimp only; omega⟩, by dsimp only; omega, rfl⟩
    · rintro ⟨r, na', nb', out, ac, bc⟩ st' ⟨rfl, mid, hp', rfl⟩
      refine ⟨rfl, .inl ⟨rfl, mid, ?_⟩⟩
      dsimp only at hp' ⊢
      rw [its_size] at hp'
      omega
    · rintro ⟨r, na', nb', out, ac, bc⟩ st' ⟨rfl, hh⟩
      rcases hh with ⟨rfl, ⟨o', rfl, m', h1', h2', h3', h4'⟩, hp'⟩ | ⟨l, rfl, ml⟩
      · dsimp only at m' h1' h2' h3' h4' hp' ⊢
        refine kasC_bind (kasC_lift (wpAny_rule ?_))
        refine kasC_bind (kasC_for (fun t' c st' => c.1 = none ∧ MidR lt u v it c.2.2.2.1 c.2.1 c.2.2.1 ∧ c.2.1 + c.2.2.1 + 1 ≤ na + nb ∧ ∃ g, st' = setG st g) (fun c st' => (∃ g, st' = setG st g) ∧ ((c.1 = none ∧ MidR lt u v it c.2.2.2.1 c.2.1 c.2.2.1 ∧ c.2.1 + c.2.2.1 + 1 ≤ na + nb) ∨ Res lt u v it c.1)) ⟨rfl, ⟨_, rfl, m', h1', h2', h3', h4'⟩, by dsimp only; omega, _, rfl⟩ ?_ ?_ ?_)
        · rintro t' x ⟨r, na2, nb2, out, mg', ac, bc⟩ st' ht' ⟨rfl, ⟨o2, rfl, m2, h12, h22, h32, h42⟩, hp2, g1, rfl⟩
          dsimp only at m2 h12 h22 h32 h42 hp2 ⊢
          obtain ⟨y, hy, yn⟩ := getV (i := nb2 - 1) (by omega)
          by_cases zg : mg' > 1
          · rw [if_pos zg]
            refine kasC_bind (qset ?_)
            refine kasC_bind (qelem (its_get hy) (kasC_bind (gallop_ok (g := fun i => u.getD i 0) hc hk (fun i hi => ?_) (fun i hi => ?_) yn (fun i j hij hj hb => ?_) (by omega) fun k kl kt kf => ?_)))
            · obtain ⟨t', ht', _⟩ := getU (i := i) (by omega)
              rw [Nat.zero_add, its_get ht', List.getD_eq_getElem?_getD, ht']
              rfl
            · obtain ⟨t', ht', tn'⟩ := getU (i := i) (by omega)
              rw [List.getD_eq_getElem?_getD, ht']
              exact tn'
            · obtain ⟨ti, hti, _⟩ := getU (i := i) (by omega)
              obtain ⟨tj, htj, _⟩ := getU (i := j) (by omega)
              simp only [byG, Bool.false_eq_true, if_false, List.getD_eq_getElem?_getD, hti, htj, Option.getD_some, Bool.not_eq_true'] at hb ⊢
              exact od.tr _ _ _ (upu hti (by omega) htj) hb
            have gu : ∀ {a b z : Nat}, a = b → u[b]? = some z → u.getD a 0 = z := fun {a b z} e1 e2 => by rw [e1, List.getD_eq_getElem?_getD, e2]; rfl
            simp only [byG, Bool.false_eq_true, if_false, Bool.not_eq_true', Bool.not_eq_false'] at kt kf
            have lessU : ∀ j z, j < k → u[j]? = some z → lt y z = false := fun j z hj hz => by
              have := kt j hj
              rw [gu rfl hz] at this
              exact this
            try dsimp only
            by_cases zk : na2 - k > 0
            · rw [if_pos zk, its_segR]
              have MO := tkUs m2 kl (by omega) (by omega) (fun i x' h1 h2 hx' j z hj hz => by
                have := kf i h1 h2
                rw [gu rfl hx'] at this
                exact od.tr _ _ _ (upv hz (by omega) hy) (od.as _ _ this))
              by_cases z1 : k = 0
              · rw [if_pos (by simp [z1]), its_done]
                exact kasC_pure ⟨rfl, ⟨_, rfl⟩, .inr ⟨_, rfl, fin1 MO z1 (by omega)⟩⟩
              · rw [if_neg (by simp [z1])]
                refine kasC_bind (qelem (its_get hy) ?_)
                try dsimp only
                rw [its_push]
                have M2 := tkV MO (by omega) (by omega) (by omega) hy (fun j z hj hz => lessU j z hj hz)
                by_cases z2 : nb2 - 1 = 1
                · rw [if_pos (by simp [z2]), its_done]
                  exact kasC_pure ⟨rfl, ⟨_, rfl⟩, .inr ⟨_, rfl, fin2 M2 z2 (by omega)⟩⟩
                · rw [if_neg (by simp [z2])]
                  obtain ⟨x1, hx1, xn1⟩ := getU (i := k - 1) (by omega)
                  refine kasC_bind (qelem (its_get hx1) (kasC_bind (gallop_ok (g := fun i => v.getD i 0) hc hk (fun i hi => ?_) (fun i hi => ?_) xn1 (fun i j hij hj hb => ?_) (by omega) fun k2 k2l kt2 kf2 => ?_)))
                  · obtain ⟨t', ht', _⟩ := getV (i := i) (by omega)
                    rw [Nat.zero_add, its_get ht', List.getD_eq_getElem?_getD, ht']
                    rfl
                  · obtain ⟨t', ht', tn'⟩ := getV (i := i) (by omega)
                    rw [List.getD_eq_getElem?_getD, ht']
                    exact tn'
                  · obtain ⟨ti, hti, _⟩ := getV (i := i) (by omega)
                    obtain ⟨tj, htj, _⟩ := getV (i := j) (by omega)
                    simp only [byG, if_true, List.getD_eq_getElem?_getD, hti, htj, Option.getD_some] at hb ⊢
                    cases e : lt ti x1 with
                    | true => rfl
                    | false => rw [od.tr _ _ _ e (upv hti (by omega) htj)] at hb; cases hb
                  have gv : ∀ {a b z : Nat}, a = b → v[b]? = some z → v.getD a 0 = z := fun {a b z} e1 e2 => by rw [e1, List.getD_eq_getElem?_getD, e2]; rfl
                  simp only [byG, if_true] at kt2 kf2
                  have k21 : 1 ≤ k2 := by
                    by_cases z : 1 ≤ k2
                    · exact z
                    · have := kf2 0 (by omega) (by omega)
                      rw [gv rfl hy0, first y0 hy0 x1 (List.mem_of_getElem? hx1)] at this
                      cases this
                  try dsimp only
                  by_cases z3 : nb2 - 1 - k2 > 0
                  · rw [if_pos z3, its_segR]
                    have M3 := tkVs M2 k2l (by omega) (by omega) (fun i x' h1 h2 hx' j z hj hz => by
                      have := kf2 i h1 (by omega)
                      rw [gv rfl hx'] at this
                      exact od.tr _ _ _ (upu hz (by omega) hx1) this)
                    by_cases z5 : k2 = 1
                    · rw [if_pos (by simp [z5]), its_done]
                      exact kasC_pure ⟨rfl, ⟨_, rfl⟩, .inr ⟨_, rfl, fin2 M3 z5 (by omega)⟩⟩
                    · rw [if_neg (by simp [z5]), if_neg (by simp; omega)]
                      refine kasC_bind (qelem (its_get hx1) ?_)
                      try dsimp only
                      rw [its_push]
                      have M4 := tkU M3 (by omega) (by omega) (by omega) hx1 (fun j z hj hz => by
                        have := kt2 j (by omega)
                        rw [gv rfl hz] at this
                        exact od.as _ _ this)
                      by_cases z4 : k - 1 = 0
                      · rw [if_pos (by simp [z4]), its_done]
                        exact kasC_pure ⟨rfl, ⟨_, rfl⟩, .inr ⟨_, rfl, fin1 M4 z4 (by omega)⟩⟩
                      · rw [if_neg (by simp [z4])]
                        split
                        · exact kasC_pure ⟨rfl, ⟨_, rfl⟩, .inl ⟨rfl, ⟨_, rfl, M4, by dsimp only; omega, by dsimp only; omega, by dsimp only; omega, by dsimp only; omega⟩, by dsimp only; omega⟩⟩
                        · exact kasC_pure ⟨rfl, rfl, ⟨_, rfl, M4, by dsimp only; omega, by dsimp only; omega, by dsimp only; omega, by dsimp only; omega⟩, by dsimp only; omega, _, rfl⟩
                  · rw [if_neg z3]
                    obtain rfl : k2 = nb2 - 1 := by omega
                    refine kasC_bind (qelem (its_get hx1) ?_)
                    try dsimp only
                    rw [its_push]
                    have M4 := tkU M2 (by omega) (by omega) (by omega) hx1 (fun j z hj hz => by
                      have := kt2 j (by omega)
                      rw [gv rfl hz] at this
                      exact od.as _ _ this)
                    by_cases z4 : k - 1 = 0
                    · rw [if_pos (by simp [z4]), its_done]
                      exact kasC_pure ⟨rfl, ⟨_, rfl⟩, .inr ⟨_, rfl, fin1 M4 z4 (by omega)⟩⟩
                    · rw [if_neg (by simp [z4])]
                      split
                      · exact kasC_pure ⟨rfl, ⟨_, rfl⟩, .inl ⟨rfl, ⟨_, rfl, M4, by dsimp only; omega, by dsimp only; omega, by dsimp only; omega, by dsimp only; omega⟩, by dsimp only; omega⟩⟩
                      · exact kasC_pure ⟨rfl, rfl, ⟨_, rfl, M4, by dsimp only; omega, by dsimp only; omega, by dsimp only; omega, by dsimp only; omega⟩, by dsimp only; omega, _, rfl⟩
            · rw [if_neg zk]
              obtain rfl : k = na2 := by omega
              have MO := m2
              refine kasC_bind (qelem (its_get hy) ?_)
              try dsimp only
              rw [its_push]
              have M2 := tkV MO (by omega) (by omega) (by omega) hy (fun j z hj hz => lessU j z hj hz)
              by_cases z2 : nb2 - 1 = 1
              · rw [if_pos (by simp [z2]), its_done]
                exact kasC_pure ⟨rfl, ⟨_, rfl⟩, .inr ⟨_, rfl, fin2 M2 z2 (by omega)⟩⟩
              · rw [if_neg (by simp [z2])]
                obtain ⟨x1, hx1, xn1⟩ := getU (i := k - 1) (by omega)
                refine kasC_bind (qelem (its_get hx1) (kasC_bind (gallop_ok (g := fun i => v.getD i 0) hc hk (fun i hi => ?_) (fun i hi => ?_) xn1 (fun i j hij hj hb => ?_) (by omega) fun k2 k2l kt2 kf2 => ?_)))
                · obtain ⟨t', ht', _⟩ := getV (i := i) (by omega)
                  rw [Nat.zero_add, its_get ht', List.getD_eq_getElem?_getD, ht']
                  rfl
                · obtain ⟨t', ht', tn'⟩ := getV (i := i) (by omega)
                  rw [List.getD_eq_getElem?_getD, ht']
                  exact tn'
                · obtain ⟨ti, hti, _⟩ := getV (i := i) (by omega)
                  obtain ⟨tj, htj, _⟩ := getV (i := j) (by omega)
                  simp only [byG, if_true, List.getD_eq_getElem?_getD, hti, htj, Option.getD_some] at hb ⊢
                  cases e : lt ti x1 with
                  | true => rfl
                  | false => rw [od.tr _ _ _ e (upv hti (by omega) htj)] at hb; cases hb
                have gv : ∀ {a b z : Nat}, a = b → v[b]? = some z → v.getD a 0 = z := fun {a b z} e1 e2 => by rw [e1, List.getD_eq_getElem?_getD, e2]; rfl
                simp only [byG, if_true] at kt2 kf2
                have k21 : 1 ≤ k2 := by
                  by_cases z : 1 ≤ k2
                  · exact z
                  · have := kf2 0 (by omega) (by omega)
                    rw [gv rfl hy0, first y0 hy0 x1 (List.mem_of_getElem? hx1)] at this
                    cases this
                try dsimp only
                by_cases z3 : nb2 - 1 - k2 > 0
                · rw [if_pos z3, its_segR]
                  have M3 := tkVs M2 k2l (by omega) (by omega) (fun i x' h1 h2 hx' j z hj hz => by
                    have := kf2 i h1 (by omega)
                    rw [gv rfl hx'] at this
                    exact od.tr _ _ _ (upu hz (by omega) hx1) this)
                  by_cases z5 : k2 = 1
                  · rw [if_pos (by simp [z5]), its_done]
                    exact kasC_pure ⟨rfl, ⟨_, rfl⟩, .inr ⟨_, rfl, fin2 M3 z5 (by omega)⟩⟩
                  · rw [if_neg (by simp [z5]), if_neg (by simp; omega)]
                    refine kasC_bind (qelem (its_get hx1) ?_)
                    try dsimp only
                    rw [its_push]
                    have M4 := tkU M3 (by omega) (by omega) (by omega) hx1 (fun j z hj hz => by
                      have := kt2 j (by omega)
                      rw [gv rfl hz] at this
                      exact od.as _ _ this)
                    by_cases z4 : k - 1 = 0
                    · rw [if_pos (by simp [z4]), its_done]
                      exact kasC_pure ⟨rfl, ⟨_, rfl⟩, .inr ⟨_, rfl, fin1 M4 z4 (by omega)⟩⟩
                    · rw [if_neg (by simp [z4])]
                      split
                      · exact kasC_pure ⟨rfl, ⟨_, rfl⟩, .inl ⟨rfl, ⟨_, rfl, M4, by dsimp only; omega, by dsimp only; omega, by dsimp only; omega, by dsimp only; omega⟩, by dsimp only; omega⟩⟩
                      · exact kasC_pure ⟨rfl, rfl, ⟨_, rfl, M4, by dsimp only; omega, by dsimp only; omega, by dsimp only; omega, by dsimp only; omega⟩, by dsimp only; omega, _, rfl⟩
                · rw [if_neg z3]
                  obtain rfl : k2 = nb2 - 1 := by omega
                  refine kasC_bind (qelem (its_get hx1) ?_)
                  try dsimp only
                  rw [its_push]
                  have M4 := tkU M2 (by omega) (by omega) (by omega) hx1 (fun j z hj hz => by
                    have := kt2 j (by omega)
                    rw [gv rfl hz] at this
                    exact od.as _ _ this)
                  by_cases z4 : k - 1 = 0
                  · rw [if_pos (by simp [z4]), its_done]
                    exact kasC_pure ⟨rfl, ⟨_, rfl⟩, .inr ⟨_, rfl, fin1 M4 z4 (by omega)⟩⟩
                  · rw [if_neg (by simp [z4])]
                    split
                    · exact kasC_pure ⟨rfl, ⟨_, rfl⟩, .inl ⟨rfl, ⟨_, rfl, M4, by dsimp only; omega, by dsimp only; omega, by dsimp only; omega, by dsimp only; omega⟩, by dsimp only; omega⟩⟩
                    · exact kasC_pure ⟨rfl, rfl, ⟨_, rfl, M4, by dsimp only; omega, by dsimp only; omega, by dsimp only; omega, by dsimp only; omega⟩, by dsimp only; omega, _, rfl⟩
          · rw [if_neg zg]
            refine kasC_bind (qset ?_)
            refine kasC_bind (qelem (its_get hy) (kasC_bind (gallop_ok (g := fun i => u.getD i 0) hc hk (fun i hi => ?_) (fun i hi => ?_) yn (fun i j hij hj hb => ?_) (by omega) fun k kl kt kf => ?_)))
            · obtain ⟨t', ht', _⟩ := getU (i := i) (by omega)
              rw [Nat.zero_add, its_get ht', List.getD_eq_getElem?_getD, ht']
              rfl
            · obtain ⟨t', ht', tn'⟩ := getU (i := i) (by omega)
              rw [List.getD_eq_getElem?_getD, ht']
              exact tn'
            · obtain ⟨ti, hti, _⟩ := getU (i := i) (by omega)
              obtain ⟨tj, htj, _⟩ := getU (i := j) (by omega)
              simp only [byG, Bool.false_eq_true, if_false, List.getD_eq_getElem?_getD, hti, htj, Option.getD_some, Bool.not_eq_true'] at hb ⊢
              exact od.tr _ _ _ (upu hti (by omega) htj) hb
            have gu : ∀ {a b z : Nat}, a = b → u[b]? = some z → u.getD a 0 = z := fun {a b z} e1 e2 => by rw [e1, List.getD_eq_getElem?_getD, e2]; rfl
            simp only [byG, Bool.false_eq_true, if_false, Bool.not_eq_true', Bool.not_eq_false'] at kt kf
            have lessU : ∀ j z, j < k → u[j]? = some z → lt y z = false := fun j z hj hz => by
              have := kt j hj
              rw [gu rfl hz] at this
              exact this
            try dsimp only
            by_cases zk : na2 - k > 0
            · rw [if_pos zk, its_segR]
              have MO := tkUs m2 kl (by omega) (by omega) (fun i x' h1 h2 hx' j z hj hz => by
                have := kf i h1 h2
                rw [gu rfl hx'] at this
                exact od.tr _ _ _ (upv hz (by omega) hy) (od.as _ _ this))
              by_cases z1 : k = 0
              · rw [if_pos (by simp [z1]), its_done]
                exact kasC_pure ⟨rfl, ⟨_, rfl⟩, .inr ⟨_, rfl, fin1 MO z1 (by omega)⟩⟩
              · rw [if_neg (by simp [z1])]
                refine kasC_bind (qelem (its_get hy) ?_)
                try dsimp only
                rw [its_push]
                have M2 := tkV MO (by omega) (by omega) (by omega) hy (fun j z hj hz => lessU j z hj hz)
                by_cases z2 : nb2 - 1 = 1
                · rw [if_pos (by simp [z2]), its_done]
                  exact kasC_pure ⟨rfl, ⟨_, rfl⟩, .inr ⟨_, rfl, fin2 M2 z2 (by omega)⟩⟩
                · rw [if_neg (by simp [z2])]
                  obtain ⟨x1, hx1, xn1⟩ := getU (i := k - 1) (by omega)
                  refine kasC_bind (qelem (its_get hx1) (kasC_bind (gallop_ok (g := fun i => v.getD i 0) hc hk (fun i hi => ?_) (fun i hi => ?_) xn1 (fun i j hij hj hb => ?_) (by omega) fun k2 k2l kt2 kf2 => ?_)))
                  · obtain ⟨t', ht', _⟩ := getV (i := i) (by omega)
                    rw [Nat.zero_add, its_get ht', List.getD_eq_getElem?_getD, ht']
                    rfl
                  · obtain ⟨t', ht', tn'⟩ := getV (i := i) (by omega)
                    rw [List.getD_eq_getElem?_getD, ht']
                    exact tn'
                  · obtain ⟨ti, hti, _⟩ := getV (i := i) (by omega)
                    obtain ⟨tj, htj, _⟩ := getV (i := j) (by omega)
                    simp only [byG, if_true, List.getD_eq_getElem?_getD, hti, htj, Option.getD_some] at hb ⊢
                    cases e : lt ti x1 with
                    | true => rfl
                    | false => rw [od.tr _ _ _ e (upv hti (by omega) htj)] at hb; cases hb
                  have gv : ∀ {a b z : Nat}, a = b → v[b]? = some z → v.getD a 0 = z := fun {a b z} e1 e2 => by rw [e1, List.getD_eq_getElem?_getD, e2]; rfl
                  simp only [byG, if_true] at kt2 kf2
                  have k21 : 1 ≤ k2 := by
                    by_cases z : 1 ≤ k2
                    · exact z
                    · have := kf2 0 (by omega) (by omega)
                      rw [gv rfl hy0, first y0 hy0 x1 (List.mem_of_getElem? hx1)] at this
                      cases this
                  try dsimp only
                  by_cases z3 : nb2 - 1 - k2 > 0
                  · rw [if_pos z3, its_segR]
                    have M3 := tkVs M2 k2l (by omega) (by omega) (fun i x' h1 h2 hx' j z hj hz => by
                      have := kf2 i h1 (by omega)
                      rw [gv rfl hx'] at this
                      exact od.tr _ _ _ (upu hz (by omega) hx1) this)
                    by_cases z5 : k2 = 1
                    · rw [if_pos (by simp [z5]), its_done]
                      exact kasC_pure ⟨rfl, ⟨_, rfl⟩, .inr ⟨_, rfl, fin2 M3 z5 (by omega)⟩⟩
                    · rw [if_neg (by simp [z5]), if_neg (by simp; omega)]
                      refine kasC_bind (qelem (its_get hx1) ?_)
                      try dsimp only
                      rw [its_push]
                      have M4 := tkU M3 (by omega) (by omega) (by omega) hx1 (fun j z hj hz => by
                        have := kt2 j (by omega)
                        rw [gv rfl hz] at this
                        exact od.as _ _ this)
                      by_cases z4 : k - 1 = 0
                      · rw [if_pos (by simp [z4]), its_done]
                        exact kasC_pure ⟨rfl, ⟨_, rfl⟩, .inr ⟨_, rfl, fin1 M4 z4 (by omega)⟩⟩
                      · rw [if_neg (by simp [z4])]
                        split
                        · exact kasC_pure ⟨rfl, ⟨_, rfl⟩, .inl ⟨rfl, ⟨_, rfl, M4, by dsimp only; omega, by dsimp only; omega, by dsimp only; omega, by dsimp only; omega⟩, by dsimp only; omega⟩⟩
                        · exact kasC_pure ⟨rfl, rfl, ⟨_, rfl, M4, by dsimp only; omega, by dsimp only; omega, by dsimp only; omega, by dsimp only; omega⟩, by dsimp only; omega, _, rfl⟩
                  · rw [if_neg z3]
                    obtain rfl : k2 = nb2 - 1 := by omega
                    refine kasC_bind (qelem (its_get hx1) ?_)
                    try dsimp only
                    rw [its_push]
                    have M4 := tkU M2 (by omega) (by omega) (by omega) hx1 (fun j z hj hz => by
                      have := kt2 j (by omega)
                      rw [gv rfl hz] at this
                      exact od.as _ _ this)
                    by_cases z4 : k - 1 = 0
                    · rw [if_pos (by simp [z4]), its_done]
                      exact kasC_pure ⟨rfl, ⟨_, rfl⟩, .inr ⟨_, rfl, fin1 M4 z4 (by omega)⟩⟩
                    · rw [if_neg (by simp [z4])]
                      split
                      · exact kasC_pure ⟨rfl, ⟨_, rfl⟩, .inl ⟨rfl, ⟨_, rfl, M4, by dsimp only; omega, by dsimp only; omega, by dsimp only; omega, by dsimp only; omega⟩, by dsimp only; omega⟩⟩
                      · exact kasC_pure ⟨rfl, rfl, ⟨_, rfl, M4, by dsimp only; omega, by dsimp only; omega, by dsimp only; omega, by dsimp only; omega⟩, by dsimp only; omega, _, rfl⟩
            · rw [if_neg zk]
              obtain rfl : k = na2 := by omega
              have MO := m2
              refine kasC_bind (qelem (its_get hy) ?_)
              try dsimp only
              rw [its_push]
              have M2 := tkV MO (by omega) (by omega) (by omega) hy (fun j z hj hz => lessU j z hj hz)
              by_cases z2 : nb2 - 1 = 1
              · rw [if_pos (by simp [z2]), its_done]
                exact kasC_pure ⟨rfl, ⟨_, rfl⟩, .inr ⟨_, rfl, fin2 M2 z2 (by omega)⟩⟩
              · rw [if_neg (by simp [z2])]
                obtain ⟨x1, hx1, xn1⟩ := getU (i := k - 1) (by omega)
                refine kasC_bind (qelem (its_get hx1) (kasC_bind (gallop_ok (g := fun i => v.getD i 0) hc hk (fun i hi => ?_) (fun i hi => ?_) xn1 (fun i j hij hj hb => ?_) (by omega) fun k2 k2l kt2 kf2 => ?_)))
                · obtain ⟨t', ht', _⟩ := getV (i := i) (by omega)
                  rw [Nat.zero_add, its_get ht', List.getD_eq_getElem?_getD, ht']
                  rfl
                · obtain ⟨t', ht', tn'⟩ := getV (i := i) (by omega)
                  rw [List.getD_eq_getElem?_getD, ht']
                  exact tn'
                · obtain ⟨ti, hti, _⟩ := getV (i := i) (by omega)
                  obtain ⟨tj, htj, _⟩ := getV (i := j) (by omega)
                  simp only [byG, if_true, List.getD_eq_getElem?_getD, hti, htj, Option.getD_some] at hb ⊢
                  cases e : lt ti x1 with
                  | true => rfl
                  | false => rw [od.tr _ _ _ e (upv hti (by omega) htj)] at hb; cases hb
                have gv : ∀ {a b z : Nat}, a = b → v[b]? = some z → v.getD a 0 = z := fun {a b z} e1 e2 => by rw [e1, List.getD_eq_getElem?_getD, e2]; rfl
                simp only [byG, if_true] at kt2 kf2
                have k21 : 1 ≤ k2 := by
                  by_cases z : 1 ≤ k2
                  · exact z
                  · have := kf2 0 (by omega) (by omega)
                    rw [gv rfl hy0, first y0 hy0 x1 (List.mem_of_getElem? hx1)] at this
                    cases this
                try dsimp only
                by_cases z3 : nb2 - 1 - k2 > 0
                · rw [if_pos z3, its_segR]
                  have M3 := tkVs M2 k2l (by omega) (by omega) (fun i x' h1 h2 hx' j z hj hz => by
                    have := kf2 i h1 (by omega)
                    rw [gv rfl hx'] at this
                    exact od.tr _ _ _ (upu hz (by omega) hx1) this)
                  by_cases z5 : k2 = 1
                  · rw [if_pos (by simp [z5]), its_done]
                    exact kasC_pure ⟨rfl, ⟨_, rfl⟩, .inr ⟨_, rfl, fin2 M3 z5 (by omega)⟩⟩
                  · rw [if_neg (by simp [z5]), if_neg (by simp; omega)]
                    refine kasC_bind (qelem (its_get hx1) ?_)
                    try dsimp only
                    rw [its_push]
                    have M4 := tkU M3 (by omega) (by omega) (by omega) hx1 (fun j z hj hz => by
                      have := kt2 j (by omega)
                      rw [gv rfl hz] at this
                      exact od.as _ _ this)
                    by_cases z4 : k - 1 = 0
                    · rw [if_pos (by simp [z4]), its_done]
                      exact kasC_pure ⟨rfl, ⟨_, rfl⟩, .inr ⟨_, rfl, fin1 M4 z4 (by omega)⟩⟩
                    · rw [if_neg (by simp [z4])]
                      split
                      · exact kasC_pure ⟨rfl, ⟨_, rfl⟩, .inl ⟨rfl, ⟨_, rfl, M4, by dsimp only; omega, by dsimp only; omega, by dsimp only; omega, by dsimp only; omega⟩, by dsimp only; omega⟩⟩
                      · exact kasC_pure ⟨rfl, rfl, ⟨_, rfl, M4, by dsimp only; omega, by dsimp only; omega, by dsimp only; omega, by dsimp only; omega⟩, by dsimp only; omega, _, rfl⟩
                · rw [if_neg z3]
                  obtain rfl : k2 = nb2 - 1 := by omega
                  refine kasC_bind (qelem (its_get hx1) ?_)
                  try dsimp only
                  rw [its_push]
                  have M4 := tkU M2 (by omega) (by omega) (by omega) hx1 (fun j z hj hz => by
                    have := kt2 j (by omega)
                    rw [gv rfl hz] at this
                    exact od.as _ _ this)
                  by_cases z4 : k - 1 = 0
                  · rw [if_pos (by simp [z4]), its_done]
                    exact kasC_pure ⟨rfl, ⟨_, rfl⟩, .inr ⟨_, rfl, fin1 M4 z4 (by omega)⟩⟩
                  · rw [if_neg (by simp [z4])]
                    split
                    · exact kasC_pure ⟨rfl, ⟨_, rfl⟩, .inl ⟨rfl, ⟨_, rfl, M4, by dsimp only; omega, by dsimp only; omega, by dsimp only; omega, by dsimp only; omega⟩, by dsimp only; omega⟩⟩
                    · exact kasC_pure ⟨rfl, rfl, ⟨_, rfl, M4, by dsimp only; omega, by dsimp only; omega, by dsimp only; omega, by dsimp only; omega⟩, by dsimp only; omega, _, rfl⟩
        · rintro ⟨r, na', nb', out, mg', ac, bc⟩ st' ⟨rfl, mid, hp', g1, rfl⟩
          exact ⟨⟨g1, rfl⟩, .inl ⟨rfl, mid, hp'⟩⟩
        · rintro ⟨r, na', nb', out, mg', ac, bc⟩ st' ⟨⟨g1, rfl⟩, hh⟩
          rcases hh with ⟨rfl, mid, hp'⟩ | ⟨l, rfl, ml⟩
          · dsimp only at mid hp' ⊢
            refine kasC_bind (qset (kasC_pure ⟨rfl, rfl, mid, ?_, _, rfl⟩))
            dsimp only
            omega
          · exact kasC_pure ⟨rfl, ⟨g1, rfl⟩, l, rfl, ml⟩
      · exact kasC_pure ⟨rfl, ⟨g0, rfl⟩, l, rfl, ml⟩
  · rintro ⟨r, na, nb, out, mg⟩ st' ⟨rfl, ⟨o, rfl, m, h1, h2, h3, h4⟩, hp, g0, rfl⟩
    dsimp only at m h1 h2 hp
    rw [its_size] at hp
    omega
  · rintro ⟨r, na, nb, out, mg⟩ st' ⟨⟨g0, rfl⟩, l, rfl, ml⟩
    exact kasC_pure (q l g0 ml)
end
end L2
set_option Elab.async false
set_option linter.all false
set_option maxRecDepth 100000
namespace L2
open PySem PySem.Spec PyProof.Rows PySem.W
def seg (p : List Nat) (a k : Nat) : List Nat := (p.drop a).take k
theorem seg_get {p : List Nat} {a k i : Nat} (h : i < k) : (seg p a k)[i]? = p[a + i]? := by
  unfold seg
  rw [List.getElem?_take, if_pos h, List.getElem?_drop]
theorem seg_len {p : List Nat} {a k : Nat} (h : a + k ≤ p.length) : (seg p a k).length = k := by
  unfold seg
  rw [List.length_take, List.length_drop]
  omega
theorem seg_drop {p : List Nat} {a k i : Nat} : (seg p a k).drop i = seg p (a + i) (k - i) := by
  unfold seg
  rw [List.drop_take, List.drop_drop]
theorem seg_take {p : List Nat} {a k i : Nat} (h : i ≤ k) : (seg p a k).take i = seg p a i := by
  unfold seg
  rw [List.take_take, Nat.min_eq_left h]
theorem seg_cat {p : List Nat} {a k j : Nat} : seg p a k ++ seg p (a + k) j = seg p a (k + j) := by
  unfold seg
  rw [← List.drop_drop, ← List.take_add]
theorem take_seg {p : List Nat} {a k : Nat} : p.take (a + k) = p.take a ++ seg p a k := List.take_add
theorem seg_rest {p : List Nat} {a k : Nat} : p.drop a = seg p a k ++ p.drop (a + k) := by
  unfold seg
  rw [← List.drop_drop, List.take_append_drop]
def putS (p : List Nat) (a : Nat) (r : List Nat) : List Nat := p.take a ++ r ++ p.drop (a + r.length)
theorem fold_set {α : Type} {a0 : Nat} : ∀ (l : List α) (j : Nat) (xs : List α), a0 + j + l.length ≤ xs.length → (l.zipIdx j).foldl (fun a (q : α × Nat) => a.setIfInBounds (a0 + q.2) q.1) xs.toArray = (xs.take (a0 + j) ++ l ++ xs.drop (a0 + j + l.length)).toArray
  | [], j, xs, h => by simp
  | x :: l, j, xs, h => by
    rw [List.zipIdx_cons, List.foldl_cons]
    have h' : a0 + j + (l.length + 1) ≤ xs.length := h
    have e : xs.toArray.setIfInBounds (a0 + j) x = (xs.set (a0 + j) x).toArray := by simp
    rw [e, fold_set l (j + 1) (xs.set (a0 + j) x) (by rw [List.length_set]; omega)]
    congr 1
    have e1 : (xs.set (a0 + j) x).take (a0 + (j + 1)) = xs.take (a0 + j) ++ [x] := by
      rw [show a0 + (j + 1) = a0 + j + 1 by omega, List.take_add_one, List.take_set_of_le (Nat.le_refl _), List.getElem?_set, if_pos rfl, if_pos (by omega)]
      rfl
    have e2 : (xs.set (a0 + j) x).drop (a0 + (j + 1) + l.length) = xs.drop (a0 + j + (x :: l).length) := by
      rw [List.drop_set_of_lt (by omega), List.length_cons]
      congr 1
      omega
    rw [e1, e2]
    simp
theorem its_back {it : Array Keyed} {p r : List Nat} {a : Nat} (h : a + r.length ≤ p.length) : (its it r).toList.zipIdx.foldl (fun a0 (q : Keyed × Nat) => a0.setIfInBounds (a + q.2) q.1) (its it p) = its it (putS p a r) := by
  have := fold_set (a0 := a) (r.map (kas_item it)) 0 (p.map (kas_item it)) (by rw [List.length_map, List.length_map]; omega)
  unfold its putS
  rw [show ((r.map (kas_item it)).toArray).toList = r.map (kas_item it) by simp]
  rw [this]
  simp [List.map_take, List.map_drop]
section
variable {lt : Nat → Nat → Bool} {p : List Nat} {a na nb k m : Nat} {r : List Nat}
theorem runs_merged (od : Ord lt) (hp : a + na + nb ≤ p.length) (sx : Srt lt (seg p a na)) (sy : Srt lt (seg p (a + na) nb)) (hk : k ≤ na) (hm : m ≤ nb)
    (lo : ∀ i x, i < k → p[a + i]? = some x → ∀ j y, j < nb → p[a + na + j]? = some y → lt y x = false) (hi : ∀ j y, m ≤ j → j < nb → p[a + na + j]? = some y → ∀ i x, i < na → p[a + i]? = some x → lt y x = false)
    (hr : Merged lt (seg p (a + k) (na - k)) (seg p (a + na) m) r) : r.length = na - k + m ∧ ∃ R, Merged lt (seg p a na) (seg p (a + na) nb) R ∧ putS p (a + k) r = putS p a R ∧ R.length = na + nb := by
  have lr : r.length = na - k + m := by
    rw [hr.1.length_eq, List.length_append, seg_len (by omega), seg_len (by omega)]
  have inX : ∀ {a' k' x}, a' + k' ≤ p.length → x ∈ seg p a' k' → ∃ i, i < k' ∧ p[a' + i]? = some x := fun {a' k' x} h hx => by
    obtain ⟨i, hi⟩ := List.mem_iff_getElem?.mp hx
    have := (List.getElem?_eq_some_iff.mp hi).1
    rw [seg_len h] at this
    rw [seg_get this] at hi
    exact ⟨i, this, hi⟩
  have e1 : seg p a na = seg p a k ++ seg p (a + k) (na - k) := by rw [seg_cat, show k + (na - k) = na by omega]
  have e2 : seg p (a + na) nb = seg p (a + na) m ++ seg p (a + na + m) (nb - m) := by rw [seg_cat, show m + (nb - m) = nb by omega]
  refine ⟨lr, seg p a k ++ r ++ seg p (a + na + m) (nb - m), ⟨?_, ?_⟩, ?_, ?_⟩
  · rw [e1, e2, List.append_assoc, List.append_assoc, ← List.append_assoc (seg p (a + k) (na - k))]
    exact List.Perm.append_left _ (hr.1.append_right _)
  · have sx' := sx
    have sy' := sy
    rw [e1] at sx'
    rw [e2] at sy'
    obtain ⟨x1, x2, x3⟩ := List.pairwise_append.mp sx'
    obtain ⟨y1, y2, y3⟩ := List.pairwise_append.mp sy'
    have mr : ∀ z ∈ r, z ∈ seg p (a + k) (na - k) ∨ z ∈ seg p (a + na) m := fun z hz => List.mem_append.mp (hr.1.mem_iff.mp hz)
    refine List.pairwise_append.mpr ⟨List.pairwise_append.mpr ⟨x1, hr.2, fun x hx z hz => ?_⟩, y2, fun x hx z hz => ?_⟩
    · rcases mr z hz with w | w
      · exact x3 x hx z w
      · obtain ⟨i, i1, i2⟩ := inX (by omega) hx
        obtain ⟨j, j1, j2⟩ := inX (by omega) w
        exact lo i x i1 i2 j z (by omega) j2
    · obtain ⟨j, j1, j2⟩ := inX (by omega) hz
      have j2' : p[a + na + (m + j)]? = some z := by rw [show a + na + (m + j) = a + na + m + j by omega]; exact j2
      rcases List.mem_append.mp hx with w | w
      · obtain ⟨i, i1, i2⟩ := inX (by omega) w
        exact lo i x i1 i2 (m + j) z (by omega) j2'
      · rcases mr x w with w | w
        · obtain ⟨i, i1, i2⟩ := inX (by omega) w
          exact hi (m + j) z (by omega) (by omega) j2' (k + i) x (by omega) (by rw [show a + (k + i) = a + k + i by omega]; exact i2)
        · exact y3 x w z hz
  · unfold putS
    rw [lr, List.length_append, List.length_append, seg_len (by omega), seg_len (by omega), lr, take_seg, show a + k + (na - k + m) = a + na + m by omega, show a + (k + (na - k + m) + (nb - m)) = a + na + m + (nb - m) by omega, seg_rest (p := p) (a := a + na + m) (k := nb - m)]
    simp [List.append_assoc]
  · rw [List.length_append, List.length_append, seg_len (by omega), seg_len (by omega), lr]
    omega
end
section
variable {prog : Program} {w : World} {A : Around} {E : Value → Shared → Prop} {κ : SortKind} {it : Array Keyed} {n : Nat} {lt : Nat → Nat → Bool} {s : Shared}
theorem kasC_set {M : Model} {A : Around} {E : Value → Shared → Prop} {σ : Type} {x st : σ} {Q : PUnit → σ → Shared → Prop} {s : Shared} (h : Q ⟨⟩ x s) : kasC M A E (set x : StateT σ Sem PUnit) Q st s := by
  unfold kasC
  rw [StateT.run_set]
  exact wpAny_pure h
theorem its_seg {i j : Nat} {p : List Nat} : (its it p).extract i j = its it (seg p i (j - i)) := by simp [its, seg, List.map_take, List.map_drop]
theorem mergeAt_ok {p : List Nat} {pend : Array (Nat × Nat × Nat)} {g i a na pw nb pw2 : Nat} {Q : Bool → SortSt → Shared → Prop} (hc : Asks n lt (kas_cmp prog w A κ it) s) (od : Ord lt) (hn : ∀ x ∈ p, x < n) (h1 : pend[i]? = some (a, na, pw)) (h2 : pend[i + 1]? = some (a + na, nb, pw2)) (na1 : 0 < na) (nb1 : 0 < nb) (hp : a + na + nb ≤ p.length) (sx : Srt lt (seg p a na)) (sy : Srt lt (seg p (a + na) nb))
    (q : ∀ R g', Merged lt (seg p a na) (seg p (a + na) nb) R → R.length = na + nb → Q true (SortSt.mk' κ (its it (putS p a R)) ((pend.setIfInBounds i (a, na + nb, pw)).eraseIdxIfInBounds (i + 1)) g' none) s) :
    kasC (model prog w) A E (mergeAt' i) Q (SortSt.mk' κ (its it p) pend g none) s := by
  have rf := od.rf
  have getP : ∀ {j}, j < p.length → ∃ x, p[j]? = some x ∧ x < n := fun {j} hj => ⟨p[j], List.getElem?_eq_getElem hj, hn _ (List.getElem_mem hj)⟩
  have upx : ∀ {i j x z}, p[a + i]? = some x → i ≤ j → j < na → p[a + j]? = some z → lt z x = false := fun {i j x z} hx hij hj hz =>
    sx.head (i := i) (by rw [seg_get (by omega)]; exact hx) (rf x) z (List.mem_of_getElem? (i := j - i) (by rw [List.getElem?_drop, show i + (j - i) = j by omega, seg_get hj]; exact hz))
  have upy : ∀ {i j x z}, p[a + na + i]? = some x → i ≤ j → j < nb → p[a + na + j]? = some z → lt z x = false := fun {i j x z} hx hij hj hz =>
    sy.head (i := i) (by rw [seg_get (by omega)]; exact hx) (rf x) z (List.mem_of_getElem? (i := j - i) (by rw [List.getElem?_drop, show i + (j - i) = j by omega, seg_get hj]; exact hz))
  have gp : ∀ {c b z : Nat}, c = b → p[b]? = some z → p.getD c 0 = z := fun {c b z} e1 e2 => by rw [e1, List.getD_eq_getElem?_getD, e2]; rfl
  obtain ⟨y0, hy0, y0n⟩ := getP (j := a + na) (by omega)
  obtain ⟨xl, hxl, xln⟩ := getP (j := a + na - 1) (by omega)
  have hxl' : p[a + (na - 1)]? = some xl := by rw [show a + (na - 1) = a + na - 1 by omega]; exact hxl
  unfold mergeAt'
  k_delta "mergeAt"
  refine kasC_bind (kasC_get ?_)
  dsimp only
  rw [h1, h2]
  dsimp only
  refine kasC_bind (kasC_set ?_)
  refine kasC_bind (qelem (its_get hy0) (kasC_bind (gallop_ok (g := fun i => p.getD (a + i) 0) hc rfl (fun i hi => ?_) (fun i hi => ?_) y0n (fun i j hij hj hb => ?_) na1 fun k kl kt kf => ?_)))
  · obtain ⟨t', ht', _⟩ := getP (j := a + i) (by omega)
    rw [its_get ht', gp rfl ht']
  · obtain ⟨t', ht', tn'⟩ := getP (j := a + i) (by omega)
    rw [gp rfl ht']
    exact tn'
  · obtain ⟨ti, hti, _⟩ := getP (j := a + i) (by omega)
    obtain ⟨tj, htj, _⟩ := getP (j := a + j) (by omega)
    simp only [byG, Bool.false_eq_true, if_false, gp rfl hti, gp rfl htj, Bool.not_eq_true'] at hb ⊢
    exact od.tr _ _ _ (upx hti (by omega) hj htj) hb
  simp only [byG, Bool.false_eq_true, if_false, Bool.not_eq_true', Bool.not_eq_false'] at kt kf
  have lo : ∀ i x, i < k → p[a + i]? = some x → ∀ j y, j < nb → p[a + na + j]? = some y → lt y x = false := fun i x hi hx j y hj hy => by
    have := kt i hi
    rw [gp rfl hx] at this
    exact od.tr _ _ _ this (upy (i := 0) hy0 (Nat.zero_le _) hj hy)
  dsimp only
  by_cases zk : na - k = 0
  · rw [if_pos (by simp [zk])]
    obtain rfl : k = na := by omega
    have e0 : Merged lt (seg p (a + k) (k - k)) (seg p (a + k) 0) [] := by
      unfold seg
      rw [Nat.sub_self, List.take_zero]
      exact ⟨List.Perm.refl _, List.Pairwise.nil⟩
    obtain ⟨_, R, hR, eR, lR⟩ := runs_merged od hp sx sy (Nat.le_refl _) (Nat.zero_le nb) lo (fun j y _ hj hy i x hi hx => lo i x hi hx j y hj hy) e0
    have e1 : putS p (a + k) [] = p := by unfold putS; simp
    rw [e1] at eR
    have := q R g hR lR
    rw [← eR] at this
    exact kasC_pure this
  · rw [if_neg (by simp [zk]), show a + k + (na - k) - 1 = a + na - 1 by omega]
    refine kasC_bind (qelem (its_get hxl) (kasC_bind (gallop_ok (g := fun i => p.getD (a + na + i) 0) hc rfl (fun i hi => ?_) (fun i hi => ?_) xln (fun i j hij hj hb => ?_) (by omega) fun m ml mt mf => ?_)))
    · obtain ⟨t', ht', _⟩ := getP (j := a + na + i) (by omega)
      rw [its_get ht', gp rfl ht']
    · obtain ⟨t', ht', tn'⟩ := getP (j := a + na + i) (by omega)
      rw [gp rfl ht']
      exact tn'
    · obtain ⟨ti, hti, _⟩ := getP (j := a + na + i) (by omega)
      obtain ⟨tj, htj, _⟩ := getP (j := a + na + j) (by omega)
      simp only [byG, if_true, gp rfl hti, gp rfl htj] at hb ⊢
      cases e : lt ti xl with
      | true => rfl
      | false => rw [od.tr _ _ _ e (upy hti hij hj htj)] at hb; cases hb
    simp only [byG, if_true] at mt mf
    have top : ∀ i x, k ≤ i → i < na → p[a + i]? = some x → lt y0 x = true := fun i x h1 h2 hx => by
      have := kf i h1 h2
      rw [gp rfl hx] at this
      exact this
    have m1 : 0 < m := by
      by_cases z : 0 < m
      · exact z
      · have := mf 0 (by omega) nb1
        rw [gp (show a + na + 0 = a + na by omega) hy0, top (na - 1) xl (by omega) (by omega) hxl'] at this
        cases this
    have hi : ∀ j y, m ≤ j → j < nb → p[a + na + j]? = some y → ∀ i x, i < na → p[a + i]? = some x → lt y x = false := fun j y h1 h2 hy i x hi hx => by
      have := mf j h1 h2
      rw [gp rfl hy] at this
      exact od.tr _ _ _ (upx hx (show i ≤ na - 1 by omega) (by omega) hxl') this
    dsimp only
    rw [if_neg (by simp; omega), its_seg, its_seg, show a + na - (a + k) = na - k by omega, show a + na + m - (a + na) = m by omega]
    have lu : (seg p (a + k) (na - k)).length = na - k := seg_len (by omega)
    have lv : (seg p (a + na) m).length = m := seg_len (by omega)
    have su : Srt lt (seg p (a + k) (na - k)) := by rw [← seg_drop]; exact sx.drop k
    have sv : Srt lt (seg p (a + na) m) := by rw [← seg_take ml]; exact List.Pairwise.sublist (List.take_sublist _ _) sy
    have mem : ∀ {b c x}, x ∈ seg p b c → x ∈ p := fun h => List.mem_of_mem_drop (List.mem_of_mem_take h)
    have fst : ∀ y, (seg p (a + na) m)[0]? = some y → ∀ x ∈ seg p (a + k) (na - k), lt y x = true := fun y hy x hx => by
      rw [seg_get m1, Nat.add_zero, hy0] at hy
      cases hy
      obtain ⟨i, hi⟩ := List.mem_iff_getElem?.mp hx
      have il := (List.getElem?_eq_some_iff.mp hi).1
      rw [lu] at il
      rw [seg_get il] at hi
      exact top (k + i) x (by omega) (by omega) (by rw [show a + (k + i) = a + k + i by omega]; exact hi)
    have lst : ∀ y ∈ seg p (a + na) m, ∀ x, (seg p (a + k) (na - k))[(seg p (a + k) (na - k)).length - 1]? = some x → lt y x = true := fun y hy x hx => by
      rw [lu, seg_get (by omega), show a + k + (na - k - 1) = a + na - 1 by omega, hxl] at hx
      cases hx
      obtain ⟨j, hj⟩ := List.mem_iff_getElem?.mp hy
      have jl := (List.getElem?_eq_some_iff.mp hj).1
      rw [lv] at jl
      rw [seg_get jl] at hj
      have := mt j jl
      rw [gp rfl hj] at this
      exact this
    by_cases z : na - k ≤ m
    · rw [if_pos z]
      refine kasC_bind (mergeLo_ok hc od rfl (fun x hx => hn x (mem hx)) (fun x hx => hn x (mem hx)) su sv (by omega) (by omega) (fun y x hy hx => fst y hy x (List.mem_of_getElem? hx)) lst fun r g' hr => ?_)
      refine kasC_bind (kasC_modify (kasC_bind (kasC_get (kasC_pure ?_))))
      obtain ⟨lr, R, hR, eR, lR⟩ := runs_merged od hp sx sy kl ml lo hi hr
      dsimp only
      rw [its_back (by rw [lr]; omega), eR]
      exact q R g' hR lR
    · rw [if_neg z]
      refine kasC_bind (mergeHi_ok hc od rfl (fun x hx => hn x (mem hx)) (fun x hx => hn x (mem hx)) su sv (by omega) (by omega) fst lst fun r g' hr => ?_)
      refine kasC_bind (kasC_modify (kasC_bind (kasC_get (kasC_pure ?_))))
      obtain ⟨lr, R, hR, eR, lR⟩ := runs_merged od hp sx sy kl ml lo hi hr
      dsimp only
      rw [its_back (by rw [lr]; omega), eR]
      exact q R g' hR lR
end
end L2
set_option Elab.async false
set_option linter.all false
set_option maxRecDepth 100000
namespace L2
open PySem PySem.Spec PyProof.Rows PySem.W
section
variable {lt : Nat → Nat → Bool} {f f' : Nat → Nat} {m : Nat}
def UpF (lt : Nat → Nat → Bool) (f : Nat → Nat) (m : Nat) : Prop := ∀ i j, i ≤ j → j < m → lt (f j) (f i) = false
def DnF (lt : Nat → Nat → Bool) (f : Nat → Nat) (m : Nat) : Prop := ∀ i j, i ≤ j → j < m → lt (f i) (f j) = false
def EvF (lt : Nat → Nat → Bool) (f : Nat → Nat) (u v : Nat) : Prop := ∀ i j, u ≤ i → i < v → u ≤ j → j < v → lt (f i) (f j) = false
def AlF (lt : Nat → Nat → Bool) (f f' : Nat → Nat) : Prop := ∀ k, lt (f' k) (f k) = false ∧ lt (f k) (f' k) = false
theorem upF_snoc (o : Ord lt) (h : UpF lt f (m + 1)) (hl : lt (f (m + 1)) (f m) = false) : UpF lt f (m + 2) := fun i j hij hj => by
  by_cases e : j = m + 1
  · subst e
    by_cases e2 : i = m + 1
    · rw [e2]; exact o.rf _
    · exact o.tr _ _ _ (h i m (by omega) (by omega)) hl
  · exact h i j hij (by omega)
theorem dnF_snoc (o : Ord lt) (h : DnF lt f (m + 1)) (hl : lt (f m) (f (m + 1)) = false) : DnF lt f (m + 2) := fun i j hij hj => by
  by_cases e : j = m + 1
  · subst e
    by_cases e2 : i = m + 1
    · rw [e2]; exact o.rf _
    · exact o.tr _ _ _ hl (h i m (by omega) (by omega))
  · exact h i j hij (by omega)
theorem dnF_alike (o : Ord lt) (h : DnF lt f m) (e : AlF lt f f') : DnF lt f' m := fun i j hij hj => o.tr _ _ _ (e j).2 (o.tr _ _ _ (h i j hij hj) (e i).1)
theorem upF_one (o : Ord lt) : UpF lt f 1 := fun i j h1 h2 => by
  rw [show i = 0 by omega, show j = 0 by omega]
  exact o.rf _
end
section
variable {M : Model} {A : Around} {E : Value → Shared → Prop} {σ : Type} {s : Shared}
theorem kasC_forI {β : Type} {a b : Nat} {c : β} {f : Nat → β → StateT σ Sem (ForInStep β)} {Q : β → σ → Shared → Prop} {st : σ} (J : Nat → β → σ → Prop) (F : β → σ → Prop) (h0 : J 0 c st)
    (hs : ∀ k c st, k < b - a → J k c st → kasC M A E (f (a + k) c) (fun r st' s' => s' = s ∧ (match r with | .done c' => F c' st' | .yield c' => J (k + 1) c' st')) st s) (hd : ∀ c st, J (b - a) c st → F c st) (hq : ∀ c st, F c st → Q c st s) : kasC M A E (forIn [a:b] c f) Q st s := by
  refine kasC_range ?_
  have go : ∀ (m k : Nat) (c : β) (st : σ), k + m = b - a → J k c st → kasC M A E (forIn (List.range' (a + k) m) c f) Q st s := by
    intro m
    induction m with
    | zero =>
      intro k c st hl j
      refine kasC_nil (hq c st (hd c st ?_))
      rw [← show k = b - a by omega]
      exact j
    | succ m ih =>
      intro k c st hl j
      rw [List.range'_succ]
      refine kasC_cons (wpAny_mono (hs k c st (by omega) j) (fun r s' h => ?_) fun _ _ e => e)
      obtain ⟨r, st'⟩ := r
      obtain ⟨rfl, h⟩ := h
      cases r with
      | done c' => exact hq c' st' h
      | yield c' => exact ih (k + 1) c' st' (by omega) h
  have := go (b - a) 0 c st (by omega) h0
  rw [Nat.add_zero] at this
  exact this
end
def Kl (lo : Nat) (p : Array Nat) (i : Nat) : Nat := Kp p (lo + i)
section
variable {lt : Nat → Nat → Bool} {p : Array Nat} {lo u v : Nat}
theorem kl_rev (hv : lo + v ≤ p.size) (huv : u ≤ v) (k : Nat) : Kl lo (kas_rev p (lo + u) (lo + v)) k = if u ≤ k ∧ k < v then Kl lo p (u + v - 1 - k) else Kl lo p k := by
  unfold Kl
  rw [kp_rev hv (by omega)]
  by_cases h : u ≤ k ∧ k < v
  · rw [if_pos ⟨by omega, by omega⟩, if_pos h]
    congr 1
    omega
  · rw [if_neg (by omega), if_neg h]
theorem pre_rev (hv : lo + v ≤ p.size) (huv : u ≤ v) {i : Nat} (hi : i < lo) : Kp (kas_rev p (lo + u) (lo + v)) i = Kp p i := by
  rw [kp_rev hv (by omega), if_neg (by omega)]
theorem al_rev (o : Ord lt) (hv : lo + v ≤ p.size) (huv : u ≤ v) (he : EvF lt (Kl lo p) u v) : AlF lt (Kl lo p) (Kl lo (kas_rev p (lo + u) (lo + v))) := fun k => by
  rw [kl_rev hv huv]
  by_cases h : u ≤ k ∧ k < v
  · rw [if_pos h]
    exact ⟨he _ _ (by omega) (by omega) h.1 h.2, he _ _ h.1 h.2 (by omega) (by omega)⟩
  · rw [if_neg h]
    exact ⟨o.rf _, o.rf _⟩
end
structure Kept (n lo : Nat) (p0 p : Array Nat) : Prop where
  pm : Pm n p
  pre : ∀ i, i < lo → Kp p i = Kp p0 i
theorem Kept.rev {n lo u v : Nat} {p0 p : Array Nat} (h : Kept n lo p0 p) (hv : lo + v ≤ n) (huv : u ≤ v) : Kept n lo p0 (kas_rev p (lo + u) (lo + v)) :=
  ⟨h.pm.rev _ _, fun i hi => by rw [pre_rev (by rw [h.pm.size]; exact hv) huv hi]; exact h.pre i hi⟩
section
variable {prog : Program} {w : World} {A : Around} {E : Value → Shared → Prop} {κ : SortKind} {it : Array Keyed} {n : Nat} {lt : Nat → Nat → Bool} {s : Shared} {pend : Array (Nat × Nat × Nat)} {g : Nat} {p : Array Nat}
abbrev sst (κ : SortKind) (it : Array Keyed) (pend : Array (Nat × Nat × Nat)) (g : Nat) (p : Array Nat) : SortSt := SortSt.mk' κ (p.map (kas_item it)) pend g none
theorem rltAt {i j : Nat} {Q : Option Bool → SortSt → Shared → Prop} (hc : Asks n lt (kas_cmp prog w A κ it) s) (P : Pm n p) (hi : i < n) (hj : j < n) (h : Q (some (lt (Kp p i) (Kp p j))) (sst κ it pend g p) s) : kasC (model prog w) A E (ltAt' i j) Q (sst κ it pend g p) s := by
  have at' : ∀ {i}, i < n → (p.map (kas_item it))[i]? = some (kas_item it (Kp p i)) := fun {i} hi => by
    have sz := P.size
    have e : p[i]? = some (Kp p i) := by unfold Kp; simp [Array.getD, sz, hi]
    rw [Array.getElem?_map, e]
    rfl
  rw [ltAt'_eq]
  exact kasC_bind (kasC_get (kasC_bind (qelem (at' hi) (kasC_bind (qelem (at' hj) (qlt hc rfl (P.below (by omega) _) (P.below (by omega) _) h))))))
theorem rrev {i j : Nat} {Q : Unit → SortSt → Shared → Prop} (h : Q () (sst κ it pend g (kas_rev p i j)) s) : kasC (model prog w) A E (reverseSlice' i j) Q (sst κ it pend g p) s := by
  rw [reverseSlice'_eq]
  refine kasC_modify ?_
  have e1 : mirror (p.map (kas_item it)) i j ((j - i) / 2) = (kas_rev p i j).map (kas_item it) := kas_swaps_map (kas_item it) (fun k => i + k) (fun k => j - 1 - k) _ p
  show Q () (SortSt.mk' κ (mirror (p.map (kas_item it)) i j ((j - i) / 2)) pend g none) s
  rw [e1]
  exact h
theorem rmove {k l : Nat} {Q : Unit → SortSt → Shared → Prop} (h : Q () (sst κ it pend g (bubble p k (k - l))) s) : kasC (model prog w) A E (moveDown' k l) Q (sst κ it pend g p) s := by
  rw [moveDown'_eq]
  refine kasC_modify ?_
  have e1 : bubble (p.map (kas_item it)) k (k - l) = (bubble p k (k - l)).map (kas_item it) := kas_swaps_map (kas_item it) (fun i => k - i) (fun i => k - i - 1) _ p
  show Q () (SortSt.mk' κ (bubble (p.map (kas_item it)) k (k - l)) pend g none) s
  rw [e1]
  exact h
theorem binary_ok {lo m ok : Nat} {Q : Bool → SortSt → Shared → Prop} (hc : Asks n lt (kas_cmp prog w A κ it) s) (o : Ord lt) (P : Pm n p) (hm : lo + m ≤ n) (h1 : 1 ≤ ok) (hu : UpF lt (Kl lo p) ok) (hok : ok ≤ m) (q : ∀ p', Kept n lo p p' → UpF lt (Kl lo p') m → Q true (sst κ it pend g p') s) :
    kasC (model prog w) A E (binarySort' lo m ok) Q (sst κ it pend g p) s := by
  rw [binarySort'_eq]
  have e1 : max ok 1 = ok := by omega
  rw [e1]
  refine kasC_bind (kasC_forI (fun t c st' => c.1 = none ∧ ∃ p', st' = sst κ it pend g p' ∧ Kept n lo p p' ∧ UpF lt (Kl lo p') (ok + t)) (fun c st' => c.1 = none ∧ ∃ p', st' = sst κ it pend g p' ∧ Kept n lo p p' ∧ UpF lt (Kl lo p') m) ⟨rfl, p, rfl, ⟨P, fun _ _ => rfl⟩, hu⟩ ?_ ?_ ?_)
  · rintro t ⟨r, _⟩ st' ht ⟨rfl, p', rfl, kp, up⟩
    have sz := kp.pm.size
    dsimp only
    refine kasC_bind (kasC_for (fun t2 c st'' => st'' = sst κ it pend g p' ∧ c.1 = none ∧ c.2.1 ≤ c.2.2 ∧ c.2.2 ≤ ok + t ∧ c.2.2 - c.2.1 + t2 ≤ ok + t ∧ (∀ i, i < c.2.1 → lt (Kl lo p' (ok + t)) (Kl lo p' i) = false) ∧ (∀ i, c.2.2 ≤ i → i < ok + t → lt (Kl lo p' i) (Kl lo p' (ok + t)) = false)) (fun c st'' => st'' = sst κ it pend g p' ∧ c.1 = none ∧ c.2.1 ≤ ok + t ∧ (∀ i, i < c.2.1 → lt (Kl lo p' (ok + t)) (Kl lo p' i) = false) ∧ (∀ i, c.2.1 ≤ i → i < ok + t → lt (Kl lo p' i) (Kl lo p' (ok + t)) = false)) ⟨rfl, rfl, Nat.zero_le _, Nat.le_refl _, by dsimp only; omega, fun i hi => absurd hi (Nat.not_lt_zero i), fun i a b => by dsimp only at a; omega⟩ ?_ ?_ ?_)
    · rintro t2 x ⟨r, l, u⟩ st'' ht2 ⟨rfl, rfl, g1, g2, g3, g4, g5⟩
      dsimp only at g1 g2 g3 g4 g5 ⊢
      by_cases z : l ≥ u
      · rw [if_pos z]
        exact kasC_pure ⟨rfl, rfl, rfl, by dsimp only; omega, g4, fun i a b => g5 i (by dsimp only at a; omega) b⟩
      · rw [if_neg z]
        refine kasC_bind (rltAt hc kp.pm (by omega) (by omega) ?_)
        have kk : lt (Kp p' (lo + (ok + t))) (Kp p' (lo + (l + u) / 2)) = lt (Kl lo p' (ok + t)) (Kl lo p' ((l + u) / 2)) := rfl
        rw [kk]
        cases e : lt (Kl lo p' (ok + t)) (Kl lo p' ((l + u) / 2)) with
        | true =>
          dsimp only
          rw [if_pos rfl]
          exact kasC_pure ⟨rfl, rfl, rfl, by dsimp only; omega, by dsimp only; omega, by dsimp only; omega, g4, fun i a b => o.tr _ _ _ (o.as _ _ e) (up _ i a b)⟩
        | false =>
          dsimp only
          rw [if_neg (by decide)]
          exact kasC_pure ⟨rfl, rfl, rfl, by dsimp only; omega, by dsimp only; omega, by dsimp only; omega, fun i a => o.tr _ _ _ (up i ((l + u) / 2) (by dsimp only at a; omega) (by omega)) e, g5⟩
    · rintro ⟨r, l, u⟩ st'' ⟨rfl, rfl, g1, g2, g3, g4, g5⟩
      dsimp only at g1 g2 g3 g4 g5
      exact ⟨rfl, rfl, by dsimp only; omega, g4, fun i a b => g5 i (by dsimp only at a; omega) b⟩
    · rintro ⟨r, l, u⟩ st'' ⟨rfl, rfl, g2, a1, a2⟩
      dsimp only at g2 a1 a2 ⊢
      refine kasC_bind (rmove (kasC_pure ⟨rfl, rfl, _, rfl, ⟨Array.Perm.trans (bubble_perm _ _ _) kp.pm, fun i hi => ?_⟩, fun i j hij hj => ?_⟩))
      · rw [kp_bubble (by omega) (by omega), if_neg (by omega), if_neg (by omega)]
        exact kp.pre i hi
      · have kb : ∀ x, Kl lo (bubble p' (lo + (ok + t)) (lo + (ok + t) - (lo + l))) x = if x = l then Kl lo p' (ok + t) else if l < x ∧ x ≤ ok + t then Kl lo p' (x - 1) else Kl lo p' x := fun x => by
          unfold Kl
          rw [kp_bubble (by omega) (by omega)]
          by_cases h1 : x = l
          · rw [if_pos h1, if_pos (by omega)]
          · rw [if_neg h1, if_neg (by omega)]
            by_cases h2 : l < x ∧ x ≤ ok + t
            · rw [if_pos h2, if_pos ⟨by omega, by omega⟩, show lo + x - 1 = lo + (x - 1) by omega]
            · rw [if_neg h2, if_neg (by omega)]
        rw [kb, kb]
        by_cases i1 : i = l
        · rw [if_pos i1]
          by_cases j1 : j = l
          · rw [if_pos j1]; exact o.rf _
          · rw [if_neg j1, if_pos ⟨by omega, by omega⟩]
            exact a2 (j - 1) (by omega) (by omega)
        · rw [if_neg i1]
          by_cases j1 : j = l
          · rw [if_pos j1, if_neg (by omega)]
            exact a1 i (by omega)
          · rw [if_neg j1]
            by_cases i2 : l < i ∧ i ≤ ok + t
            · rw [if_pos i2, if_pos ⟨by omega, by omega⟩]
              exact up _ _ (by omega) (by omega)
            · rw [if_neg i2]
              by_cases j2 : l < j ∧ j ≤ ok + t
              · rw [if_pos j2]
                exact up _ _ (by omega) (by omega)
              · rw [if_neg j2]
                exact up _ _ hij (by omega)
  · rintro ⟨r, _⟩ st' ⟨rfl, p', rfl, kp, up⟩
    rw [show ok + (m - ok) = m by omega] at up
    exact ⟨rfl, p', rfl, kp, up⟩
  · rintro ⟨r, _⟩ st' ⟨rfl, p', rfl, kp, up⟩
    exact kasC_pure (q p' kp up)
end
end L2
set_option Elab.async false
set_option linter.all false
set_option maxRecDepth 100000
namespace L2
open PySem PySem.Spec PyProof.Rows PySem.W
section
variable {prog : Program} {w : World} {A : Around} {E : Value → Shared → Prop} {κ : SortKind} {it : Array Keyed} {n : Nat} {lt : Nat → Nat → Bool} {s : Shared} {pend : Array (Nat × Nat × Nat)} {g : Nat} {p : Array Nat}
theorem count_okL {lo nrem : Nat} {Q : Option Nat → SortSt → Shared → Prop} (hc : Asks n lt (kas_cmp prog w A κ it) s) (o : Ord lt) (P : Pm n p) (hm : lo + nrem ≤ n) (h1 : 1 ≤ nrem) (q : ∀ m p', 1 ≤ m → m ≤ nrem → Kept n lo p p' → UpF lt (Kl lo p') m → Q (some m) (sst κ it pend g p') s) :
    kasC (model prog w) A E (countRun' lo nrem) Q (sst κ it pend g p) s := by
  have sz := P.size
  have K0 : Kept n lo p p := ⟨P, fun _ _ => rfl⟩
  unfold countRun'
  k_delta "countRun"
  refine kasC_bind (kasC_for (fun t c st' => c.1 = none ∧ c.2 = t + 1 ∧ UpF lt (Kl lo p) (t + 1) ∧ st' = sst κ it pend g p) (fun c st' => c.1 = none ∧ 1 ≤ c.2 ∧ c.2 ≤ nrem ∧ UpF lt (Kl lo p) c.2 ∧ (c.2 = nrem ∨ lt (Kl lo p c.2) (Kl lo p (c.2 - 1)) = true) ∧ st' = sst κ it pend g p) ⟨rfl, rfl, upF_one o, rfl⟩ ?_ ?_ ?_)
  · rintro t x ⟨r, c⟩ st' ht ⟨rfl, rfl, up, rfl⟩
    try dsimp only
    refine kasC_bind (rltAt hc P (by omega) (by omega) ?_)
    rw [show lo + (t + 1) - 1 = lo + t by omega, show lt (Kp p (lo + (t + 1))) (Kp p (lo + t)) = lt (Kl lo p (t + 1)) (Kl lo p t) from rfl]
    cases e : lt (Kl lo p (t + 1)) (Kl lo p t) with
    | true => exact kasC_pure ⟨rfl, rfl, by dsimp only; omega, by dsimp only; omega, up, .inr e, rfl⟩
    | false => exact kasC_pure ⟨rfl, rfl, rfl, upF_snoc o up e, rfl⟩
  · rintro ⟨r, c⟩ st' ⟨rfl, rfl, up, rfl⟩
    rw [show nrem - 1 + 1 = nrem by omega] at up ⊢
    exact ⟨rfl, h1, Nat.le_refl _, up, .inl rfl, rfl⟩
  · rintro ⟨r, c⟩ st' ⟨rfl, c1, c2, up, stop, rfl⟩
    dsimp only at c1 c2 up stop ⊢
    by_cases z : c = nrem
    · rw [if_pos (by simp [z])]
      exact kasC_pure (q c p c1 c2 K0 up)
    · rw [if_neg (by simp [z])]
      obtain ⟨b, rfl⟩ : ∃ b, c = b + 1 := ⟨c - 1, by omega⟩
      have h4 : lt (Kl lo p (b + 1)) (Kl lo p b) = true := by
        rcases stop with y | y
        · exact absurd y z
        · exact y
      have h5 := o.as _ _ h4
      by_cases z1 : b + 1 > 1
      · rw [if_pos z1, show lo + (b + 1) - 1 = lo + b by omega]
        refine kasC_bind (rltAt hc P (by omega) (by omega) ?_)
        rw [show lt (Kp p lo) (Kp p (lo + b)) = lt (Kl lo p 0) (Kl lo p b) from rfl]
        cases e : lt (Kl lo p 0) (Kl lo p b) with
        | true => exact kasC_pure (q (b + 1) p c1 c2 K0 up)
        | false =>
          try dsimp only
          rw [if_neg (by decide)]
          refine kasC_bind (rrev ?_)
          have ev : EvF lt (Kl lo p) 0 (b + 1) := fun i j a1 a2 a3 a4 => o.tr _ _ _ (up j b (by omega) (by omega)) (o.tr _ _ _ e (up 0 i (by omega) a2))
          have al := al_rev (lo := lo) (u := 0) (v := b + 1) o (by omega) (Nat.zero_le _) ev
          have dn0 : DnF lt (Kl lo p) (b + 1) := fun i j hij hj => ev i j (Nat.zero_le _) (by omega) (Nat.zero_le _) hj
          have K1 : Kept n lo p (kas_rev p lo (lo + (b + 1))) := Kept.rev (u := 0) K0 (by omega) (Nat.zero_le _)
          have D1 : DnF lt (Kl lo (kas_rev p lo (lo + (b + 1)))) (b + 2) := dnF_snoc o (dnF_alike o dn0 al) (o.tr _ _ _ (al (b + 1)).2 (o.tr _ _ _ h5 (al b).1))
          refine kasC_bind (kasC_lift (wpAny_rule ?_))
          try dsimp only
          refine kasC_bind (kasC_for (fun t c st' => c.1 = none ∧ c.2.1 = b + 2 + t ∧ ∃ p2, st' = sst κ it pend g p2 ∧ Kept n lo p p2 ∧ c.2.2 + 1 ≤ c.2.1 ∧ DnF lt (Kl lo p2) c.2.1 ∧ EvF lt (Kl lo p2) (c.2.1 - 1 - c.2.2) c.2.1) (fun c st' => c.1 = none ∧ b + 2 ≤ c.2.1 ∧ c.2.1 ≤ nrem ∧ ∃ p2, st' = sst κ it pend g p2 ∧ Kept n lo p p2 ∧ c.2.2 + 1 ≤ c.2.1 ∧ DnF lt (Kl lo p2) c.2.1 ∧ EvF lt (Kl lo p2) (c.2.1 - 1 - c.2.2) c.2.1) ⟨rfl, rfl, _, rfl, K1, by dsimp only; omega, D1, fun i j a1 a2 a3 a4 => by dsimp only at a1 a2 a3 a4; rw [show i = b + 1 by omega, show j = b + 1 by omega]; exact o.rf _⟩ ?_ ?_ ?_)
          · rintro t x ⟨r, c, ne⟩ st' ht ⟨rfl, ec, p2, rfl, k2, n2, d2, e2⟩
            dsimp only at ec n2 d2 e2 ⊢
            have s2 := k2.pm.size
            obtain ⟨c', rfl⟩ : ∃ c', c = c' + 1 := ⟨c - 1, by omega⟩
            rw [show lo + (c' + 1) - 1 = lo + c' by omega]
            refine kasC_bind (rltAt hc k2.pm (by omega) (by omega) ?_)
            rw [show lt (Kp p2 (lo + (c' + 1))) (Kp p2 (lo + c')) = lt (Kl lo p2 (c' + 1)) (Kl lo p2 c') from rfl]
            cases e : lt (Kl lo p2 (c' + 1)) (Kl lo p2 c') with
            | true =>
              try dsimp only
              rw [if_pos rfl]
              have one : ∀ f : Nat → Nat, EvF lt f (c' + 1 + 1 - 1 - 0) (c' + 1 + 1) := fun f i j a1 a2 a3 a4 => by rw [show i = c' + 1 by omega, show j = c' + 1 by omega]; exact o.rf _
              by_cases z : ne > 0
              · rw [if_pos z, show lo + (c' + 1) - (ne + 1) = lo + (c' - ne) by omega]
                refine kasC_bind (rrev (kasC_pure ⟨rfl, rfl, by dsimp only; omega, _, rfl, k2.rev (by omega) (by omega), by dsimp only; omega, ?_, one _⟩))
                have al := al_rev (p := p2) (lo := lo) (u := c' - ne) (v := c' + 1) o (by omega) (by omega) (by rw [show c' + 1 - 1 - ne = c' - ne by omega] at e2; exact e2)
                exact dnF_snoc o (dnF_alike o d2 al) (o.tr _ _ _ (al (c' + 1)).2 (o.tr _ _ _ (o.as _ _ e) (al c').1))
              · rw [if_neg z]
                exact kasC_pure ⟨rfl, rfl, by dsimp only; omega, p2, rfl, k2, by dsimp only; omega, dnF_snoc o d2 (o.as _ _ e), one _⟩
            | false =>
              try dsimp only
              rw [if_neg (by decide)]
              refine kasC_bind (rltAt hc k2.pm (by omega) (by omega) ?_)
              rw [show lt (Kp p2 (lo + c')) (Kp p2 (lo + (c' + 1))) = lt (Kl lo p2 c') (Kl lo p2 (c' + 1)) from rfl]
              cases e3 : lt (Kl lo p2 c') (Kl lo p2 (c' + 1)) with
              | true => exact kasC_pure ⟨rfl, rfl, by dsimp only; omega, by dsimp only; omega, p2, rfl, k2, n2, d2, e2⟩
              | false =>
                refine kasC_pure ⟨rfl, rfl, by dsimp only; omega, p2, rfl, k2, by dsimp only; omega, dnF_snoc o d2 e3, ?_⟩
                intro i j a1 a2 a3 a4
                dsimp only at a1 a2 a3 a4
                have new : ∀ i, c' + 1 - 1 - ne ≤ i → i < c' + 1 → lt (Kl lo p2 i) (Kl lo p2 (c' + 1)) = false ∧ lt (Kl lo p2 (c' + 1)) (Kl lo p2 i) = false := fun i g1 g2 =>
                  ⟨o.tr _ _ _ e3 (e2 i c' g1 g2 (by omega) (by omega)), o.tr _ _ _ (e2 c' i (by omega) (by omega) g1 g2) e⟩
                by_cases w1 : i = c' + 1
                · by_cases w2 : j = c' + 1
                  · rw [w1, w2]; exact o.rf _
                  · rw [w1]; exact (new j (by omega) (by omega)).2
                · by_cases w2 : j = c' + 1
                  · rw [w2]; exact (new i (by omega) (by omega)).1
                  · exact e2 i j (by omega) (by omega) (by omega) (by omega)
          · rintro ⟨r, c, ne⟩ st' ⟨rfl, ec, p2, rfl, k2, n2, d2, e2⟩
            dsimp only at ec
            exact ⟨rfl, by dsimp only; omega, by dsimp only; omega, p2, rfl, k2, n2, d2, e2⟩
          · rintro ⟨r, c, ne⟩ st' ⟨rfl, c1, c2, p2, rfl, K2, n2, d2, e2⟩
            dsimp only at c1 c2 n2 d2 e2 ⊢
            have s2 := K2.pm.size
            by_cases z : ne > 0
            · rw [if_pos z, show lo + c - (ne + 1) = lo + (c - 1 - ne) by omega]
              refine kasC_bind (rrev ?_)
              have al := al_rev (p := p2) (lo := lo) (u := c - 1 - ne) (v := c) o (by omega) (by omega) e2
              have D2 := dnF_alike o d2 al
              have K2' := K2
              have K2 := K2'.rev (u := c - 1 - ne) (v := c) (by omega) (by omega)
              refine kasC_bind (rrev ?_)
              have kr : Kept n lo p (kas_rev (kas_rev p2 (lo + (c - 1 - ne)) (lo + c)) lo (lo + c)) := Kept.rev (u := 0) K2 (by omega) (Nat.zero_le _)
              have ur : UpF lt (Kl lo (kas_rev (kas_rev p2 (lo + (c - 1 - ne)) (lo + c)) lo (lo + c))) c := fun i j hij hj => by
                have e := kl_rev (lo := lo) (u := 0) (v := c) (p := (kas_rev p2 (lo + (c - 1 - ne)) (lo + c))) (by rw [K2.pm.size]; omega) (Nat.zero_le _)
                rw [show kas_rev (kas_rev p2 (lo + (c - 1 - ne)) (lo + c)) lo (lo + c) = kas_rev (kas_rev p2 (lo + (c - 1 - ne)) (lo + c)) (lo + 0) (lo + c) from rfl, e, e, if_pos ⟨Nat.zero_le _, hj⟩, if_pos ⟨Nat.zero_le _, by omega⟩]
                exact D2 _ _ (by omega) (by omega)
              refine kasC_bind (kasC_for (fun t d st' => d.1 = none ∧ d.2 = c + t ∧ UpF lt (Kl lo (kas_rev (kas_rev p2 (lo + (c - 1 - ne)) (lo + c)) lo (lo + c))) (c + t) ∧ st' = sst κ it pend g (kas_rev (kas_rev p2 (lo + (c - 1 - ne)) (lo + c)) lo (lo + c))) (fun d st' => d.1 = none ∧ 1 ≤ d.2 ∧ d.2 ≤ nrem ∧ UpF lt (Kl lo (kas_rev (kas_rev p2 (lo + (c - 1 - ne)) (lo + c)) lo (lo + c))) d.2 ∧ st' = sst κ it pend g (kas_rev (kas_rev p2 (lo + (c - 1 - ne)) (lo + c)) lo (lo + c))) ⟨rfl, rfl, ur, rfl⟩ ?_ ?_ ?_)
              · rintro t x ⟨r, c3⟩ st' ht ⟨rfl, rfl, up, rfl⟩
                try dsimp only
                refine kasC_bind (rltAt hc kr.pm (by omega) (by omega) ?_)
                rw [show lo + (c + t) - 1 = lo + (c + t - 1) by omega, show lt (Kp (kas_rev (kas_rev p2 (lo + (c - 1 - ne)) (lo + c)) lo (lo + c)) (lo + (c + t))) (Kp (kas_rev (kas_rev p2 (lo + (c - 1 - ne)) (lo + c)) lo (lo + c)) (lo + (c + t - 1))) = lt (Kl lo (kas_rev (kas_rev p2 (lo + (c - 1 - ne)) (lo + c)) lo (lo + c)) (c + t)) (Kl lo (kas_rev (kas_rev p2 (lo + (c - 1 - ne)) (lo + c)) lo (lo + c)) (c + t - 1)) from rfl]
                cases e : lt (Kl lo (kas_rev (kas_rev p2 (lo + (c - 1 - ne)) (lo + c)) lo (lo + c)) (c + t)) (Kl lo (kas_rev (kas_rev p2 (lo + (c - 1 - ne)) (lo + c)) lo (lo + c)) (c + t - 1)) with
                | true => exact kasC_pure ⟨rfl, rfl, by dsimp only; omega, by dsimp only; omega, up, rfl⟩
                | false =>
                  refine kasC_pure ⟨rfl, rfl, rfl, ?_, rfl⟩
                  obtain ⟨b', hb⟩ : ∃ b', c + t = b' + 1 := ⟨c + t - 1, by omega⟩
                  rw [show c + (t + 1) = b' + 2 by omega]
                  rw [hb] at up e
                  exact upF_snoc o up e
              · rintro ⟨r, c3⟩ st' ⟨rfl, rfl, up, rfl⟩
                exact ⟨rfl, by dsimp only; omega, by dsimp only; omega, up, rfl⟩
              · rintro ⟨r, c3⟩ st' ⟨rfl, c4, c5, up, rfl⟩
                exact kasC_pure (q c3 _ c4 c5 kr up)
            · rw [if_neg z]
              have D2 := d2
              refine kasC_bind (rrev ?_)
              have kr : Kept n lo p (kas_rev p2 lo (lo + c)) := Kept.rev (u := 0) K2 (by omega) (Nat.zero_le _)
              have ur : UpF lt (Kl lo (kas_rev p2 lo (lo + c))) c := fun i j hij hj => by
                have e := kl_rev (lo := lo) (u := 0) (v := c) (p := p2) (by rw [K2.pm.size]; omega) (Nat.zero_le _)
                rw [show kas_rev p2 lo (lo + c) = kas_rev p2 (lo + 0) (lo + c) from rfl, e, e, if_pos ⟨Nat.zero_le _, hj⟩, if_pos ⟨Nat.zero_le _, by omega⟩]
                exact D2 _ _ (by omega) (by omega)
              refine kasC_bind (kasC_for (fun t d st' => d.1 = none ∧ d.2 = c + t ∧ UpF lt (Kl lo (kas_rev p2 lo (lo + c))) (c + t) ∧ st' = sst κ it pend g (kas_rev p2 lo (lo + c))) (fun d st' => d.1 = none ∧ 1 ≤ d.2 ∧ d.2 ≤ nrem ∧ UpF lt (Kl lo (kas_rev p2 lo (lo + c))) d.2 ∧ st' = sst κ it pend g (kas_rev p2 lo (lo + c))) ⟨rfl, rfl, ur, rfl⟩ ?_ ?_ ?_)
              · rintro t x ⟨r, c3⟩ st' ht ⟨rfl, rfl, up, rfl⟩
                try dsimp only
                refine kasC_bind (rltAt hc kr.pm (by omega) (by omega) ?_)
                rw [show lo + (c + t) - 1 = lo + (c + t - 1) by omega, show lt (Kp (kas_rev p2 lo (lo + c)) (lo + (c + t))) (Kp (kas_rev p2 lo (lo + c)) (lo + (c + t - 1))) = lt (Kl lo (kas_rev p2 lo (lo + c)) (c + t)) (Kl lo (kas_rev p2 lo (lo + c)) (c + t - 1)) from rfl]
                cases e : lt (Kl lo (kas_rev p2 lo (lo + c)) (c + t)) (Kl lo (kas_rev p2 lo (lo + c)) (c + t - 1)) with
                | true => exact kasC_pure ⟨rfl, rfl, by dsimp only; omega, by dsimp only; omega, up, rfl⟩
                | false =>
                  refine kasC_pure ⟨rfl, rfl, rfl, ?_, rfl⟩
                  obtain ⟨b', hb⟩ : ∃ b', c + t = b' + 1 := ⟨c + t - 1, by omega⟩
                  rw [show c + (t + 1) = b' + 2 by omega]
                  rw [hb] at up e
                  exact upF_snoc o up e
              · rintro ⟨r, c3⟩ st' ⟨rfl, rfl, up, rfl⟩
                exact ⟨rfl, by dsimp only; omega, by dsimp only; omega, up, rfl⟩
              · rintro ⟨r, c3⟩ st' ⟨rfl, c4, c5, up, rfl⟩
                exact kasC_pure (q c3 _ c4 c5 kr up)
      · rw [if_neg z1]
        obtain rfl : b = 0 := by omega
        have K1 := K0
        have D1 : DnF lt (Kl lo p) (0 + 2) := dnF_snoc o (fun i j hij hj => by rw [show i = 0 by omega, show j = 0 by omega]; exact o.rf _) h5
        refine kasC_bind (kasC_lift (wpAny_rule ?_))
        try dsimp only
        refine kasC_bind (kasC_for (fun t c st' => c.1 = none ∧ c.2.1 = 0 + 2 + t ∧ ∃ p2, st' = sst κ it pend g p2 ∧ Kept n lo p p2 ∧ c.2.2 + 1 ≤ c.2.1 ∧ DnF lt (Kl lo p2) c.2.1 ∧ EvF lt (Kl lo p2) (c.2.1 - 1 - c.2.2) c.2.1) (fun c st' => c.1 = none ∧ 0 + 2 ≤ c.2.1 ∧ c.2.1 ≤ nrem ∧ ∃ p2, st' = sst κ it pend g p2 ∧ Kept n lo p p2 ∧ c.2.2 + 1 ≤ c.2.1 ∧ DnF lt (Kl lo p2) c.2.1 ∧ EvF lt (Kl lo p2) (c.2.1 - 1 - c.2.2) c.2.1) ⟨rfl, rfl, p, rfl, K1, by dsimp only; omega, D1, fun i j a1 a2 a3 a4 => by dsimp only at a1 a2 a3 a4; rw [show i = 0 + 1 by omega, show j = 0 + 1 by omega]; exact o.rf _⟩ ?_ ?_ ?_)
        · rintro t x ⟨r, c, ne⟩ st' ht ⟨rfl, ec, p2, rfl, k2, n2, d2, e2⟩
          dsimp only at ec n2 d2 e2 ⊢
          have s2 := k2.pm.size
          obtain ⟨c', rfl⟩ : ∃ c', c = c' + 1 := ⟨c - 1, by omega⟩
          rw [show lo + (c' + 1) - 1 = lo + c' by omega]
          refine kasC_bind (rltAt hc k2.pm (by omega) (by omega) ?_)
          rw [show lt (Kp p2 (lo + (c' + 1))) (Kp p2 (lo + c')) = lt (Kl lo p2 (c' + 1)) (Kl lo p2 c') from rfl]
          cases e : lt (Kl lo p2 (c' + 1)) (Kl lo p2 c') with
          | true =>
            try dsimp only
            rw [if_pos rfl]
            have one : ∀ f : Nat → Nat, EvF lt f (c' + 1 + 1 - 1 - 0) (c' + 1 + 1) := fun f i j a1 a2 a3 a4 => by rw [show i = c' + 1 by omega, show j = c' + 1 by omega]; exact o.rf _
            by_cases z : ne > 0
            · rw [if_pos z, show lo + (c' + 1) - (ne + 1) = lo + (c' - ne) by omega]
              refine kasC_bind (rrev (kasC_pure ⟨rfl, rfl, by dsimp only; omega, _, rfl, k2.rev (by omega) (by omega), by dsimp only; omega, ?_, one _⟩))
              have al := al_rev (p := p2) (lo := lo) (u := c' - ne) (v := c' + 1) o (by omega) (by omega) (by rw [show c' + 1 - 1 - ne = c' - ne by omega] at e2; exact e2)
              exact dnF_snoc o (dnF_alike o d2 al) (o.tr _ _ _ (al (c' + 1)).2 (o.tr _ _ _ (o.as _ _ e) (al c').1))
            · rw [if_neg z]
              exact kasC_pure ⟨rfl, rfl, by dsimp only; omega, p2, rfl, k2, by dsimp only; omega, dnF_snoc o d2 (o.as _ _ e), one _⟩
          | false =>
            try dsimp only
            rw [if_neg (by decide)]
            refine kasC_bind (rltAt hc k2.pm (by omega) (by omega) ?_)
            rw [show lt (Kp p2 (lo + c')) (Kp p2 (lo + (c' + 1))) = lt (Kl lo p2 c') (Kl lo p2 (c' + 1)) from rfl]
            cases e3 : lt (Kl lo p2 c') (Kl lo p2 (c' + 1)) with
            | true => exact kasC_pure ⟨rfl, rfl, by dsimp only; omega, by dsimp only; omega, p2, rfl, k2, n2, d2, e2⟩
            | false =>
              refine kasC_pure ⟨rfl, rfl, by dsimp only; omega, p2, rfl, k2, by dsimp only; omega, dnF_snoc o d2 e3, ?_⟩
              intro i j a1 a2 a3 a4
              dsimp only at a1 a2 a3 a4
              have new : ∀ i, c' + 1 - 1 - ne ≤ i → i < c' + 1 → lt (Kl lo p2 i) (Kl lo p2 (c' + 1)) = false ∧ lt (Kl lo p2 (c' + 1)) (Kl lo p2 i) = false := fun i g1 g2 =>
                ⟨o.tr _ _ _ e3 (e2 i c' g1 g2 (by omega) (by omega)), o.tr _ _ _ (e2 c' i (by omega) (by omega) g1 g2) e⟩
              by_cases w1 : i = c' + 1
              · by_cases w2 : j = c' + 1
                · rw [w1, w2]; exact o.rf _
                · rw [w1]; exact (new j (by omega) (by omega)).2
              · by_cases w2 : j = c' + 1
                · rw [w2]; exact (new i (by omega) (by omega)).1
                · exact e2 i j (by omega) (by omega) (by omega) (by omega)
        · rintro ⟨r, c, ne⟩ st' ⟨rfl, ec, p2, rfl, k2, n2, d2, e2⟩
          dsimp only at ec
          exact ⟨rfl, by dsimp only; omega, by dsimp only; omega, p2, rfl, k2, n2, d2, e2⟩
        · rintro ⟨r, c, ne⟩ st' ⟨rfl, c1, c2, p2, rfl, K2, n2, d2, e2⟩
          dsimp only at c1 c2 n2 d2 e2 ⊢
          have s2 := K2.pm.size
          by_cases z : ne > 0
          · rw [if_pos z, show lo + c - (ne + 1) = lo + (c - 1 - ne) by omega]
            refine kasC_bind (rrev ?_)
            have al := al_rev (p := p2) (lo := lo) (u := c - 1 - ne) (v := c) o (by omega) (by omega) e2
            have D2 := dnF_alike o d2 al
            have K2' := K2
            have K2 := K2'.rev (u := c - 1 - ne) (v := c) (by omega) (by omega)
            refine kasC_bind (rrev ?_)
            have kr : Kept n lo p (kas_rev (kas_rev p2 (lo + (c - 1 - ne)) (lo + c)) lo (lo + c)) := Kept.rev (u := 0) K2 (by omega) (Nat.zero_le _)
            have ur : UpF lt (Kl lo (kas_rev (kas_rev p2 (lo + (c - 1 - ne)) (lo + c)) lo (lo + c))) c := fun i j hij hj => by
              have e := kl_rev (lo := lo) (u := 0) (v := c) (p := (kas_rev p2 (lo + (c - 1 - ne)) (lo + c))) (by rw [K2.pm.size]; omega) (Nat.zero_le _)
              rw [show kas_rev (kas_rev p2 (lo + (c - 1 - ne)) (lo + c)) lo (lo + c) = kas_rev (kas_rev p2 (lo + (c - 1 - ne)) (lo + c)) (lo + 0) (lo + c) from rfl, e, e, if_pos ⟨Nat.zero_le _, hj⟩, if_pos ⟨Nat.zero_le _, by omega⟩]
              exact D2 _ _ (by omega) (by omega)
            refine kasC_bind (kasC_for (fun t d st' => d.1 = none ∧ d.2 = c + t ∧ UpF lt (Kl lo (kas_rev (kas_rev p2 (lo + (c - 1 - ne)) (lo + c)) lo (lo + c))) (c + t) ∧ st' = sst κ it pend g (kas_rev (kas_rev p2 (lo + (c - 1 - ne)) (lo + c)) lo (lo + c))) (fun d st' => d.1 = none ∧ 1 ≤ d.2 ∧ d.2 ≤ nrem ∧ UpF lt (Kl lo (kas_rev (kas_rev p2 (lo + (c - 1 - ne)) (lo + c)) lo (lo + c))) d.2 ∧ st' = sst κ it pend g (kas_rev (kas_rev p2 (lo + (c - 1 - ne)) (lo + c)) lo (lo + c))) ⟨rfl, rfl, ur, rfl⟩ ?_ ?_ ?_)
            · rintro t x ⟨r, c3⟩ st' ht ⟨rfl, rfl, up, rfl⟩
              try dsimp only
              refine kasC_bind (rltAt hc kr.pm (by omega) (by omega) ?_)
              rw [show lo + (c + t) - 1 = lo + (c + t - 1) by omega, show lt (Kp (kas_rev (kas_rev p2 (lo + (c - 1 - ne)) (lo + c)) lo (lo + c)) (lo + (c + t))) (Kp (kas_rev (kas_rev p2 (lo + (c - 1 - ne)) (lo + c)) lo (lo + c)) (lo + (c + t - 1))) = lt (Kl lo (kas_rev (kas_rev p2 (lo + (c - 1 - ne)) (lo + c)) lo (lo + c)) (c + t)) (Kl lo (kas_rev (kas_rev p2 (lo + (c - 1 - ne)) (lo + c)) lo (lo + c)) (c + t - 1)) from rfl]
              cases e : lt (Kl lo (kas_rev (kas_rev p2 (lo + (c - 1 - ne)) (lo + c)) lo (lo + c)) (c + t)) (Kl lo (kas_rev (kas_rev p2 (lo + (c - 1 - ne)) (lo + c)) lo (lo + c)) (c + t - 1)) with
              | true => exact kasC_pure ⟨rfl, rfl, by dsimp only; omega, by dsimp only; omega, up, rfl⟩
              | false =>
                refine kasC_pure ⟨rfl, rfl, rfl, ?_, rfl⟩
                obtain ⟨b', hb⟩ : ∃ b', c + t = b' + 1 := ⟨c + t - 1, by omega⟩
                rw [show c + (t + 1) = b' + 2 by omega]
                rw [hb] at up e
                exact upF_snoc o up e
            · rintro ⟨r, c3⟩ st' ⟨rfl, rfl, up, rfl⟩
              exact ⟨rfl, by dsimp only; omega, by dsimp only; omega, up, rfl⟩
            · rintro ⟨r, c3⟩ st' ⟨rfl, c4, c5, up, rfl⟩
              exact kasC_pure (q c3 _ c4 c5 kr up)
          · rw [if_neg z]
            have D2 := d2
            refine kasC_bind (rrev ?_)
            have kr : Kept n lo p (kas_rev p2 lo (lo + c)) := Kept.rev (u := 0) K2 (by omega) (Nat.zero_le _)
            have ur : UpF lt (Kl lo (kas_rev p2 lo (lo + c))) c := fun i j hij hj => by
              have e := kl_rev (lo := lo) (u := 0) (v := c) (p := p2) (by rw [K2.pm.size]; omega) (Nat.zero_le _)
              rw [show kas_rev p2 lo (lo + c) = kas_rev p2 (lo + 0) (lo + c) from rfl, e, e, if_pos ⟨Nat.zero_le _, hj⟩, if_pos ⟨Nat.zero_le _, by omega⟩]
              exact D2 _ _ (by omega) (by omega)
            refine kasC_bind (kasC_for (fun t d st' => d.1 = none ∧ d.2 = c + t ∧ UpF lt (Kl lo (kas_rev p2 lo (lo + c))) (c + t) ∧ st' = sst κ it pend g (kas_rev p2 lo (lo + c))) (fun d st' => d.1 = none ∧ 1 ≤ d.2 ∧ d.2 ≤ nrem ∧ UpF lt (Kl lo (kas_rev p2 lo (lo + c))) d.2 ∧ st' = sst κ it pend g (kas_rev p2 lo (lo + c))) ⟨rfl, rfl, ur, rfl⟩ ?_ ?_ ?_)
            · rintro t x ⟨r, c3⟩ st' ht ⟨rfl, rfl, up, rfl⟩
              try dsimp only
              refine kasC_bind (rltAt hc kr.pm (by omega) (by omega) ?_)
              rw [show lo + (c + t) - 1 = lo + (c + t - 1) by omega, show lt (Kp (kas_rev p2 lo (lo + c)) (lo + (c + t))) (Kp (kas_rev p2 lo (lo + c)) (lo + (c + t - 1))) = lt (Kl lo (kas_rev p2 lo (lo + c)) (c + t)) (Kl lo (kas_rev p2 lo (lo + c)) (c + t - 1)) from rfl]
              cases e : lt (Kl lo (kas_rev p2 lo (lo + c)) (c + t)) (Kl lo (kas_rev p2 lo (lo + c)) (c + t - 1)) with
              | true => exact kasC_pure ⟨rfl, rfl, by dsimp only; omega, by dsimp only; omega, up, rfl⟩
              | false =>
                refine kasC_pure ⟨rfl, rfl, rfl, ?_, rfl⟩
                obtain ⟨b', hb⟩ : ∃ b', c + t = b' + 1 := ⟨c + t - 1, by omega⟩
                rw [show c + (t + 1) = b' + 2 by omega]
                rw [hb] at up e
                exact upF_snoc o up e
            · rintro ⟨r, c3⟩ st' ⟨rfl, rfl, up, rfl⟩
              exact ⟨rfl, by dsimp only; omega, by dsimp only; omega, up, rfl⟩
            · rintro ⟨r, c3⟩ st' ⟨rfl, c4, c5, up, rfl⟩
              exact kasC_pure (q c3 _ c4 c5 kr up)
end
end L2
set_option Elab.async false
set_option linter.all false
set_option maxRecDepth 100000
namespace L2
open PySem PySem.Spec PyProof.Rows PySem.W
abbrev Rn := Nat × Nat × Nat
def Ch (lt : Nat → Nat → Bool) (l : List Nat) : Nat → List Rn → Nat → Prop
  | a, [], b => a = b
  | a, (x, k, _) :: L, b => x = a ∧ 0 < k ∧ Srt lt (seg l a k) ∧ Ch lt l (a + k) L b
section
variable {lt : Nat → Nat → Bool} {l l' : List Nat}
theorem Ch.le : ∀ {L : List Rn} {a b : Nat}, Ch lt l a L b → a + L.length ≤ b
  | [], a, b, h => by rw [show a = b from h]; exact Nat.le_refl _
  | (x, k, w) :: L, a, b, h => by
    have := Ch.le h.2.2.2
    have := h.2.1
    rw [List.length_cons]
    omega
theorem seg_same {a k : Nat} (h : ∀ i, a ≤ i → i < a + k → l'[i]? = l[i]?) : seg l' a k = seg l a k := by
  refine List.ext_getElem? fun i => ?_
  by_cases z : i < k
  · rw [seg_get z, seg_get z]
    exact h _ (by omega) (by omega)
  · unfold seg
    rw [List.getElem?_take, List.getElem?_take, if_neg z, if_neg z]
theorem Ch.same : ∀ {L : List Rn} {a b : Nat}, Ch lt l a L b → (∀ i, a ≤ i → i < b → l'[i]? = l[i]?) → Ch lt l' a L b
  | [], _, _, h, _ => h
  | (x, k, w) :: L, a, b, h, e => by
    have := Ch.le h.2.2.2
    exact ⟨h.1, h.2.1, by rw [seg_same fun i h1 h2 => e i h1 (by omega)]; exact h.2.2.1, Ch.same h.2.2.2 fun i h1 h2 => e i (by omega) h2⟩
theorem Ch.app : ∀ {L M : List Rn} {a b : Nat}, Ch lt l a (L ++ M) b ↔ ∃ c, Ch lt l a L c ∧ Ch lt l c M b
  | [], M, a, b => ⟨fun h => ⟨a, rfl, h⟩, fun ⟨c, h1, h2⟩ => by rw [show a = c from h1]; exact h2⟩
  | (x, k, w) :: L, M, a, b => by
    constructor
    · rintro ⟨h1, h2, h3, h4⟩
      obtain ⟨c, h5, h6⟩ := Ch.app.mp h4
      exact ⟨c, ⟨h1, h2, h3, h5⟩, h6⟩
    · rintro ⟨c, ⟨h1, h2, h3, h5⟩, h6⟩
      exact ⟨h1, h2, h3, Ch.app.mpr ⟨c, h5, h6⟩⟩
theorem putS_get {a : Nat} {r : List Nat} (h : a + r.length ≤ l.length) {i : Nat} (hi : i < a ∨ a + r.length ≤ i) : (putS l a r)[i]? = l[i]? := by
  unfold putS
  rcases hi with hi | hi
  · rw [List.append_assoc, List.getElem?_append_left (by rw [List.length_take]; omega), List.getElem?_take, if_pos hi]
  · rw [List.getElem?_append_right (by rw [List.length_append, List.length_take]; omega), List.length_append, List.length_take, List.getElem?_drop]
    congr 1
    omega
theorem putS_seg {a : Nat} {r : List Nat} (h : a + r.length ≤ l.length) : seg (putS l a r) a r.length = r := by
  unfold seg putS
  rw [List.append_assoc, List.drop_append_of_le_length (by rw [List.length_take]; omega), List.drop_of_length_le (by rw [List.length_take]; omega), List.nil_append, List.take_append_of_le_length (Nat.le_refl _), List.take_length]
theorem putS_perm {a : Nat} {r : List Nat} (h : r.Perm (seg l a r.length)) : (putS l a r).Perm l := by
  unfold putS
  have e : l = l.take a ++ seg l a r.length ++ l.drop (a + r.length) := by rw [← take_seg, List.take_append_drop]
  conv => rhs; rw [e]
  exact (List.Perm.append_left _ h).append_right _
theorem Ch.merge {L1 L2 : List Rn} {a b c na nb pw pw2 : Nat} {R : List Nat} (h : Ch lt l a (L1 ++ (c, na, pw) :: (c + na, nb, pw2) :: L2) b) (hb : b ≤ l.length) (hR : Merged lt (seg l c na) (seg l (c + na) nb) R) (lR : R.length = na + nb) : Ch lt (putS l c R) a (L1 ++ (c, na + nb, pw) :: L2) b ∧ (putS l c R).Perm l := by
  obtain ⟨d, h1, h2, h3, h4, h5, h6, h7, h8⟩ := Ch.app.mp h
  subst h2
  have le1 := Ch.le h1
  have le2 := Ch.le h8
  have hl : c + R.length ≤ l.length := by omega
  refine ⟨Ch.app.mpr ⟨c, h1.same fun i g1 g2 => putS_get hl (.inl g2), rfl, by omega, ?_, ?_⟩, putS_perm ?_⟩
  · rw [← lR, putS_seg hl]
    exact hR.2
  · rw [← Nat.add_assoc]
    exact h8.same fun i g1 g2 => putS_get hl (.inr (by omega))
  · rw [lR, ← seg_cat]
    exact hR.1
theorem Ch.pow {L : List Rn} {x k w w' a b : Nat} (h : Ch lt l a (L ++ [(x, k, w)]) b) : Ch lt l a (L ++ [(x, k, w')]) b := by
  obtain ⟨c, h1, h2⟩ := Ch.app.mp h
  exact Ch.app.mpr ⟨c, h1, h2⟩
theorem srt_up {p : Array Nat} {lo m : Nat} (h : UpF lt (Kl lo p) m) (hm : lo + m ≤ p.size) : Srt lt (seg p.toList lo m) := by
  refine List.pairwise_iff_getElem.mpr fun i j hi hj hij => ?_
  have lm : (seg p.toList lo m).length = m := seg_len (by simpa using hm)
  have at' : ∀ {i} (hi : i < (seg p.toList lo m).length), (seg p.toList lo m)[i] = Kl lo p i := fun {i} hi => by
    have e := seg_get (p := p.toList) (a := lo) (k := m) (i := i) (by omega)
    rw [List.getElem?_eq_getElem hi] at e
    have e2 : p.toList[lo + i]? = some (Kl lo p i) := by
      unfold Kl Kp
      have : lo + i < p.size := by omega
      simp [Array.getD, this]
    rw [e2] at e
    exact Option.some.inj e
  rw [at' hi, at' hj]
  exact h i j (by omega) (by omega)
theorem up_srt {p : Array Nat} {n : Nat} (hn : p.size = n) (h : Srt lt (seg p.toList 0 n)) (o : Ord lt) : Up lt p n := fun i j hij hj => by
  have e : seg p.toList 0 n = p.toList := by unfold seg; rw [List.drop_zero, List.take_of_length_le (by simp [hn])]
  rw [e] at h
  have at' : ∀ {i}, i < n → p.toList[i]? = some (Kp p i) := fun {i} hi => by
    unfold Kp
    have : i < p.size := by omega
    simp [Array.getD, this]
  exact h.head (at' (by omega)) (o.rf _) _ (List.mem_of_getElem? (i := j - i) (by rw [List.getElem?_drop, show i + (j - i) = j by omega]; exact at' hj))
theorem kept_get {n lo : Nat} {p p' : Array Nat} (P : Pm n p) (k : Kept n lo p p') (hlo : lo ≤ n) : ∀ i, i < lo → p'.toList[i]? = p.toList[i]? := fun i hi => by
  have s1 := P.size
  have s2 := k.pm.size
  have := k.pre i hi
  unfold Kp at this
  have a1 : i < p.size := by omega
  have a2 : i < p'.size := by omega
  simp [Array.getD, a1, a2] at this
  simp [a1, a2, this]
end
section
variable {prog : Program} {w : World} {A : Around} {E : Value → Shared → Prop} {κ : SortKind} {it : Array Keyed} {n : Nat} {lt : Nat → Nat → Bool} {s : Shared}
theorem map_its {p : Array Nat} : p.map (kas_item it) = its it p.toList := by simp [its, ← Array.toList_map]
theorem merge_at {L1 L2 : List Rn} {p : Array Nat} {c na nb pw pw2 g b : Nat} {Q : Bool → SortSt → Shared → Prop} (hc : Asks n lt (kas_cmp prog w A κ it) s) (od : Ord lt) (P : Pm n p) (hb : b ≤ n) (h : Ch lt p.toList 0 (L1 ++ (c, na, pw) :: (c + na, nb, pw2) :: L2) b)
    (q : ∀ p' g', Pm n p' → Ch lt p'.toList 0 (L1 ++ (c, na + nb, pw) :: L2) b → (∀ i, b ≤ i → p'.toList[i]? = p.toList[i]?) → Q true (sst κ it (L1 ++ (c, na + nb, pw) :: L2).toArray g' p') s) :
    kasC (model prog w) A E (mergeAt' L1.length) Q (sst κ it (L1 ++ (c, na, pw) :: (c + na, nb, pw2) :: L2).toArray g p) s := by
  have sz := P.size
  have ll : p.toList.length = n := by simp [sz]
  obtain ⟨d, h1, h2, h3, h4, h5, h6, h7, h8⟩ := Ch.app.mp h
  have le2 := Ch.le h8
  subst h2
  show kasC _ _ _ _ _ (SortSt.mk' κ (p.map (kas_item it)) _ g none) s
  rw [map_its]
  refine mergeAt_ok (pw := pw) (pw2 := pw2) hc od (fun x hx => ?_) (i := L1.length) (by simp) (by simp) h3 h6 (by omega) h4 h7 fun R g' hR lR => ?_
  · have : x ∈ (List.range n).toArray := (Array.Perm.mem_iff P).mp (by simpa using hx)
    simpa using this
  · obtain ⟨c1, c2⟩ := h.merge (by omega) hR lR
    have e1 : ((L1 ++ (c, na, pw) :: (c + na, nb, pw2) :: L2).toArray.setIfInBounds L1.length (c, na + nb, pw)).eraseIdxIfInBounds (L1.length + 1) = (L1 ++ (c, na + nb, pw) :: L2).toArray := by
      simp [List.eraseIdx_append_of_length_le]
    rw [e1]
    have := q (putS p.toList c R).toArray g' ?_ (by simpa using c1) fun i hi => ?_
    · show Q true (SortSt.mk' κ (its it (putS p.toList c R)) _ g' none) s
      have e2 : (putS p.toList c R).toArray.map (kas_item it) = its it (putS p.toList c R) := by rw [map_its]
      rw [← e2]
      exact this
    · unfold Pm at P ⊢
      have : (putS p.toList c R).Perm (List.range n) := c2.trans (by simpa [Array.perm_iff_toList_perm] using P)
      simpa [Array.perm_iff_toList_perm] using this
    · have := putS_get (l := p.toList) (a := c) (r := R) (by omega) (i := i) (.inr (by omega))
      simpa using this
theorem Ch.split {l : List Nat} : ∀ {L : List Rn} {a b i : Nat}, Ch lt l a L b → i + 1 < L.length → ∃ (L1 L2 : List Rn) (c na pw nb pw2 : Nat), L = L1 ++ (c, na, pw) :: (c + na, nb, pw2) :: L2 ∧ L1.length = i
  | [], _, _, _, _, hi => by simp at hi
  | [_], _, _, _, _, hi => by simp at hi
  | (x, k, w) :: (y, k2, w2) :: L, a, b, 0, h, _ => by
    obtain ⟨h1, h2, h3, h4, h5⟩ := h
    subst h1 h4
    exact ⟨[], L, x, k, w, k2, w2, rfl, rfl⟩
  | (x, k, w) :: (y, k2, w2) :: L, a, b, i + 1, h, hi => by
    obtain ⟨L1, L2, c, na, pw, nb, pw2, e1, e2⟩ := Ch.split (i := i) h.2.2.2 (by simp at hi ⊢; omega)
    exact ⟨(x, k, w) :: L1, L2, c, na, pw, nb, pw2, by rw [e1]; rfl, by simp [e2]⟩
theorem mod_last {M : List Rn} {x : Rn} {f : Rn → Rn} : ((M ++ [x]).toArray).modify ((M ++ [x]).toArray.size - 1) f = (M ++ [f x]).toArray := by
  apply Array.ext_getElem?
  intro i
  rw [Array.getElem?_modify]
  simp only [List.size_toArray, List.length_append, List.length_cons, List.length_nil, List.getElem?_toArray]
  by_cases z : M.length = i
  · subst z
    simp
  · rw [if_neg (by omega)]
    by_cases y : i < M.length
    · rw [List.getElem?_append_left y, List.getElem?_append_left y]
    · rw [List.getElem?_eq_none (by simp; omega), List.getElem?_eq_none (by simp; omega)]
theorem runs_ok {Q : Unit → SortSt → Shared → Prop} {p0 : Array Nat} {g : Nat} (hc : Asks n lt (kas_cmp prog w A κ it) s) (od : Ord lt) (P : Pm n p0) (h0 : 0 < n) (q : ∀ p L g', Pm n p → Up lt p n → Q () (sst κ it L g' p) s) : kasC (model prog w) A E sortRuns' Q (sst κ it #[] g p0) s := by
  rw [sortRuns'_eq]
  refine kasC_bind (kasC_get ?_)
  have sz := P.size
  have e0 : (arrOf (sst κ it #[] g p0)).size = n := by show (p0.map (kas_item it)).size = n; simp [sz]
  rw [e0]
  dsimp only
  refine kasC_bind (kasC_for (fun t c st' => c.1 = none ∧ ∃ (p : Array Nat) (L : List Rn) (g' : Nat), st' = sst κ it L.toArray g' p ∧ Pm n p ∧ Ch lt p.toList 0 L c.2 ∧ c.2 ≤ n ∧ t ≤ c.2) (fun c st' => c.1 = none ∧ ∃ (p : Array Nat) (L : List Rn) (g' : Nat), st' = sst κ it L.toArray g' p ∧ Pm n p ∧ Ch lt p.toList 0 L n) ⟨rfl, p0, [], g, rfl, P, rfl, Nat.zero_le _, Nat.le_refl _⟩ ?_ ?_ ?_)
  · rintro t x ⟨r, lo⟩ st' ht ⟨rfl, p, L, g', rfl, P', ch, hlo, htl⟩
    dsimp only at ch hlo htl ⊢
    by_cases z : lo ≥ n
    · rw [if_pos z]
      obtain rfl : lo = n := by omega
      exact kasC_pure ⟨rfl, rfl, p, L, g', rfl, P', ch⟩
    · rw [if_neg z]
      refine kasC_bind (count_okL hc od P' (by omega) (by omega) fun m p1 m1 m2 k1 u1 => ?_)
      try dsimp only
      split
      · rename_i zm
        refine kasC_bind (kasC_lift (wpAny_rule ?_))
        refine kasC_bind (binary_ok hc od k1.pm (by omega) m1 u1 (by omega) fun p2 k2 u2 => ?_)
        rw [if_neg (by decide)]
        have kN : Kept n lo p p2 := ⟨k2.pm, fun i hi => (k2.pre i hi).trans (k1.pre i hi)⟩
        have kget := kept_get P' kN hlo
        have uN := u2
        have kpos : 0 < min (n - lo) (minRun' n n 0) := by omega
        have chN : Ch lt p2.toList 0 L lo := ch.same fun i _ hi => kget i hi
        have srN : Srt lt (seg p2.toList lo (min (n - lo) (minRun' n n 0))) := srt_up uN (by rw [kN.pm.size]; omega)
        refine kasC_bind (kasC_get ?_)
        rcases List.eq_nil_or_concat L with rfl | ⟨L', r0, rfl⟩
        · try dsimp only
          rw [show (pendingOf (sst κ it ([] : List Rn).toArray g' p2)).back? = none from rfl]
          try dsimp only
          refine kasC_bind (kasC_modify (kasC_pure ⟨rfl, rfl, p2, [(lo, (min (n - lo) (minRun' n n 0)), 0)], g', rfl, kN.pm, ?_, by dsimp only; omega, by dsimp only; omega⟩))
          obtain rfl : lo = 0 := (show 0 = lo from chN).symm
          exact ⟨rfl, by omega, srN, rfl⟩
        · obtain ⟨s1, n1, w1⟩ := r0
          rw [List.concat_eq_append] at chN
          try dsimp only
          rw [show (pendingOf (sst κ it ((L'.concat (s1, n1, w1)).toArray) g' p2)).back? = some (s1, n1, w1) from (by show ((L'.concat (s1, n1, w1)).toArray).back? = _; simp [List.concat_eq_append])]
          try dsimp only
          rw [List.concat_eq_append]
          refine kasC_bind (kasC_for (fun t2 c st' => c.1 = none ∧ ∃ (p3 : Array Nat) (L3 : List Rn) (g3 : Nat), st' = sst κ it L3.toArray g3 p3 ∧ Pm n p3 ∧ Ch lt p3.toList 0 L3 lo ∧ L3 ≠ [] ∧ ∀ i, lo ≤ i → p3.toList[i]? = p2.toList[i]?) (fun c st' => c.1 = none ∧ ∃ (p3 : Array Nat) (L3 : List Rn) (g3 : Nat), st' = sst κ it L3.toArray g3 p3 ∧ Pm n p3 ∧ Ch lt p3.toList 0 L3 lo ∧ L3 ≠ [] ∧ ∀ i, lo ≤ i → p3.toList[i]? = p2.toList[i]?) ⟨rfl, p2, _, g', rfl, kN.pm, chN, by simp, fun _ _ => rfl⟩ ?_ (fun c st' h => h) ?_)
          · rintro t2 x ⟨r, _⟩ st' ht2 ⟨rfl, p3, L3, g3, rfl, P3, ch3, ne3, sm3⟩
            refine kasC_bind (kasC_get ?_)
            have es : (pendingOf (sst κ it L3.toArray g3 p3)).size = L3.length := by show (L3.toArray).size = _; simp
            rw [es]
            by_cases z : L3.length > 1
            · obtain ⟨M1, M2, c, na, pw, nb, pw2, e1, e2⟩ := ch3.split (i := L3.length - 2) (by omega)
              have eg : (pendingOf (sst κ it L3.toArray g3 p3))[L3.length - 2]? = some (c, na, pw) := by
                show (L3.toArray)[L3.length - 2]? = _
                rw [← e2]
                simp [e1]
              rw [if_pos z, eg]
              try dsimp only
              split
              · exact kasC_pure ⟨rfl, rfl, p3, L3, g3, rfl, P3, ch3, ne3, sm3⟩
              · rw [← e2]
                subst e1
                refine kasC_bind (merge_at hc od P3 (by omega) ch3 fun p4 g4 P4 ch4 sm4 => ?_)
                exact kasC_pure ⟨rfl, rfl, p4, _, g4, rfl, P4, ch4, by simp, fun i hi => (sm4 i hi).trans (sm3 i hi)⟩
            · rw [if_neg z]
              exact kasC_pure ⟨rfl, rfl, p3, L3, g3, rfl, P3, ch3, ne3, sm3⟩
          · rintro ⟨r, _⟩ st' ⟨rfl, p3, L3, g3, rfl, P3, ch3, ne3, sm3⟩
            try dsimp only
            rcases List.eq_nil_or_concat L3 with rfl | ⟨M, ⟨x3, k3, w3⟩, rfl⟩
            · exact absurd rfl ne3
            rw [List.concat_eq_append] at ch3 ⊢
            refine kasC_bind (kasC_modify (kasC_bind (kasC_modify (kasC_pure ⟨rfl, rfl, p3, M ++ [(x3, k3, power' n (2 * s1 + n1) (2 * s1 + n1 + n1 + (min (n - lo) (minRun' n n 0))) n)] ++ [(lo, (min (n - lo) (minRun' n n 0)), 0)], g3, ?_, P3, Ch.app.mpr ⟨lo, ch3.pow, rfl, by omega, ?_, rfl⟩, by dsimp only; omega, by dsimp only; omega⟩))))
            · show SortSt.mk' κ (p3.map (kas_item it)) ((((M ++ [(x3, k3, w3)]).toArray).modify ((M ++ [(x3, k3, w3)]).toArray.size - 1) _).push (lo, (min (n - lo) (minRun' n n 0)), 0)) g3 none = _
              rw [mod_last]
              simp
            · rw [seg_same fun i h1 h2 => sm3 i h1]
              exact srN
      · have kN := k1
        have kget := kept_get P' kN hlo
        have uN := u1
        have chN : Ch lt p1.toList 0 L lo := ch.same fun i _ hi => kget i hi
        have srN : Srt lt (seg p1.toList lo m) := srt_up uN (by rw [kN.pm.size]; omega)
        refine kasC_bind (kasC_get ?_)
        rcases List.eq_nil_or_concat L with rfl | ⟨L', r0, rfl⟩
        · try dsimp only
          rw [show (pendingOf (sst κ it ([] : List Rn).toArray g' p1)).back? = none from rfl]
          try dsimp only
          refine kasC_bind (kasC_modify (kasC_pure ⟨rfl, rfl, p1, [(lo, m, 0)], g', rfl, kN.pm, ?_, by dsimp only; omega, by dsimp only; omega⟩))
          obtain rfl : lo = 0 := (show 0 = lo from chN).symm
          exact ⟨rfl, by omega, srN, rfl⟩
        · obtain ⟨s1, n1, w1⟩ := r0
          rw [List.concat_eq_append] at chN
          try dsimp only
          rw [show (pendingOf (sst κ it ((L'.concat (s1, n1, w1)).toArray) g' p1)).back? = some (s1, n1, w1) from (by show ((L'.concat (s1, n1, w1)).toArray).back? = _; simp [List.concat_eq_append])]
          try dsimp only
          rw [List.concat_eq_append]
          refine kasC_bind (kasC_for (fun t2 c st' => c.1 = none ∧ ∃ (p3 : Array Nat) (L3 : List Rn) (g3 : Nat), st' = sst κ it L3.toArray g3 p3 ∧ Pm n p3 ∧ Ch lt p3.toList 0 L3 lo ∧ L3 ≠ [] ∧ ∀ i, lo ≤ i → p3.toList[i]? = p1.toList[i]?) (fun c st' => c.1 = none ∧ ∃ (p3 : Array Nat) (L3 : List Rn) (g3 : Nat), st' = sst κ it L3.toArray g3 p3 ∧ Pm n p3 ∧ Ch lt p3.toList 0 L3 lo ∧ L3 ≠ [] ∧ ∀ i, lo ≤ i → p3.toList[i]? = p1.toList[i]?) ⟨rfl, p1, _, g', rfl, kN.pm, chN, by simp, fun _ _ => rfl⟩ ?_ (fun c st' h => h) ?_)
          · rintro t2 x ⟨r, _⟩ st' ht2 ⟨rfl, p3, L3, g3, rfl, P3, ch3, ne3, sm3⟩
            refine kasC_bind (kasC_get ?_)
            have es : (pendingOf (sst κ it L3.toArray g3 p3)).size = L3.length := by show (L3.toArray).size = _; simp
            rw [es]
            by_cases z : L3.length > 1
            · obtain ⟨M1, M2, c, na, pw, nb, pw2, e1, e2⟩ := ch3.split (i := L3.length - 2) (by omega)
              have eg : (pendingOf (sst κ it L3.toArray g3 p3))[L3.length - 2]? = some (c, na, pw) := by
                show (L3.toArray)[L3.length - 2]? = _
                rw [← e2]
                simp [e1]
              rw [if_pos z, eg]
              try dsimp only
              split
              · exact kasC_pure ⟨rfl, rfl, p3, L3, g3, rfl, P3, ch3, ne3, sm3⟩
              · rw [← e2]
                subst e1
                refine kasC_bind (merge_at hc od P3 (by omega) ch3 fun p4 g4 P4 ch4 sm4 => ?_)
                exact kasC_pure ⟨rfl, rfl, p4, _, g4, rfl, P4, ch4, by simp, fun i hi => (sm4 i hi).trans (sm3 i hi)⟩
            · rw [if_neg z]
              exact kasC_pure ⟨rfl, rfl, p3, L3, g3, rfl, P3, ch3, ne3, sm3⟩
          · rintro ⟨r, _⟩ st' ⟨rfl, p3, L3, g3, rfl, P3, ch3, ne3, sm3⟩
            try dsimp only
            rcases List.eq_nil_or_concat L3 with rfl | ⟨M, ⟨x3, k3, w3⟩, rfl⟩
            · exact absurd rfl ne3
            rw [List.concat_eq_append] at ch3 ⊢
            refine kasC_bind (kasC_modify (kasC_bind (kasC_modify (kasC_pure ⟨rfl, rfl, p3, M ++ [(x3, k3, power' n (2 * s1 + n1) (2 * s1 + n1 + n1 + m) n)] ++ [(lo, m, 0)], g3, ?_, P3, Ch.app.mpr ⟨lo, ch3.pow, rfl, by omega, ?_, rfl⟩, by dsimp only; omega, by dsimp only; omega⟩))))
            · show SortSt.mk' κ (p3.map (kas_item it)) ((((M ++ [(x3, k3, w3)]).toArray).modify ((M ++ [(x3, k3, w3)]).toArray.size - 1) _).push (lo, m, 0)) g3 none = _
              rw [mod_last]
              simp
            · rw [seg_same fun i h1 h2 => sm3 i h1]
              exact srN
  · rintro ⟨r, lo⟩ st' ⟨rfl, p, L, g', rfl, P', ch, hlo, htl⟩
    dsimp only at ch hlo htl
    obtain rfl : lo = n := by omega
    exact ⟨rfl, p, L, g', rfl, P', ch⟩
  · rintro ⟨r, lo⟩ st' ⟨rfl, p, L, g', rfl, P', ch⟩
    try dsimp only
    refine kasC_bind (kasC_for (fun t c st' => c.1 = none ∧ ∃ (p : Array Nat) (L : List Rn) (g' : Nat), st' = sst κ it L.toArray g' p ∧ Pm n p ∧ Ch lt p.toList 0 L n ∧ (L.length + t ≤ n ∨ L.length ≤ 1)) (fun c st' => c.1 = none ∧ ∃ (p : Array Nat) (L : List Rn) (g' : Nat), st' = sst κ it L.toArray g' p ∧ Pm n p ∧ Ch lt p.toList 0 L n ∧ L.length ≤ 1) ⟨rfl, p, L, g', rfl, P', ch, .inl (by have := Ch.le ch; omega)⟩ ?_ ?_ ?_)
    · rintro t x ⟨r, _⟩ st' ht ⟨rfl, p3, L3, g3, rfl, P3, ch3, hl3⟩
      refine kasC_bind (kasC_get ?_)
      have es : (pendingOf (sst κ it L3.toArray g3 p3)).size = L3.length := by show (L3.toArray).size = _; simp
      rw [es]
      by_cases z : L3.length ≤ 1
      · rw [if_pos z]
        exact kasC_pure ⟨rfl, rfl, p3, L3, g3, rfl, P3, ch3, z⟩
      · rw [if_neg z]
        have pick : ∀ b : Bool, (if b = true then L3.length - 2 - 1 else L3.length - 2) + 1 < L3.length := fun b => by split <;> omega
        generalize hb : (Option.any _ _) = b
        have hi := pick b
        generalize hi' : (if b = true then L3.length - 2 - 1 else L3.length - 2) = i at hi ⊢
        obtain ⟨M1, M2, c, na, pw, nb, pw2, e1, e2⟩ := ch3.split hi
        rw [← e2]
        clear hb hi' es pick
        subst e1
        refine kasC_bind (merge_at hc od P3 (Nat.le_refl _) ch3 fun p4 g4 P4 ch4 sm4 => ?_)
        refine kasC_pure ⟨rfl, rfl, p4, _, g4, rfl, P4, ch4, ?_⟩
        simp only [List.length_append, List.length_cons] at hl3 z ⊢
        omega
    · rintro ⟨r, _⟩ st' ⟨rfl, p3, L3, g3, rfl, P3, ch3, hl3⟩
      exact ⟨rfl, p3, L3, g3, rfl, P3, ch3, by omega⟩
    · rintro ⟨r, _⟩ st' ⟨rfl, p3, L3, g3, rfl, P3, ch3, hl3⟩
      refine kasC_pure (q p3 _ g3 P3 (up_srt P3.size ?_ od))
      match L3, ch3, hl3 with
      | [], h, _ => exact absurd (show 0 = n from h) (by omega)
      | [(x, k, w)], h, _ =>
        obtain ⟨h1, h2, h3, h4⟩ := h
        have h4 : 0 + k = n := h4
        rw [show n = k by omega]
        exact h3
      | _ :: _ :: _, _, hl => simp at hl
end
end L2
set_option Elab.async false
set_option linter.all false
set_option maxRecDepth 100000
namespace L2
open PySem PySem.Spec PyProof.Rows PySem.W Hq
section
variable {prog : Program} {w : World} {A : Around} {E : Value → Shared → Prop} {s : Shared}
theorem run_any {κ : SortKind} {vs : List Value} {lt : Nat → Nat → Bool} {Q : SortSt → Shared → Prop} (hc : Asks vs.length lt (kas_ask prog w A κ vs) s) (od : Ord lt) (h0 : 0 < vs.length)
    (q : ∀ p st', Pm vs.length p → Up lt p vs.length → arrOf st' = p.map (kas_item (vs.toArray.zip vs.toArray)) → failedOf st' = none → Q st' s) :
    wpAny (model prog w) A ((sortRuns').run (SortSt.mk' κ (vs.toArray.zip vs.toArray) #[] 7 none)) (fun r s' => Q r.2 s') E s := by
  rw [kat_ask_eq rfl] at hc
  have e := kas_range (vs.toArray.zip vs.toArray)
  rw [show (vs.toArray.zip vs.toArray).size = vs.length by simp] at e
  have run := runs_ok (E := E) (Q := fun _ st' s' => Q st' s') (g := 7) hc od (Array.Perm.refl _) h0 fun p L g' P U => q p _ P U rfl rfl
  have est : SortSt.mk' κ (vs.toArray.zip vs.toArray) #[] 7 none = sst κ (vs.toArray.zip vs.toArray) #[] 7 (List.range vs.length).toArray := by
    show _ = SortSt.mk' κ ((List.range vs.length).toArray.map _) #[] 7 none
    rw [e]
  rw [est]
  exact run
def SortK (prog : Program) (w : World) (A : Around) (E : Value → Shared → Prop) (s : Shared) (vs : List Value) (lt : Nat → Nat → Bool) : Prop :=
  ∀ h' : Heap, (∀ b o, s.heap.get? b = some o → o.cls = .type "tuple" → h'.get? b = some o) → 2 ≤ vs.length → ∀ Q : SortKind → Shared → Prop, (∀ κ, Asks vs.length lt (kas_ask prog w A κ vs) { s with heap := h' } → Q κ { s with heap := h' }) → wpAny (model prog w) A (keyKind' vs.toArray) Q E { s with heap := h' }
theorem list_sortA {a : Addr} {vs : List Value} {lt : Nat → Nat → Bool} {n : Nat} {P : PySem.Fin → Shared → Prop} (ho : s.heap.get? a = some (seqObj "list" vs.toArray n)) (od : Ord lt) (hk : ∀ E, SortK prog w A E s vs lt) (h64 : vs.length < 1000)
    (h : ∀ p : List Nat, p.Perm (List.range vs.length) → p.Pairwise (fun i j => lt j i = false) → P (.done (.ret .none)) { s with heap := sortedHeap s.heap a vs (p.map fun i => vs.getD i Value.none).toArray }) :
    wpAny (model prog w) A (Builtin.«list.sort» ⟨[.ref a], []⟩) P E s := by
  rw [list_sort_plain]
  have ha : a < s.heap.objs.size := Heap.lt_size ho
  obtain ⟨e1, ho1⟩ : ∃ e1, (s.heap.update a (Obj.mapSeq fun _ => #[])).get? a = some (seqObj "list" #[] e1) := ⟨_, get?_update_seq ho (fun _ => #[])⟩
  refine wpAny_bind (listItems_at ho rfl (wpAny_bind (listUpdate_at ho rfl (wpAny_bind (seqEpoch_at ho1 rfl (wpAny_bind (wpAny_newTuple (wpAny_bind (wpAny_newList (wpAny_holding ?_))))))))))
  have ho6 : (((s.heap.update a (Obj.mapSeq fun _ => #[])).push (seqObj "tuple" vs.toArray 0)).push (seqObj "list" #[] 0)).get? a = some (seqObj "list" #[] e1) := Heap.get?_push_of_some _ (Heap.get?_push_of_some _ ho1)
  have up : ∀ b o, s.heap.get? b = some o → o.cls = .type "tuple" → (((s.heap.update a (Obj.mapSeq fun _ => #[])).push (seqObj "tuple" vs.toArray 0)).push (seqObj "list" #[] 0)).get? b = some o := fun b o e c => by
    refine Heap.get?_push_of_some _ (Heap.get?_push_of_some _ ?_)
    rw [Heap.get?_update_other _ _ (fun z => by rw [← z, ho] at e; cases e; exact absurd (show Value.type "list" = Value.type "tuple" from c) (by decide))]
    exact e
  show wpAny (model prog w) A _ P E { s with heap := ((s.heap.update a (Obj.mapSeq fun _ => #[])).push (seqObj "tuple" vs.toArray 0)).push (seqObj "list" #[] 0) }
  dsimp only
  by_cases h2 : vs.toArray.size < 2
  · rw [if_pos h2, if_pos h2]
    refine wpAny_bind (wpAny_pure ?_)
    rw [StateT.run_pure]
    refine wpAny_bind (wpAny_pure ?_)
    dsimp only
    have eo : (arrOf (SortSt.mk' general' (vs.toArray.zip vs.toArray) #[] 7 none)).map (·.2) = ((List.range vs.length).map fun i => vs.getD i Value.none).toArray := by
      rw [range_get]
      show (vs.toArray.zip vs.toArray).map (·.2) = vs.toArray
      apply Array.ext
      · simp
      · intro i h1 h2
        simp
    rw [eo]
    refine wpAny_bind (seqEpoch_at ho6 rfl (wpAny_bind (listUpdate_at ho6 rfl ?_ (hsz2 := by rw [List.size_toArray, List.length_map, List.length_range, sizeLine_eq]; omega))))
    simp only [bne_self_eq_false, Bool.false_eq_true, if_false]
    refine wpAny_pure (h _ (List.Perm.refl _) ?_)
    rw [List.size_toArray] at h2
    have l1 : (List.range vs.length).length < 2 := by simpa using h2
    match List.range vs.length, l1 with
    | [], _ => exact List.Pairwise.nil
    | [x], _ => exact List.pairwise_singleton _ _
    | _ :: _ :: _, z => simp only [List.length_cons] at z; omega
  · rw [if_neg h2, if_neg h2]
    rw [List.size_toArray] at h2
    refine wpAny_bind (hk _ _ up (by omega) _ fun κ as => ?_)
    refine wpAny_bind (wpAny_mono (run_any (Q := fun st' s' => ∃ p : Array Nat, s' = { s with heap := ((s.heap.update a (Obj.mapSeq fun _ => #[])).push (seqObj "tuple" vs.toArray 0)).push (seqObj "list" #[] 0) } ∧ arrOf st' = p.map (kas_item (vs.toArray.zip vs.toArray)) ∧ failedOf st' = none ∧ Pm vs.length p ∧ Up lt p vs.length) as od (by omega) fun p st' P U b1 b2 => ⟨p, rfl, b1, b2, P, U⟩) ?_ fun _ _ e => e)
    rintro ⟨⟨⟩, st'⟩ s' ⟨p, rfl, har, hf, P, U⟩
    dsimp only
    rw [kat_snds rfl har]
    have sz := P.size
    refine wpAny_bind (seqEpoch_at ho6 rfl (wpAny_bind (listUpdate_at ho6 rfl ?_ (hsz2 := by rw [List.size_toArray, List.length_map, Array.length_toList, sizeLine_eq]; omega))))
    rw [hf]
    simp only [bne_self_eq_false, Bool.false_eq_true, if_false]
    refine wpAny_pure (h p.toList ?_ ?_)
    · have := Array.perm_iff_toList_perm.mp P
      simpa using this
    · rw [List.pairwise_iff_getElem]
      intro i j hi hj hij
      rw [Array.length_toList] at hi hj
      have u := U i j (by omega) (by omega)
      have e : ∀ i (hi : i < p.size), Kp p i = p[i] := fun i hi => by unfold Kp; simp [Array.getD, hi]
      rw [e i hi, e j hj] at u
      simpa using u
theorem sorted_any {l : Addr} {vs : List Value} {lt : Nat → Nat → Bool} {Q : Value → Shared → Prop} (hl : s.heap.IsList l vs.toArray) (od : Ord lt) (hk : ∀ A (h' : Heap), (∀ b o, s.heap.get? b = some o → o.cls = .type "tuple" → h'.get? b = some o) → ∀ E, SortK prog w A E { s with heap := h' } vs lt) (h64 : vs.length < 1000)
    (h : ∀ p : List Nat, p.Perm (List.range vs.length) → p.Pairwise (fun i j => lt j i = false) → Q (.ref (s.heap.objs.size + 1)) { s with heap := sortedAll s.heap vs (p.map fun i => vs.getD i Value.none).toArray }) :
    wpAny (model prog w) A (call (.builtin "sorted") [.ref l]) Q E s := by
  refine Calls.call_function_entry kind_sorted plain_sorted entry_sorted (args_sorted1 (.ref l)) (show wpAny _ _ (Builtin.«sorted» _) _ _ _ from ?_)
  unfold Builtin.«sorted»
  refine wpAny_bind (m := checkCount "sorted" 1 1 _) (wpAny_pure (wpAny_bind (collect_list hl (wpAny_bind (wpAny_newList ?_)))))
  have hsz : ((s.heap.push (seqObj "list" #[] 0)).update s.heap.objs.size (Obj.mapSeq (· ++ vs.toArray))).objs.size = s.heap.objs.size + 1 := (Heap.size_update ..).trans (size_push' ..)
  have hoL : (((s.heap.push (seqObj "list" #[] 0)).update s.heap.objs.size (Obj.mapSeq (· ++ vs.toArray))).push (seqObj "list" vs.toArray 0)).get? (s.heap.objs.size + 1) = some (seqObj "list" vs.toArray 0) := hsz ▸ Heap.get?_push_size _ rfl
  show wpAny _ _ _ _ _ { s with heap := ((s.heap.push (seqObj "list" #[] 0)).update s.heap.objs.size (Obj.mapSeq (· ++ vs.toArray))).push (seqObj "list" vs.toArray 0) }
  rw [hsz]
  refine wpAny_bind (wpAny_holding (wpAny_call_entry slot_list_sort ⟨_, hoL, rfl⟩ entry_list_sort (list_sortA hoL od (hk _ _ fun b o e c => ?_) h64 fun p p1 p2 => ⟨_, rfl, wpAny_pure ⟨_, rfl, h p p1 p2⟩⟩) (args_list_sort _)))
  refine Heap.get?_push_of_some _ ?_
  rw [Heap.get?_update_other _ _ (Nat.ne_of_gt (Heap.lt_size e))]
  exact Heap.get?_push_of_some _ e
theorem tups_sortK {vs : List Value} {ks : List (List Int)} (hT : Tups s.heap vs ks) (hne : ∀ k ∈ ks, k ≠ []) : SortK prog w A E s vs (fun i j => HT.lexLt (ks.getD i []) (ks.getD j [])) := fun h' up h2 Q q => by
  have hT6 : Tups h' vs ks := Paired.mapP hT fun _ _ z => z.keep up
  obtain ⟨fs, f1, f2, f3⟩ := tups_firsts hT6 hne
  refine kat_kind (T := .type "int") (s := { s with heap := h' }) f1 (by omega) (fun v hv => ?_) rfl (q _ (asks_tups (s := { s with heap := h' }) hT6))
  obtain ⟨i, t, rfl⟩ := f3 v hv
  exact .now
end
theorem call_sortedA {X : Cx} : CallR X (.builtin "sorted") (fun xs H Q => ∃ (p : Addr) (ts : List Addr) (k : Addr → List Int), xs = [.ref p] ∧ SqL X.K H p (ts.map V.ref) ∧ ts.length < 1000 ∧ (∀ t ∈ ts, H t = some (.tup ((k t).map V.int))) ∧ (∀ t ∈ ts, k t ≠ []) ∧
    ∀ us : List Addr, us.Perm ts → us.Pairwise (fun a b => Le (k a) (k b)) → ∀ l, H l = none → Q (.ref l) (upd H l (.lst (us.map V.ref)))) := by
  intro pins s σ H xs us Q I r h
  obtain ⟨p, ts, k, rfl, hq, hl, hk, hne, q⟩ := h
  obtain ⟨u, rfl, rx⟩ := vals1 r
  cases rx
  obtain ⟨its, r', pl, hz⟩ := I.list hq
  obtain rfl := vals_refs r'
  refine sorted_any pl.isList (ord_lex fun i => (ts.map k).getD i []) (fun A h' up E => tups_sortK (s := { s with heap := h' }) (Paired.mapP (HOk.tups I.hok hk) fun _ _ z => z.keep up) fun x hx => ?_) (by rw [List.length_map]; exact hl) fun ps p1 p2 => ?_
  · obtain ⟨t, ht, rfl⟩ := List.mem_map.mp hx
    exact hne t ht
  · rw [List.length_map] at p1
    have g1 : ∀ i ∈ ps, i < ts.length := fun i hi => List.mem_range.mp (p1.mem_iff.mp hi)
    have e1 : (ps.map fun i => (ts.map Value.ref).getD i Value.none) = (ps.map fun i => ts.getD i 0).map Value.ref := by
      rw [List.map_map]
      refine List.map_congr_left fun i hi => ?_
      have := g1 i hi
      simp [this]
    have e2 : (ps.map fun i => (ts.map k).getD i []) = (ps.map fun i => ts.getD i 0).map k := by
      rw [List.map_map]
      refine List.map_congr_left fun i hi => ?_
      have := g1 i hi
      simp [this]
    have p2 : (ps.map fun i => (ts.map k).getD i []).Pairwise Le := List.pairwise_map.mpr p2
    rw [e2, List.pairwise_map] at p2
    have pm : (ps.map fun i => ts.getD i 0).Perm ts := by
      have := p1.map fun i => ts.getD i 0
      rw [range_get] at this
      exact this
    have lm := pm.length_eq
    rw [e1]
    obtain ⟨e, he⟩ := sortedAll_at s.heap (ts.map Value.ref) ((ps.map fun i => ts.getD i 0).map Value.ref).toArray
    refine ⟨.ref (s.heap.objs.size + 1), upd H (s.heap.objs.size + 1) (.lst ((ps.map fun i => ts.getD i 0).map V.ref)), I.laid (t' := s.toks) (fun b o hb => sortedAll_old hb) (Nat.le_succ _) ?_, rfl, q _ pm p2 _ (I.hok.fresh (Nat.le_succ _))⟩
    exact ⟨by rw [List.length_map, lm, sizeLine_eq]; omega, (ps.map fun i => ts.getD i 0).map Value.ref, e, refs_vals _, he⟩
end L2
set_option Elab.async false
set_option linter.all false
set_option maxRecDepth 100000
namespace Pf
open PySem L2
def top (i : Nat) : Stmt := PySem.Challenge.pw_floorways_k02_heaps.main.body.getD i (.Pass ⟨0, 0, 0, 0⟩)
abbrev s_Heap_init : Stmt := inClass (top 18) 0
abbrev s_Heap_put : Stmt := inClass (top 18) 1
abbrev s_Heap_least : Stmt := inClass (top 18) 2
abbrev s_Heap_take : Stmt := inClass (top 18) 3
abbrev s_Heap_size : Stmt := inClass (top 18) 4
abbrev s_Heap_lying : Stmt := inClass (top 18) 5
abbrev s_Heap_lift_last : Stmt := inClass (top 18) 6
abbrev s_Heap_sink_first : Stmt := inClass (top 18) 7
abbrev s_Heap_lesser_below : Stmt := inClass (top 18) 8
abbrev s_Heap_swap : Stmt := inClass (top 18) 9
abbrev s_Lat : Stmt := top 20
abbrev s_Lmixed : Stmt := top 21
abbrev s_Lwhole : Stmt := top 22
abbrev s_Lword : Stmt := top 23
abbrev s_Lthing : Stmt := top 24
abbrev s_Ltold : Stmt := top 25
abbrev s_Lis_heap : Stmt := top 26
abbrev s_Lstands : Stmt := top 27
abbrev s_Ldone : Stmt := top 28
abbrev s_law : Stmt := top 29
structure Ad where
  Heap_init : Addr
  Heap_put : Addr
  Heap_least : Addr
  Heap_take : Addr
  Heap_size : Addr
  Heap_lying : Addr
  Heap_lift_last : Addr
  Heap_sink_first : Addr
  Heap_lesser_below : Addr
  Heap_swap : Addr
  Lat : Addr
  Lmixed : Addr
  Lwhole : Addr
  Lword : Addr
  Lthing : Addr
  Ltold : Addr
  Lis_heap : Addr
  Lstands : Addr
  Ldone : Addr
  law : Addr
  C_Heap : Addr
  C_Empty : Addr
  C_FloorError : Addr
  C_BadFloor : Addr
  C_BadKind : Addr
  C_BadCell : Addr
  C_BadCharge : Addr
  C_BadStops : Addr
  C_BadWay : Addr
  C_NoCarrier : Addr
  C_NoTask : Addr
  C_Meets : Addr
  C_Taken : Addr
  C_Busy : Addr
  C_NoReserve : Addr
  C_Closed : Addr
  C_Jammed : Addr
structure Txt (K : PySem.W.Frag) (mg : Str → Option Value) (ad : Ad) : Prop where
  b_len : mg "len" = none
  b_range : mg "range" = none
  b_sorted : mg "sorted" = none
  b_min : mg "min" = none
  b_tuple : mg "tuple" = none
  b_list : mg "list" = none
  b_isinstance : mg "isinstance" = none
  b_int : mg "int" = none
  b_bool : mg "bool" = none
  b_ValueError : mg "ValueError" = none
  m_Heap_put : Meth K ad.C_Heap "put" ad.Heap_put
  m_Heap_least : Meth K ad.C_Heap "least" ad.Heap_least
  m_Heap_take : Meth K ad.C_Heap "take" ad.Heap_take
  m_Heap_size : Meth K ad.C_Heap "size" ad.Heap_size
  m_Heap_lying : Meth K ad.C_Heap "lying" ad.Heap_lying
  m_Heap_lift_last : Meth K ad.C_Heap "lift_last" ad.Heap_lift_last
  m_Heap_sink_first : Meth K ad.C_Heap "sink_first" ad.Heap_sink_first
  m_Heap_lesser_below : Meth K ad.C_Heap "lesser_below" ad.Heap_lesser_below
  m_Heap_swap : Meth K ad.C_Heap "swap" ad.Heap_swap
  mg_Lat : mg "_law_at" = some (.ref ad.Lat)
  k_Lat : PySem.W.keepIn K (.ref ad.Lat) = true
  mg_Lmixed : mg "_law_mixed" = some (.ref ad.Lmixed)
  k_Lmixed : PySem.W.keepIn K (.ref ad.Lmixed) = true
  mg_Lwhole : mg "_law_whole" = some (.ref ad.Lwhole)
  k_Lwhole : PySem.W.keepIn K (.ref ad.Lwhole) = true
  mg_Lword : mg "_law_word" = some (.ref ad.Lword)
  k_Lword : PySem.W.keepIn K (.ref ad.Lword) = true
  mg_Lthing : mg "_law_thing" = some (.ref ad.Lthing)
  k_Lthing : PySem.W.keepIn K (.ref ad.Lthing) = true
  mg_Ltold : mg "_law_told" = some (.ref ad.Ltold)
  k_Ltold : PySem.W.keepIn K (.ref ad.Ltold) = true
  mg_Lis_heap : mg "_law_is_heap" = some (.ref ad.Lis_heap)
  k_Lis_heap : PySem.W.keepIn K (.ref ad.Lis_heap) = true
  mg_Lstands : mg "_law_stands" = some (.ref ad.Lstands)
  k_Lstands : PySem.W.keepIn K (.ref ad.Lstands) = true
  mg_Ldone : mg "_law_done" = some (.ref ad.Ldone)
  k_Ldone : PySem.W.keepIn K (.ref ad.Ldone) = true
  mg_law : mg "law" = some (.ref ad.law)
  k_law : PySem.W.keepIn K (.ref ad.law) = true
  mg_Heap : mg "Heap" = some (.ref ad.C_Heap)
  cl_Heap : Cls K ad.C_Heap
  n_Heap_things : NoAttr K ad.C_Heap "things"
  mk_Heap : Mk K ad.C_Heap ad.Heap_init
  mg_Empty : mg "Empty" = some (.ref ad.C_Empty)
  er_Empty : ErrC K ad.C_Empty
  mg_FloorError : mg "FloorError" = some (.ref ad.C_FloorError)
  mg_BadFloor : mg "BadFloor" = some (.ref ad.C_BadFloor)
  mg_BadKind : mg "BadKind" = some (.ref ad.C_BadKind)
  mg_BadCell : mg "BadCell" = some (.ref ad.C_BadCell)
  mg_BadCharge : mg "BadCharge" = some (.ref ad.C_BadCharge)
  mg_BadStops : mg "BadStops" = some (.ref ad.C_BadStops)
  mg_BadWay : mg "BadWay" = some (.ref ad.C_BadWay)
  mg_NoCarrier : mg "NoCarrier" = some (.ref ad.C_NoCarrier)
  mg_NoTask : mg "NoTask" = some (.ref ad.C_NoTask)
  mg_Meets : mg "Meets" = some (.ref ad.C_Meets)
  mg_Taken : mg "Taken" = some (.ref ad.C_Taken)
  mg_Busy : mg "Busy" = some (.ref ad.C_Busy)
  mg_NoReserve : mg "NoReserve" = some (.ref ad.C_NoReserve)
  mg_Closed : mg "Closed" = some (.ref ad.C_Closed)
  mg_Jammed : mg "Jammed" = some (.ref ad.C_Jammed)
  xm_Empty_FloorError : PySem.W.exmOne K (.ref ad.C_Empty) (.ref ad.C_FloorError) = some true
  is_Empty_BadFloor : PySem.W.kitOne K (.ref ad.C_Empty) (.ref ad.C_BadFloor) = some false
  is_Empty_BadKind : PySem.W.kitOne K (.ref ad.C_Empty) (.ref ad.C_BadKind) = some false
  is_Empty_BadCell : PySem.W.kitOne K (.ref ad.C_Empty) (.ref ad.C_BadCell) = some false
  is_Empty_BadCharge : PySem.W.kitOne K (.ref ad.C_Empty) (.ref ad.C_BadCharge) = some false
  is_Empty_BadStops : PySem.W.kitOne K (.ref ad.C_Empty) (.ref ad.C_BadStops) = some false
  is_Empty_BadWay : PySem.W.kitOne K (.ref ad.C_Empty) (.ref ad.C_BadWay) = some false
  is_Empty_Empty : PySem.W.kitOne K (.ref ad.C_Empty) (.ref ad.C_Empty) = some true
  is_Empty_NoCarrier : PySem.W.kitOne K (.ref ad.C_Empty) (.ref ad.C_NoCarrier) = some false
  is_Empty_NoTask : PySem.W.kitOne K (.ref ad.C_Empty) (.ref ad.C_NoTask) = some false
  is_Empty_Meets : PySem.W.kitOne K (.ref ad.C_Empty) (.ref ad.C_Meets) = some false
  is_Empty_Taken : PySem.W.kitOne K (.ref ad.C_Empty) (.ref ad.C_Taken) = some false
  is_Empty_Busy : PySem.W.kitOne K (.ref ad.C_Empty) (.ref ad.C_Busy) = some false
  is_Empty_NoReserve : PySem.W.kitOne K (.ref ad.C_Empty) (.ref ad.C_NoReserve) = some false
  is_Empty_Closed : PySem.W.kitOne K (.ref ad.C_Empty) (.ref ad.C_Closed) = some false
  is_Empty_Jammed : PySem.W.kitOne K (.ref ad.C_Empty) (.ref ad.C_Jammed) = some false
  is_Empty_FloorError : PySem.W.kitOne K (.ref ad.C_Empty) (.ref ad.C_FloorError) = some true
  is_Empty_ValueError : PySem.W.kitOne K (.ref ad.C_Empty) (.type "ValueError") = some true
  ga_Empty : PySem.W.findIn K (.ref ad.C_Empty) "__getattribute__" = some (some (.builtin "BaseException.__getattribute__"))
  gn_Empty : PySem.W.findIn K (.ref ad.C_Empty) "__getattr__" = some none
  bx_Empty : PySem.W.mroIn K ad.C_Empty (.type "BaseException") = some true
  cl_Empty : (PySem.W.clsIn K ad.C_Empty).isSome = true
  ca_Empty : PySem.W.findIn K (.ref ad.C_Empty) "__class__" = some (some (.builtin "object.__class__"))
  cm_Empty : PySem.W.mroIn K ad.C_Empty (.type "object") = some true
  cgx : PySem.W.specialIn K (.builtin "object.__class__") "__get__" = some (some (.builtin "getset_descriptor.__get__"))
  ctx : PySem.W.takesIn K (.builtin "object.__class__") = some true
def isI : V → Bool
  | .int _ => true
  | _ => false
def isIB : V → Bool
  | .int _ => true
  | .bl _ => true
  | _ => false
def isB : V → Bool
  | .bl _ => true
  | _ => false
def TyB (K : PySem.W.Frag) (H : Hp) (x : V) : Prop := ∃ n, TyOf K H x (.type n)
theorem kit_int {K : PySem.W.Frag} {H : Hp} {x : V} {n : String} (h : TyOf K H x (.type n)) : PySem.W.kitOne K (.type n) (.type "int") = some (isIB x) := by
  cases h <;> rfl
theorem kit_bool {K : PySem.W.Frag} {H : Hp} {x : V} {n : String} (h : TyOf K H x (.type n)) : PySem.W.kitOne K (.type n) (.type "bool") = some (isB x) := by
  cases h <;> rfl
def spWhole (K : PySem.W.Frag) : Sp := fun vs H Q _ => ∃ x, vs = [x] ∧ TyB K H x ∧ Q (.bl (isI x)) H
theorem tSeq_cut {t u : TS} {D : Ends} {σ : St} {H : Hp} (M : St → Hp → Prop) (h1 : ∀ nx : St → Hp → Prop, (∀ σ' H', M σ' H' → nx σ' H') → t { D with nx := nx } σ H) (h2 : ∀ σ' H', M σ' H' → u D σ' H') : tSeq t u D σ H := h1 (u D) h2
def spAt (K : PySem.W.Frag) : Sp := fun vs H Q _ => ∃ (a : Addr) (ns : List Int) (k : Int), vs = [.ref a, .int k] ∧ SqL K H a (ns.map V.int) ∧ ns.length ≤ 63 ∧ 0 ≤ k ∧ k ≤ 1000 ∧ ∀ r : Int, 0 ≤ r → r < 2147483647 → Q (.int r) H
open Hq
def HeapAt (ad : Ad) (H : Hp) (hp l : Addr) (ts : List Addr) : Prop := (∃ dx, H hp = some (.ins ad.C_Heap dx (putF "things" (.ref l) []))) ∧ H l = some (.lst (ts.map V.ref))
def KeysAt (H : Hp) (k : Addr → List Int) (ts : List Addr) : Prop := ∀ t ∈ ts, H t = some (.tup ((k t).map V.int))
theorem h_things (l : Addr) : (putF "things" (V.ref l) []).lookup ("things" : Str) = some (.ref l) := by rw [lookup_putF, if_pos rfl]
theorem h_no (l : Addr) {m : Str} (h : ¬ m = "things") : (putF "things" (V.ref l) []).lookup m = none := by rw [lookup_putF, if_neg h]; rfl
theorem HeapAt.put {ad : Ad} {H : Hp} {hp l : Addr} {ts us : List Addr} (h : HeapAt ad H hp l ts) : HeapAt ad (upd H l (.lst (us.map V.ref))) hp l us := by
  obtain ⟨⟨dx, e⟩, e2⟩ := h
  exact ⟨⟨dx, by rw [upd_ne (ne_of e e2 (fun z => by cases z))]; exact e⟩, upd_same⟩
theorem KeysAt.put {H : Hp} {k : Addr → List Int} {ts us vs : List Addr} {l : Addr} {zs : List V} (h : KeysAt H k ts) (e : H l = some (.lst zs)) (hm : ∀ t ∈ us, t ∈ ts) : KeysAt (upd H l (.lst (vs.map V.ref))) k us := fun t ht => by
  have := h t (hm t ht)
  rw [upd_ne (ne_of this e (fun z => by cases z))]
  exact this
def spHInit (ad : Ad) : Sp := fun vs H Q _ => ∃ (p dx : Addr), vs = [.ref p] ∧ H p = some (.ins ad.C_Heap dx []) ∧ ∀ l, H l = none → Q .non (upd (upd H l (.lst [])) p (.ins ad.C_Heap dx (putF "things" (.ref l) [])))
def spSwap (ad : Ad) : Sp := fun vs H Q _ => ∃ (hp l : Addr) (ts : List Addr) (p a : Nat) (x y : Addr), vs = [.ref hp, .int (p : Int), .int (a : Int)] ∧ HeapAt ad H hp l ts ∧ ts[p]? = some x ∧ ts[a]? = some y ∧ Q .non (upd H l (.lst ((swp ts p a x y).map V.ref)))
def spLesser (ad : Ad) : Sp := fun vs H Q _ => ∃ (hp l : Addr) (ts : List Addr) (k : Addr → List Int) (p : Nat), vs = [.ref hp, .int (p : Int)] ∧ HeapAt ad H hp l ts ∧ KeysAt H k ts ∧ ts.length ≤ 90000 ∧ p ≤ 90000 ∧ ((∀ i, 0 < i → (i - 1) / 2 = p → ts[i]? = none) → Q .non H) ∧ ∀ b : Nat, b < ts.length → Lesser k ts p b → Q (.int (b : Int)) H
def spLift (ad : Ad) : Sp := fun vs H Q _ => ∃ (hp l : Addr) (ts : List Addr) (k : Addr → List Int) (n : Nat), vs = [.ref hp] ∧ HeapAt ad H hp l ts ∧ KeysAt H k ts ∧ ts.length = n + 1 ∧ n ≤ 90000 ∧ Lift k ts n ∧ ∀ us : List Addr, us.Perm ts → Hok k us → Q .non (upd H l (.lst (us.map V.ref)))
def spSink (ad : Ad) : Sp := fun vs H Q _ => ∃ (hp l : Addr) (ts : List Addr) (k : Addr → List Int), vs = [.ref hp] ∧ HeapAt ad H hp l ts ∧ KeysAt H k ts ∧ ts ≠ [] ∧ ts.length ≤ 90000 ∧ Sink k ts 0 ∧ ∀ us : List Addr, us.Perm ts → Hok k us → Q .non (upd H l (.lst (us.map V.ref)))
def spLeast (ad : Ad) : Sp := fun vs H Q E => ∃ (hp l : Addr) (ts : List Addr), vs = [.ref hp] ∧ HeapAt ad H hp l ts ∧ (ts = [] → E (.ref ad.C_Empty) none H) ∧ ∀ r us, ts = r :: us → Q (.ref r) H
def spHPut (ad : Ad) : Sp := fun vs H Q _ => ∃ (hp l t : Addr) (ts : List Addr) (k : Addr → List Int), vs = [.ref hp, .ref t] ∧ HeapAt ad H hp l ts ∧ KeysAt H k (t :: ts) ∧ ts.length ≤ 80000 ∧ Hok k ts ∧ ∀ us : List Addr, us.Perm (t :: ts) → Hok k us → Q .non (upd H l (.lst (us.map V.ref)))
def spTake (ad : Ad) : Sp := fun vs H Q E => ∃ (hp l : Addr) (ts : List Addr) (k : Addr → List Int), vs = [.ref hp] ∧ HeapAt ad H hp l ts ∧ KeysAt H k ts ∧ ts.length ≤ 90000 ∧ Hok k ts ∧ (ts = [] → E (.ref ad.C_Empty) none H) ∧ ∀ (r : Addr) (us : List Addr), (r :: us).Perm ts → (∀ t ∈ ts, Le (k r) (k t)) → Hok k us → Q (.ref r) (upd H l (.lst (us.map V.ref)))
def spSize (ad : Ad) : Sp := fun vs H Q _ => ∃ (hp l : Addr) (ts : List Addr), vs = [.ref hp] ∧ HeapAt ad H hp l ts ∧ Q (.int (ts.length : Int)) H
theorem upd_id {H : Hp} {l : Addr} {o : HO} (h : H l = some o) : upd H l o = H := by
  funext b
  by_cases e : b = l
  · subst e
    rw [upd_same, h]
  · rw [upd_ne e]
theorem ixN_nat {n p : Nat} (h : p < n) : ixN n (p : Int) = some p := by
  unfold ixN
  rw [if_pos (by omega), if_pos (by omega)]
  simp
theorem at_ref {ts : List Addr} {p : Nat} {x : Addr} (h : ts[p]? = some x) : atI (ts.map V.ref) (p : Int) = some (V.ref x) := atI_nat (by rw [List.getElem?_map, h]; rfl)
theorem swp_map {ts : List Addr} {p a : Nat} {x y : Addr} : ((ts.map V.ref).set p (V.ref y)).set a (V.ref x) = (swp ts p a x y).map V.ref := by
  unfold swp
  rw [List.map_set, List.map_set]
def spMixed : Sp := fun vs H Q _ => ∃ (c k : Int), vs = [.int c, .int k] ∧ 0 ≤ c ∧ c < 2147483647 ∧ 0 ≤ k ∧ k ≤ 1000 ∧ ∀ r : Int, 0 ≤ r → r < 2147483647 → Q (.int r) H
def errs (ad : Ad) : List Addr := [ad.C_BadFloor, ad.C_BadKind, ad.C_BadCell, ad.C_BadCharge, ad.C_BadStops, ad.C_BadWay, ad.C_Empty, ad.C_NoCarrier, ad.C_NoTask, ad.C_Meets, ad.C_Taken, ad.C_Busy, ad.C_NoReserve, ad.C_Closed, ad.C_Jammed]
def words : List Str := ["floor", "kind", "cell", "charge", "stops", "way", "empty", "carrier", "task", "meets", "taken", "busy", "reserve", "closed", "jammed"]
structure Says (ad : Ad) (K : PySem.W.Frag) (C : Addr) (n : Nat) : Prop where
  k : ErrK K C
  is : ∀ i D, (errs ad)[i]? = some D → PySem.W.kitOne K (.ref C) (.ref D) = some (decide (i = n))
  fe : PySem.W.kitOne K (.ref C) (.ref ad.C_FloorError) = some true
  ve : PySem.W.kitOne K (.ref C) (.type "ValueError") = some true
theorem says_Empty {K : PySem.W.Frag} {mg : Str → Option Value} {ad : Ad} (T : Txt K mg ad) : Says ad K ad.C_Empty 6 where
  k := ⟨⟨T.ga_Empty, T.gn_Empty, T.bx_Empty⟩, T.cl_Empty, T.ca_Empty, T.cgx, T.ctx, T.cm_Empty⟩
  is := fun i D h => by
    match i, h with
    | 0, h => cases h; exact T.is_Empty_BadFloor
    | 1, h => cases h; exact T.is_Empty_BadKind
    | 2, h => cases h; exact T.is_Empty_BadCell
    | 3, h => cases h; exact T.is_Empty_BadCharge
    | 4, h => cases h; exact T.is_Empty_BadStops
    | 5, h => cases h; exact T.is_Empty_BadWay
    | 6, h => cases h; exact T.is_Empty_Empty
    | 7, h => cases h; exact T.is_Empty_NoCarrier
    | 8, h => cases h; exact T.is_Empty_NoTask
    | 9, h => cases h; exact T.is_Empty_Meets
    | 10, h => cases h; exact T.is_Empty_Taken
    | 11, h => cases h; exact T.is_Empty_Busy
    | 12, h => cases h; exact T.is_Empty_NoReserve
    | 13, h => cases h; exact T.is_Empty_Closed
    | 14, h => cases h; exact T.is_Empty_Jammed
    | (i + 15), h => simp [errs] at h
  fe := T.is_Empty_FloorError
  ve := T.is_Empty_ValueError
def PairsAt (n m : Nat) (H : Hp) (l : Addr) : Prop := ∃ ts : List Addr, ts.length = m ∧ H l = some (.lst (ts.map V.ref)) ∧ ∀ i t, ts[i]? = some t → H t = some (.tup [.str (words.getD i ""), .bl (decide (i = n))])
theorem PairsAt.same {n m : Nat} {H H' : Hp} {l : Addr} (s : Same H H') (h : PairsAt n m H l) : PairsAt n m H' l := by
  obtain ⟨ts, h1, h2, h3⟩ := h
  exact ⟨ts, h1, s _ _ h2, fun i t e => s _ _ (h3 i t e)⟩
theorem PairsAt.add {n m : Nat} {H H' : Hp} {d : Addr} {ts us : List Addr} (hl : ts.length = m) (h3 : ∀ i t, ts[i]? = some t → H t = some (.tup [.str (words.getD i ""), .bl (decide (i = n))])) (S : Same H H')
    (hu : ∀ i t, us[i]? = some t → H' t = some (.tup [.str (words.getD (m + i) ""), .bl (decide (m + i = n))])) (hd : H' d = some (.lst (ts.map V.ref ++ us.map V.ref))) : PairsAt n (m + us.length) H' d := by
  refine ⟨ts ++ us, by simp [hl], by rw [hd, List.map_append], fun i t e => ?_⟩
  by_cases q : i < ts.length
  · rw [List.getElem?_append_left q] at e
    exact S _ _ (h3 i t e)
  · rw [List.getElem?_append_right (by omega)] at e
    have := hu _ _ e
    rw [show m + (i - ts.length) = i by omega] at this
    exact this
theorem filt_none {p : Addr → Bool} {f : Addr → V} {n : Nat} : ∀ (ts : List Addr) (k : Nat), (∀ i t, ts[i]? = some t → p t = decide (k + i = n)) → n < k → (ts.filter p).map f = []
  | [], _, _, _ => rfl
  | t :: ts, k, h, hk => by
    have e := h 0 t rfl
    rw [decide_eq_false (by omega)] at e
    rw [List.filter_cons, if_neg (by rw [e]; decide)]
    exact filt_none ts (k + 1) (fun i t' q => by rw [h (i + 1) t' q, show k + (i + 1) = k + 1 + i by omega]) (by omega)
theorem filt_one {p : Addr → Bool} {f : Addr → V} {g : Nat → V} {n : Nat} : ∀ (ts : List Addr) (k : Nat), (∀ i t, ts[i]? = some t → p t = decide (k + i = n) ∧ f t = g (k + i)) → k ≤ n → n < k + ts.length → (ts.filter p).map f = [g n]
  | [], k, _, h1, h2 => by simp at h2; omega
  | t :: ts, k, h, h1, h2 => by
    obtain ⟨e1, e2⟩ := h 0 t rfl
    by_cases q : k = n
    · rw [decide_eq_true (by omega)] at e1
      rw [List.filter_cons, if_pos e1, List.map_cons, filt_none ts (k + 1) (fun i t' z => by rw [(h (i + 1) t' z).1, show k + (i + 1) = k + 1 + i by omega]) (by omega), e2]
      simp [q]
    · rw [decide_eq_false (by omega)] at e1
      rw [List.filter_cons, if_neg (by rw [e1]; decide)]
      exact filt_one ts (k + 1) (fun i t' z => by
        obtain ⟨a, b⟩ := h (i + 1) t' z
        rw [a, b, show k + 1 + i = k + (i + 1) by omega]
        exact ⟨rfl, rfl⟩) (by omega) (by simp at h2; omega)
def fst (H : Hp) (t : Addr) : V := match H t with
  | some (.tup [x, _]) => x
  | _ => .non
def snd (H : Hp) (t : Addr) : V := match H t with
  | some (.tup [_, y]) => y
  | _ => .non
def tru : V → Bool
  | .bl b => b
  | _ => false
theorem comp_rng {n : Nat} {H : Hp} {tt : TT} {te : TE} {cs : St} {F : List V → Hp → Prop} (Pv : Nat → List V → Hp → Prop) (h0 : Pv 0 [] H)
    (hs : ∀ i ys H, i < n → Pv i ys H → tt (some (.int (0 + (i : Int))) :: cs) H fun b H3 => if b = true then te (some (.int (0 + (i : Int))) :: cs) H3 fun y H4 => ys.length ≤ sizeLine ∧ Pv (i + 1) (ys ++ [y]) H4 else Pv (i + 1) ys H3)
    (hd : ∀ ys H, Pv n ys H → ys.length ≤ sizeLine ∧ F ys H) : ∃ W : Nat → Nat → List V → Hp → Prop, (∃ m, W 0 m [] H) ∧ CompW (Itr 0 n) (gName 0) tt te (none :: cs) W F :=
  comp_by (x := fun i => .int (0 + (i : Int))) Pv h0 (fun i ys H hi _ => ⟨hi, fun y H' e => ⟨e.1, e.2⟩⟩) (fun _ _ _ => Nat.le_refl _) hs hd
theorem keysAt_same {H H' : Hp} {k : Addr → List Int} {ts : List Addr} (s : Same H H') (h : KeysAt H k ts) : KeysAt H' k ts := fun t ht => s _ _ (h t ht)
theorem some_same {H H' : Hp} (s : Same H H') {b : Addr} (h : H b ≠ none) : H' b ≠ none := by
  obtain ⟨o, e⟩ := Option.ne_none_iff_exists'.mp h
  rw [s _ _ e]
  exact fun z => by cases z
theorem some_upd {H : Hp} {a : Addr} {o : HO} {b : Addr} (h : H b ≠ none) : upd H a o b ≠ none := by
  by_cases e : b = a
  · rw [e, upd_same]
    exact fun z => by cases z
  · rw [upd_ne e]
    exact h
theorem hok_nil {k : Addr → List Int} : Hok k [] := fun i x y _ hx _ => by simp at hx
def spWord (ad : Ad) (K : PySem.W.Frag) (ea C : Addr) (dx : Option Addr) : Sp := fun vs H Q _ => ∃ n, vs = [.ref ea] ∧ dx = none ∧ Says ad K C n ∧ n = 6 ∧ ∀ H', Same H H' → Q (.str (words.getD n "")) H'
def Ch (D : List Addr) (H H' : Hp) : Prop := ∀ b o, H b = some o → (b ∉ D ∨ ∀ xs, o ≠ .lst xs) → H' b = some o
theorem chS {H H' : Hp} {D : List Addr} (s : Same H H') : Ch D H H' := fun b o e _ => s b o e
theorem Ch.trans {H H' H'' : Hp} {D : List Addr} (h : Ch D H H') (g : Ch D H' H'') : Ch D H H'' := fun b o e c => g b o (h b o e c) c
theorem Ch.upd {H : Hp} {D : List Addr} {l : Addr} {xs ys : List V} (e : H l = some (.lst xs)) (hl : l ∈ D) : Ch D H (upd H l (.lst ys)) := fun b o eb c => by
  rw [upd_ne]
  · exact eb
  · rintro rfl
    rw [e] at eb
    cases eb
    rcases c with c | c
    · exact c hl
    · exact c _ rfl
theorem Ch.mono {H H' : Hp} {D D' : List Addr} (h : Ch D H H') (m : ∀ x ∈ D, x ∈ D') : Ch D' H H' := fun b o e c => h b o e (c.imp (fun n z => n (m _ z)) id)
theorem Ch.tup {H H' : Hp} {D : List Addr} (h : Ch D H H') {b : Addr} {xs : List V} (e : H b = some (.tup xs)) : H' b = some (.tup xs) := h b _ e (.inr fun _ z => by cases z)
theorem Ch.ins {H H' : Hp} {D : List Addr} (h : Ch D H H') {b C dx : Addr} {fs : List (Str × V)} (e : H b = some (.ins C dx fs)) : H' b = some (.ins C dx fs) := h b _ e (.inr fun _ z => by cases z)
theorem Ch.lst {H H' : Hp} {D : List Addr} (h : Ch D H H') {b : Addr} {xs : List V} (e : H b = some (.lst xs)) (n : b ∉ D) : H' b = some (.lst xs) := h b _ e (.inl n)
theorem Ch.keys {H H' : Hp} {D : List Addr} (h : Ch D H H') {k : Addr → List Int} {ts : List Addr} (e : KeysAt H k ts) : KeysAt H' k ts := fun t ht => h.tup (e t ht)
theorem Ch.heap {ad : Ad} {H H' : Hp} {D : List Addr} (h : Ch D H H') {hp hl : Addr} {hs : List Addr} (e : HeapAt ad H hp hl hs) (n : hl ∉ D) : HeapAt ad H' hp hl hs := by
  obtain ⟨⟨dx, e1⟩, e2⟩ := e
  exact ⟨⟨dx, h.ins e1⟩, h.lst e2 n⟩
def Kz (zs : List Int) : Prop := zs ≠ [] ∧ zs.length ≤ 1000
structure HW1 (ad : Ad) (H : Hp) (hp hl rl : Addr) (hs ws : List Addr) (k : Addr → List Int) : Prop where
  hh : HeapAt ad H hp hl hs
  at_ : H rl = some (.lst (ws.map V.ref))
  kh : KeysAt H k hs
  kw : KeysAt H k ws
  nh : ∀ x ∈ hs, Kz (k x)
  nw : ∀ x ∈ ws, Kz (k x)
  ok : Hok k hs
  pm : (hs.map k).Perm (ws.map k)
theorem HW1.len {ad : Ad} {H : Hp} {hp hl rl : Addr} {hs ws : List Addr} {k : Addr → List Int} (h : HW1 ad H hp hl rl hs ws k) : hs.length = ws.length := by
  have := h.pm.length_eq
  simpa using this
theorem HW1.ch {ad : Ad} {H H' : Hp} {D : List Addr} {hp hl rl : Addr} {hs ws : List Addr} {k : Addr → List Int} (h : HW1 ad H hp hl rl hs ws k) (c : Ch D H H') (n1 : hl ∉ D) (n2 : rl ∉ D) : HW1 ad H' hp hl rl hs ws k :=
  ⟨c.heap h.hh n1, c.lst h.at_ n2, c.keys h.kh, c.keys h.kw, h.nh, h.nw, h.ok, h.pm⟩
def HW (ad : Ad) (H : Hp) (hp hl rl : Addr) (n : Nat) : Prop := ∃ hs ws k, HW1 ad H hp hl rl hs ws k ∧ hs.length ≤ n
theorem HW.ch {ad : Ad} {H H' : Hp} {D : List Addr} {hp hl rl : Addr} {n : Nat} (h : HW ad H hp hl rl n) (c : Ch D H H') (n1 : hl ∉ D) (n2 : rl ∉ D) : HW ad H' hp hl rl n := by
  obtain ⟨hs, ws, k, h, l⟩ := h
  exact ⟨hs, ws, k, h.ch c n1 n2, l⟩
theorem HW.mono {ad : Ad} {H : Hp} {hp hl rl : Addr} {n m : Nat} (h : HW ad H hp hl rl n) (nm : n ≤ m) : HW ad H hp hl rl m := by
  obtain ⟨hs, ws, k, h, l⟩ := h
  exact ⟨hs, ws, k, h, Nat.le_trans l nm⟩
def PairOk (D : List Addr) (H : Hp) (p : Addr) : Prop := ∃ (a b : Addr) (ts : List Addr) (k : Addr → List Int), H p = some (.tup [.ref a, .ref b]) ∧ a ∉ D ∧ b ∉ D ∧ H a = some (.lst (ts.map V.ref)) ∧ H b = some (.lst (ts.map V.ref)) ∧ KeysAt H k ts ∧ ts.length ≤ 1000
theorem PairOk.ch {D E : List Addr} {H H' : Hp} {p : Addr} (h : PairOk D H p) (c : Ch E H H') (m : ∀ x ∈ E, x ∈ D) : PairOk D H' p := by
  obtain ⟨a, b, ts, k, h1, h2, h3, h4, h5, h6, h7⟩ := h
  exact ⟨a, b, ts, k, c.tup h1, h2, h3, c.lst h4 fun z => h2 (m _ z), c.lst h5 fun z => h3 (m _ z), c.keys h6, h7⟩
def KPs (D : List Addr) (H : Hp) (kp : Addr) (n : Nat) : Prop := ∃ ps : List Addr, H kp = some (.lst (ps.map V.ref)) ∧ ps.length ≤ n ∧ ∀ p ∈ ps, PairOk D H p
theorem KPs.ch {D E : List Addr} {H H' : Hp} {kp : Addr} {n : Nat} (h : KPs D H kp n) (c : Ch E H H') (m : ∀ x ∈ E, x ∈ D) (nk : kp ∉ E) : KPs D H' kp n := by
  obtain ⟨ps, h1, h2, h3⟩ := h
  exact ⟨ps, c.lst h1 nk, h2, fun p hp => (h3 p hp).ch c m⟩
theorem KPs.mono {D : List Addr} {H : Hp} {kp : Addr} {n m : Nat} (h : KPs D H kp n) (nm : n ≤ m) : KPs D H kp m := by
  obtain ⟨ps, h1, h2, h3⟩ := h
  exact ⟨ps, h1, Nat.le_trans h2 nm, h3⟩
def rowsD (ks : List (List Int)) : PyData := .list (ks.map fun k => .tuple (k.map PyData.int))
theorem den_tups {K : PySem.W.Frag} {H : Hp} {k : Addr → List Int} : ∀ {ts : List Addr}, KeysAt H k ts → DenAll K H (ts.map V.ref) ((ts.map k).map fun k => .tuple (k.map PyData.int))
  | [], _ => .nil
  | t :: ts, h => .cons (den_intsT (SqT.of (h t List.mem_cons_self))) (den_tups fun x hx => h x (List.mem_cons_of_mem _ hx))
theorem den_rows {K : PySem.W.Frag} {H : Hp} {k : Addr → List Int} {l : Addr} {ts : List Addr} (e : H l = some (.lst (ts.map V.ref))) (h : KeysAt H k ts) : Den K H (.ref l) (rowsD (ts.map k)) := .lst (SqL.of e) (den_tups h)
theorem shaped_rows (ks : List (List Int)) : SeqAt.shaped (rowsD ks) = true := by
  have h1 : ∀ ks : List (List Int), PyData.canLayAll0 (ks.map fun k => .tuple (k.map PyData.int)) = true ∧ PyData.depthAll (ks.map fun k => .tuple (k.map PyData.int)) ≤ 1 := fun ks => by
    induction ks with
    | nil => exact ⟨rfl, by simp [PyData.depthAll]⟩
    | cons k r ih => exact ⟨by simp [PyData.canLayAll0, PyData.canLay0, canLay_ints, ih.1], by simp only [List.map_cons, PyData.depthAll, PyData.depth, depth_ints]; omega⟩
  obtain ⟨a, b⟩ := h1 ks
  have e1 : PyData.canLay0 (rowsD ks) = true := by simp only [rowsD, PyData.canLay0]; exact a
  have e2 : PyData.depth (rowsD ks) ≤ 64 := by simp only [rowsD, PyData.depth]; omega
  unfold SeqAt.shaped
  rw [e1, decide_eq_true e2]
  rfl
theorem eqv_rows_nil (ks : List (List Int)) : PyData.eqv (rowsD ks) (rowsD []) = ks.isEmpty := by
  cases ks <;> simp [rowsD, PyData.eqv, PyData.eqvAll]
theorem den_nil {K : PySem.W.Frag} {H : Hp} {l : Addr} (e : H l = some (.lst [])) : Den K H (.ref l) (rowsD []) := den_rows (k := fun _ => []) (ts := []) e fun t ht => by cases ht
theorem eqv_same {d : PyData} (h : SeqAt.shaped d = true) : d.eqv d = true := eqv_self _ (SeqAt.canLay_of_shaped h)
def emptyD : PyData := .list [.str "empty"]
theorem den_empty {K : PySem.W.Frag} {H : Hp} {l : Addr} (e : H l = some (.lst [.str "empty"])) : Den K H (.ref l) emptyD := .lst (SqL.of e) (.cons (.str _) .nil)
theorem shaped_empty : SeqAt.shaped emptyD = true := by
  have h : PyData.strOk "empty" = true := by decide +kernel
  simp [emptyD, SeqAt.shaped, PyData.canLay0, PyData.canLayAll0, PyData.depth, PyData.depthAll, h]
theorem sorted_eq : ∀ {a b : List (List Int)}, a.Perm b → a.Pairwise Le → b.Pairwise Le → a = b
  | [], b, p, _, _ => (List.nil_perm.mp p).symm
  | x :: a, [], p, _, _ => absurd p.length_eq (by simp)
  | x :: a, y :: b, p, ha, hb => by
    obtain ⟨ha1, ha2⟩ := List.pairwise_cons.mp ha
    obtain ⟨hb1, hb2⟩ := List.pairwise_cons.mp hb
    have l1 : Le y x := by
      rcases List.mem_cons.mp (p.mem_iff.mp List.mem_cons_self) with z | z
      · rw [z]; exact Le.refl _
      · exact hb1 _ z
    have l2 : Le x y := by
      rcases List.mem_cons.mp (p.mem_iff.mpr List.mem_cons_self) with z | z
      · rw [z]; exact Le.refl _
      · exact ha1 _ z
    obtain rfl : x = y := lex_total l1 l2
    rw [sorted_eq p.cons_inv ha2 hb2]
theorem least_same {k : Addr → List Int} {hs ws : List Addr} (pm : (hs.map k).Perm (ws.map k)) {r m : Addr} (hr : r ∈ hs) (hm : m ∈ ws) (lr : ∀ t ∈ hs, Le (k r) (k t)) (lm : ∀ t ∈ ws, Le (k m) (k t)) : k r = k m := by
  obtain ⟨x, hx, ex⟩ := List.mem_map.mp (pm.mem_iff.mpr (List.mem_map.mpr ⟨m, hm, rfl⟩))
  obtain ⟨y, hy, ey⟩ := List.mem_map.mp (pm.mem_iff.mp (List.mem_map.mpr ⟨r, hr, rfl⟩))
  have l1 := lr x hx
  have l2 := lm y hy
  rw [ex] at l1
  rw [ey] at l2
  exact lex_total l2 l1
theorem perm_less {k : Addr → List Int} {hs ws us vs : List Addr} {r q : Addr} (pm : (hs.map k).Perm (ws.map k)) (h1 : (r :: us).Perm hs) (h2 : ws.Perm (q :: vs)) (e : k r = k q) : (us.map k).Perm (vs.map k) := by
  have a := (h1.map k).trans (pm.trans (h2.map k))
  rw [List.map_cons, List.map_cons, e] at a
  exact a.cons_inv
theorem hok_congr {k k' : Addr → List Int} {ts : List Addr} (h : Hok k ts) (e : ∀ x ∈ ts, k' x = k x) : Hok k' ts := fun i x y i0 hx hy => by
  rw [e x (List.mem_of_getElem? hx), e y (List.mem_of_getElem? hy)]
  exact h i x y i0 hx hy
def spLying (ad : Ad) : Sp := fun vs H Q _ => ∃ (hp l : Addr) (ts : List Addr), vs = [.ref hp] ∧ HeapAt ad H hp l ts ∧ ts.length ≤ 90000 ∧ ∀ r, H r = none → Q (.ref r) (upd H r (.lst (ts.map V.ref)))
def spThing : Sp := fun vs H Q _ => ∃ (c : Int) (rl : Addr) (ws : List Addr) (k : Addr → List Int), vs = [.int c, .ref rl] ∧ 0 ≤ c ∧ c < 2147483647 ∧ H rl = some (.lst (ws.map V.ref)) ∧ KeysAt H k ws ∧ ws.length ≤ 1000 ∧ (∀ H', Same H H' → ∀ t ∈ ws, Q (.ref t) H') ∧ ∀ (t : Addr) (zs : List Int) (H' : Hp), Same H H' → H t = none → H' t = some (.tup (zs.map V.int)) → Kz zs → Q (.ref t) H'
def spTold (ad : Ad) : Sp := fun vs H Q _ => ∃ (hp hl : Addr) (hs : List Addr) (k : Addr → List Int) (w : Int), vs = [.ref hp, .int w] ∧ (w = 0 ∨ w = 1) ∧ HeapAt ad H hp hl hs ∧ KeysAt H k hs ∧ Hok k hs ∧ hs.length ≤ 90000 ∧
  (hs = [] → ∀ l H', Same H H' → H l = none → H' l = some (.lst [.str "empty"]) → Q (.ref l) H') ∧
  (w = 0 → ∀ r, r ∈ hs → (∀ t ∈ hs, Le (k r) (k t)) → Q (.ref r) H) ∧
  (w = 1 → ∀ r us, (r :: us).Perm hs → (∀ t ∈ hs, Le (k r) (k t)) → Hok k us → Q (.ref r) (upd H hl (.lst (us.map V.ref))))
def spIsHeap (K : PySem.W.Frag) : Sp := fun vs H Q _ => ∃ (f rl : Addr) (hs ws : List Addr) (k : Addr → List Int), vs = [.ref f, .ref rl] ∧ H f = some (.lst (hs.map V.ref)) ∧ H rl = some (.lst (ws.map V.ref)) ∧ KeysAt H k hs ∧ KeysAt H k ws ∧ (∀ x ∈ hs, Kz (k x)) ∧ (∀ x ∈ ws, Kz (k x)) ∧ Hok k hs ∧ (hs.map k).Perm (ws.map k) ∧ hs.length ≤ 900 ∧ ∀ H', Same H H' → Q (.bl true) H'
def spStands (ad : Ad) (K : PySem.W.Frag) : Sp := fun vs H Q _ => ∃ (hp hl rl kp : Addr) (D : List Addr) (n m : Nat) (c : Int), vs = [.ref hp, .ref rl, .int c, .ref kp] ∧ 0 ≤ c ∧ c < 2147483649 ∧ HW ad H hp hl rl n ∧ KPs D H kp m ∧ kp ∈ D ∧ kp ≠ hl ∧ kp ≠ rl ∧ (∀ d ∈ D, H d ≠ none) ∧ n ≤ 100 ∧ m ≤ 1000 ∧ ∀ H', Ch [kp] H H' → KPs D H' kp (m + 3) → Q (.bl true) H'
def spDone (ad : Ad) (K : PySem.W.Frag) : Sp := fun vs H Q _ => ∃ (hp hl rl : Addr) (n : Nat) (c : Int), vs = [.ref hp, .ref rl, .int c] ∧ 0 ≤ c ∧ c < 2147483647 ∧ HW ad H hp hl rl n ∧ hl ≠ rl ∧ n ≤ 99 ∧ ∀ H', Ch [hl, rl] H H' → HW ad H' hp hl rl (n + 1) → Q (.bl true) H'
def spLaw (K : PySem.W.Frag) : Sp := fun vs H Q _ => ∃ (a : Addr) (ns : List Int), vs = [.ref a] ∧ SqL K H a (ns.map V.int) ∧ ns.length ≤ 63 ∧ ∀ H', Q (.bl true) H'
def Dof (hl rl : Nat → Addr) (kp : Addr) : List Addr := [hl 0, hl 1, rl 0, rl 1, kp]
structure LI (ad : Ad) (H0 : Hp) (ha ba kp : Addr) (hp hl rl : Nat → Addr) (n m : Nat) (H : Hp) : Prop where
  same : Same H0 H
  free : ∀ d ∈ Dof hl rl kp, H0 d = none
  nod : (Dof hl rl kp).Nodup
  hat : H ha = some (.lst [.ref (hp 0), .ref (hp 1)])
  bat : H ba = some (.lst [.ref (rl 0), .ref (rl 1)])
  hD : ha ∉ Dof hl rl kp
  bD : ba ∉ Dof hl rl kp
  hw : ∀ i, i < 2 → HW ad H (hp i) (hl i) (rl i) n
  kps : KPs (Dof hl rl kp) H kp m
theorem mem_Dof {hl rl : Nat → Addr} {kp : Addr} {i : Nat} (hi : i < 2) : hl i ∈ Dof hl rl kp ∧ rl i ∈ Dof hl rl kp := by
  rcases (by omega : i = 0 ∨ i = 1) with rfl | rfl <;> simp [Dof]
theorem kp_Dof {hl rl : Nat → Addr} {kp : Addr} : kp ∈ Dof hl rl kp := by simp [Dof]
theorem nod_Dof {hl rl : Nat → Addr} {kp : Addr} (h : (Dof hl rl kp).Nodup) {i w : Nat} (hi : i < 2) (hw : w < 2) : kp ≠ hl i ∧ kp ≠ rl i ∧ hl i ≠ rl w ∧ (i ≠ w → hl i ≠ hl w ∧ rl i ≠ rl w) := by
  simp only [Dof, List.nodup_cons, List.mem_cons, List.not_mem_nil, or_false, not_or, List.nodup_nil, and_true, not_false_eq_true] at h
  obtain ⟨⟨a1, a2, a3, a4⟩, ⟨b2, b3, b4⟩, ⟨c3, c4⟩, d4⟩ := h
  rcases (by omega : i = 0 ∨ i = 1) with rfl | rfl <;> rcases (by omega : w = 0 ∨ w = 1) with rfl | rfl
  · exact ⟨fun e => a4 e.symm, fun e => c4 e.symm, a2, fun e => absurd rfl e⟩
  · exact ⟨fun e => a4 e.symm, fun e => c4 e.symm, a3, fun _ => ⟨a1, c3⟩⟩
  · exact ⟨fun e => b4 e.symm, fun e => d4 e.symm, b2, fun _ => ⟨fun e => a1 e.symm, fun e => c3 e.symm⟩⟩
  · exact ⟨fun e => b4 e.symm, fun e => d4 e.symm, b3, fun e => absurd rfl e⟩
theorem LI.ch {ad : Ad} {H0 : Hp} {ha ba kp : Addr} {hp hl rl : Nat → Addr} {n m n' m' : Nat} {H H' : Hp} {E : List Addr} (I : LI ad H0 ha ba kp hp hl rl n m H) (c : Ch E H H') (hE : ∀ x ∈ E, x ∈ Dof hl rl kp) (h1 : ∀ i, i < 2 → HW ad H' (hp i) (hl i) (rl i) n') (h2 : KPs (Dof hl rl kp) H' kp m') : LI ad H0 ha ba kp hp hl rl n' m' H' :=
  ⟨fun b o e => c b o (I.same b o e) (.inl fun z => by rw [I.free b (hE b z)] at e; cases e), I.free, I.nod, c.lst I.hat fun z => I.hD (hE _ z), c.lst I.bat fun z => I.bD (hE _ z), I.hD, I.bD, h1, h2⟩
theorem LI.done {ad : Ad} {H0 : Hp} {ha ba kp : Addr} {hp hl rl : Nat → Addr} {n m w : Nat} {H H' : Hp} (I : LI ad H0 ha ba kp hp hl rl n m H) (lw : w < 2) (c : Ch [hl w, rl w] H H') (h : HW ad H' (hp w) (hl w) (rl w) (n + 1)) : LI ad H0 ha ba kp hp hl rl (n + 1) m H' := by
  have hE : ∀ x ∈ [hl w, rl w], x ∈ Dof hl rl kp := fun x hx => by
    rcases List.mem_cons.mp hx with e | hx
    · rw [e]; exact (mem_Dof lw).1
    · rw [List.mem_singleton.mp hx]; exact (mem_Dof lw).2
  refine I.ch c hE (fun i hi => ?_) (I.kps.ch c hE ?_)
  · by_cases e : i = w
    · rw [e]; exact h
    · obtain ⟨_, _, n1, n2⟩ := nod_Dof I.nod hi lw
      obtain ⟨_, _, n3, _⟩ := nod_Dof I.nod lw hi
      exact ((I.hw i hi).ch c (by simp [n1, (n2 e).1]) (by simp [(n2 e).2, Ne.symm n3])).mono (by omega)
  · obtain ⟨n1, n2, _, _⟩ := nod_Dof I.nod lw lw
    simp [n1, n2]
theorem LI.stands {ad : Ad} {H0 : Hp} {ha ba kp : Addr} {hp hl rl : Nat → Addr} {n m : Nat} {H H' : Hp} (I : LI ad H0 ha ba kp hp hl rl n m H) (c : Ch [kp] H H') (h : KPs (Dof hl rl kp) H' kp (m + 3)) : LI ad H0 ha ba kp hp hl rl n (m + 3) H' := by
  refine I.ch c (fun x hx => by rw [List.mem_singleton.mp hx]; exact kp_Dof) (fun i hi => ?_) h
  obtain ⟨n1, n2, _, _⟩ := nod_Dof I.nod hi hi
  exact (I.hw i hi).ch c (by simp [Ne.symm n1]) (by simp [Ne.symm n2])
theorem LI.new {ad : Ad} {H0 : Hp} {ha ba kp : Addr} {hp hl rl : Nat → Addr} {n m : Nat} {H H' : Hp} (I : LI ad H0 ha ba kp hp hl rl n m H) (s : Same H H') : LI ad H0 ha ba kp hp hl rl n m H' :=
  I.ch (chS (D := []) s) (fun x hx => by cases hx) (fun i hi => (I.hw i hi).ch (chS (D := []) s) (by simp) (by simp)) (I.kps.ch (chS (D := []) s) (fun x hx => by cases hx) (by simp))
theorem LI.mono {ad : Ad} {H0 : Hp} {ha ba kp : Addr} {hp hl rl : Nat → Addr} {n m n' m' : Nat} {H : Hp} (I : LI ad H0 ha ba kp hp hl rl n m H) (h1 : n ≤ n') (h2 : m ≤ m') : LI ad H0 ha ba kp hp hl rl n' m' H :=
  ⟨I.same, I.free, I.nod, I.hat, I.bat, I.hD, I.bD, fun i hi => (I.hw i hi).mono h1, I.kps.mono h2⟩
theorem LI.alive {ad : Ad} {H0 : Hp} {ha ba kp : Addr} {hp hl rl : Nat → Addr} {n m : Nat} {H : Hp} (I : LI ad H0 ha ba kp hp hl rl n m H) : ∀ d ∈ Dof hl rl kp, H d ≠ none := by
  have h1 : ∀ i, i < 2 → H (hl i) ≠ none ∧ H (rl i) ≠ none := fun i hi => by
    obtain ⟨hs, ws, k, w, _⟩ := I.hw i hi
    rw [w.hh.2, w.at_]
    exact ⟨fun z => (by cases z), fun z => (by cases z)⟩
  intro d hd
  simp only [Dof, List.mem_cons, List.not_mem_nil, or_false] at hd
  rcases hd with rfl | rfl | rfl | rfl | rfl
  · exact (h1 0 (by decide)).1
  · exact (h1 1 (by decide)).1
  · exact (h1 0 (by decide)).2
  · exact (h1 1 (by decide)).2
  · obtain ⟨ps, e, _⟩ := I.kps
    rw [e]
    exact fun z => by cases z
theorem atW {f : Nat → Addr} {w : Nat} (hw : w < 2) : atI [V.ref (f 0), V.ref (f 1)] (w : Int) = some (V.ref (f w)) := by
  rcases (by omega : w = 0 ∨ w = 1) with rfl | rfl <;> rfl
theorem heap_make {ad : Ad} {H : Hp} {x dx l : Addr} (nx : H x = none) (ndx : H dx = none) (nl : upd (upd H dx (HO.own x)) x (HO.ins ad.C_Heap dx []) l = none) :
    Same H (upd (upd (upd (upd H dx (HO.own x)) x (HO.ins ad.C_Heap dx [])) l (HO.lst [])) x (HO.ins ad.C_Heap dx (putF "things" (.ref l) []))) ∧ HeapAt ad (upd (upd (upd (upd H dx (HO.own x)) x (HO.ins ad.C_Heap dx [])) l (HO.lst [])) x (HO.ins ad.C_Heap dx (putF "things" (.ref l) []))) x l [] ∧ H l = none := by
  have s := same_upd (o := HO.ins ad.C_Heap dx []) (same_new (o := HO.own x) ndx) nx
  have fl := s.free nl
  have lx : l ≠ x := fun e => by rw [e, upd_same] at nl; cases nl
  exact ⟨same_upd (same_upd s fl) nx, ⟨⟨dx, upd_same⟩, by rw [upd_ne lx, upd_same]; rfl⟩, fl⟩
seal PA PE PS PSs PI PG
section
variable {P : Program} {w : World} {K : PySem.W.Frag} {mg : Str → Option Value} {base : Heap} {ad : Ad}
theorem d_BadCell : (("BadCell" : Str) == ("__debug__" : Str)) = false := by decide +kernel
theorem d_BadCharge : (("BadCharge" : Str) == ("__debug__" : Str)) = false := by decide +kernel
theorem d_BadFloor : (("BadFloor" : Str) == ("__debug__" : Str)) = false := by decide +kernel
theorem d_BadKind : (("BadKind" : Str) == ("__debug__" : Str)) = false := by decide +kernel
theorem d_BadStops : (("BadStops" : Str) == ("__debug__" : Str)) = false := by decide +kernel
theorem d_BadWay : (("BadWay" : Str) == ("__debug__" : Str)) = false := by decide +kernel
theorem d_Busy : (("Busy" : Str) == ("__debug__" : Str)) = false := by decide +kernel
theorem d_Closed : (("Closed" : Str) == ("__debug__" : Str)) = false := by decide +kernel
theorem d_Empty : (("Empty" : Str) == ("__debug__" : Str)) = false := by decide +kernel
theorem d_FloorError : (("FloorError" : Str) == ("__debug__" : Str)) = false := by decide +kernel
theorem d_Heap : (("Heap" : Str) == ("__debug__" : Str)) = false := by decide +kernel
theorem d_Jammed : (("Jammed" : Str) == ("__debug__" : Str)) = false := by decide +kernel
theorem d_Meets : (("Meets" : Str) == ("__debug__" : Str)) = false := by decide +kernel
theorem d_NoCarrier : (("NoCarrier" : Str) == ("__debug__" : Str)) = false := by decide +kernel
theorem d_NoReserve : (("NoReserve" : Str) == ("__debug__" : Str)) = false := by decide +kernel
theorem d_NoTask : (("NoTask" : Str) == ("__debug__" : Str)) = false := by decide +kernel
theorem d_Taken : (("Taken" : Str) == ("__debug__" : Str)) = false := by decide +kernel
theorem d_ValueError : (("ValueError" : Str) == ("__debug__" : Str)) = false := by decide +kernel
theorem n_ValueError : ("ValueError" : Str) ≠ "__name__" := by decide +kernel
theorem d__law_at : (("_law_at" : Str) == ("__debug__" : Str)) = false := by decide +kernel
theorem d__law_at_here : (("_law_at_here" : Str) == ("__debug__" : Str)) = false := by decide +kernel
theorem e__law_at_here : (("_law_at_here" : Str) == ("__classdict__" : Str)) = false := by decide +kernel
theorem d__law_both : (("_law_both" : Str) == ("__debug__" : Str)) = false := by decide +kernel
theorem e__law_both : (("_law_both" : Str) == ("__classdict__" : Str)) = false := by decide +kernel
theorem d__law_cell : (("_law_cell" : Str) == ("__debug__" : Str)) = false := by decide +kernel
theorem e__law_cell : (("_law_cell" : Str) == ("__classdict__" : Str)) = false := by decide +kernel
theorem d__law_done : (("_law_done" : Str) == ("__debug__" : Str)) = false := by decide +kernel
theorem d__law_due : (("_law_due" : Str) == ("__debug__" : Str)) = false := by decide +kernel
theorem e__law_due : (("_law_due" : Str) == ("__classdict__" : Str)) = false := by decide +kernel
theorem d__law_error : (("_law_error" : Str) == ("__debug__" : Str)) = false := by decide +kernel
theorem e__law_error : (("_law_error" : Str) == ("__classdict__" : Str)) = false := by decide +kernel
theorem d__law_found : (("_law_found" : Str) == ("__debug__" : Str)) = false := by decide +kernel
theorem e__law_found : (("_law_found" : Str) == ("__classdict__" : Str)) = false := by decide +kernel
theorem d__law_heap : (("_law_heap" : Str) == ("__debug__" : Str)) = false := by decide +kernel
theorem e__law_heap : (("_law_heap" : Str) == ("__classdict__" : Str)) = false := by decide +kernel
theorem d__law_heaps : (("_law_heaps" : Str) == ("__debug__" : Str)) = false := by decide +kernel
theorem e__law_heaps : (("_law_heaps" : Str) == ("__classdict__" : Str)) = false := by decide +kernel
theorem d__law_is_heap : (("_law_is_heap" : Str) == ("__debug__" : Str)) = false := by decide +kernel
theorem d__law_k : (("_law_k" : Str) == ("__debug__" : Str)) = false := by decide +kernel
theorem e__law_k : (("_law_k" : Str) == ("__classdict__" : Str)) = false := by decide +kernel
theorem d__law_kept : (("_law_kept" : Str) == ("__debug__" : Str)) = false := by decide +kernel
theorem e__law_kept : (("_law_kept" : Str) == ("__classdict__" : Str)) = false := by decide +kernel
theorem d__law_mixed : (("_law_mixed" : Str) == ("__debug__" : Str)) = false := by decide +kernel
theorem d__law_rows : (("_law_rows" : Str) == ("__debug__" : Str)) = false := by decide +kernel
theorem e__law_rows : (("_law_rows" : Str) == ("__classdict__" : Str)) = false := by decide +kernel
theorem d__law_script : (("_law_script" : Str) == ("__debug__" : Str)) = false := by decide +kernel
theorem e__law_script : (("_law_script" : Str) == ("__classdict__" : Str)) = false := by decide +kernel
theorem d__law_some : (("_law_some" : Str) == ("__debug__" : Str)) = false := by decide +kernel
theorem e__law_some : (("_law_some" : Str) == ("__classdict__" : Str)) = false := by decide +kernel
theorem d__law_stands : (("_law_stands" : Str) == ("__debug__" : Str)) = false := by decide +kernel
theorem d__law_thing : (("_law_thing" : Str) == ("__debug__" : Str)) = false := by decide +kernel
theorem d__law_thing_here : (("_law_thing_here" : Str) == ("__debug__" : Str)) = false := by decide +kernel
theorem e__law_thing_here : (("_law_thing_here" : Str) == ("__classdict__" : Str)) = false := by decide +kernel
theorem d__law_told : (("_law_told" : Str) == ("__debug__" : Str)) = false := by decide +kernel
theorem d__law_way : (("_law_way" : Str) == ("__debug__" : Str)) = false := by decide +kernel
theorem e__law_way : (("_law_way" : Str) == ("__classdict__" : Str)) = false := by decide +kernel
theorem d__law_which : (("_law_which" : Str) == ("__debug__" : Str)) = false := by decide +kernel
theorem e__law_which : (("_law_which" : Str) == ("__classdict__" : Str)) = false := by decide +kernel
theorem d__law_whole : (("_law_whole" : Str) == ("__debug__" : Str)) = false := by decide +kernel
theorem d__law_word : (("_law_word" : Str) == ("__debug__" : Str)) = false := by decide +kernel
theorem d_above : (("above" : Str) == ("__debug__" : Str)) = false := by decide +kernel
theorem e_above : (("above" : Str) == ("__classdict__" : Str)) = false := by decide +kernel
theorem d_below : (("below" : Str) == ("__debug__" : Str)) = false := by decide +kernel
theorem e_below : (("below" : Str) == ("__classdict__" : Str)) = false := by decide +kernel
theorem d_bool : (("bool" : Str) == ("__debug__" : Str)) = false := by decide +kernel
theorem n_bool : ("bool" : Str) ≠ "__name__" := by decide +kernel
theorem d_first : (("first" : Str) == ("__debug__" : Str)) = false := by decide +kernel
theorem e_first : (("first" : Str) == ("__classdict__" : Str)) = false := by decide +kernel
theorem d_int : (("int" : Str) == ("__debug__" : Str)) = false := by decide +kernel
theorem n_int : ("int" : Str) ≠ "__name__" := by decide +kernel
theorem d_isinstance : (("isinstance" : Str) == ("__debug__" : Str)) = false := by decide +kernel
theorem n_isinstance : ("isinstance" : Str) ≠ "__name__" := by decide +kernel
theorem d_kept : (("kept" : Str) == ("__debug__" : Str)) = false := by decide +kernel
theorem e_kept : (("kept" : Str) == ("__classdict__" : Str)) = false := by decide +kernel
theorem d_last : (("last" : Str) == ("__debug__" : Str)) = false := by decide +kernel
theorem e_last : (("last" : Str) == ("__classdict__" : Str)) = false := by decide +kernel
theorem d_len : (("len" : Str) == ("__debug__" : Str)) = false := by decide +kernel
theorem n_len : ("len" : Str) ≠ "__name__" := by decide +kernel
theorem d_list : (("list" : Str) == ("__debug__" : Str)) = false := by decide +kernel
theorem n_list : ("list" : Str) ≠ "__name__" := by decide +kernel
theorem d_min : (("min" : Str) == ("__debug__" : Str)) = false := by decide +kernel
theorem n_min : ("min" : Str) ≠ "__name__" := by decide +kernel
theorem d_other : (("other" : Str) == ("__debug__" : Str)) = false := by decide +kernel
theorem e_other : (("other" : Str) == ("__classdict__" : Str)) = false := by decide +kernel
theorem d_place : (("place" : Str) == ("__debug__" : Str)) = false := by decide +kernel
theorem e_place : (("place" : Str) == ("__classdict__" : Str)) = false := by decide +kernel
theorem d_self : (("self" : Str) == ("__debug__" : Str)) = false := by decide +kernel
theorem e_self : (("self" : Str) == ("__classdict__" : Str)) = false := by decide +kernel
theorem d_sorted : (("sorted" : Str) == ("__debug__" : Str)) = false := by decide +kernel
theorem n_sorted : ("sorted" : Str) ≠ "__name__" := by decide +kernel
theorem d_thing : (("thing" : Str) == ("__debug__" : Str)) = false := by decide +kernel
theorem e_thing : (("thing" : Str) == ("__classdict__" : Str)) = false := by decide +kernel
theorem d_tuple : (("tuple" : Str) == ("__debug__" : Str)) = false := by decide +kernel
theorem n_tuple : ("tuple" : Str) ≠ "__name__" := by decide +kernel
theorem l_Heap_init_self : (defScope s_Heap_init).names.lookup ("self" : Str) = some .local := by decide +kernel
theorem v_Heap_init_self : Vis (defScope s_Heap_init) "self" := Or.inl l_Heap_init_self
theorem l_Heap_swap_self : (defScope s_Heap_swap).names.lookup ("self" : Str) = some .local := by decide +kernel
theorem v_Heap_swap_self : Vis (defScope s_Heap_swap) "self" := Or.inl l_Heap_swap_self
theorem l_Heap_swap_place : (defScope s_Heap_swap).names.lookup ("place" : Str) = some .local := by decide +kernel
theorem v_Heap_swap_place : Vis (defScope s_Heap_swap) "place" := Or.inl l_Heap_swap_place
theorem l_Heap_swap_other : (defScope s_Heap_swap).names.lookup ("other" : Str) = some .local := by decide +kernel
theorem v_Heap_swap_other : Vis (defScope s_Heap_swap) "other" := Or.inl l_Heap_swap_other
theorem l_Heap_swap_kept : (defScope s_Heap_swap).names.lookup ("kept" : Str) = some .local := by decide +kernel
theorem v_Heap_swap_kept : Vis (defScope s_Heap_swap) "kept" := Or.inl l_Heap_swap_kept
theorem l_Heap_lesser_below_self : (defScope s_Heap_lesser_below).names.lookup ("self" : Str) = some .local := by decide +kernel
theorem v_Heap_lesser_below_self : Vis (defScope s_Heap_lesser_below) "self" := Or.inl l_Heap_lesser_below_self
theorem l_Heap_lesser_below_place : (defScope s_Heap_lesser_below).names.lookup ("place" : Str) = some .local := by decide +kernel
theorem v_Heap_lesser_below_place : Vis (defScope s_Heap_lesser_below) "place" := Or.inl l_Heap_lesser_below_place
theorem l_Heap_lesser_below_below : (defScope s_Heap_lesser_below).names.lookup ("below" : Str) = some .local := by decide +kernel
theorem v_Heap_lesser_below_below : Vis (defScope s_Heap_lesser_below) "below" := Or.inl l_Heap_lesser_below_below
theorem l_Heap_lift_last_self : (defScope s_Heap_lift_last).names.lookup ("self" : Str) = some .local := by decide +kernel
theorem v_Heap_lift_last_self : Vis (defScope s_Heap_lift_last) "self" := Or.inl l_Heap_lift_last_self
theorem l_Heap_lift_last_place : (defScope s_Heap_lift_last).names.lookup ("place" : Str) = some .local := by decide +kernel
theorem v_Heap_lift_last_place : Vis (defScope s_Heap_lift_last) "place" := Or.inl l_Heap_lift_last_place
theorem l_Heap_lift_last_above : (defScope s_Heap_lift_last).names.lookup ("above" : Str) = some .local := by decide +kernel
theorem v_Heap_lift_last_above : Vis (defScope s_Heap_lift_last) "above" := Or.inl l_Heap_lift_last_above
theorem l_Heap_sink_first_self : (defScope s_Heap_sink_first).names.lookup ("self" : Str) = some .local := by decide +kernel
theorem v_Heap_sink_first_self : Vis (defScope s_Heap_sink_first) "self" := Or.inl l_Heap_sink_first_self
theorem l_Heap_sink_first_place : (defScope s_Heap_sink_first).names.lookup ("place" : Str) = some .local := by decide +kernel
theorem v_Heap_sink_first_place : Vis (defScope s_Heap_sink_first) "place" := Or.inl l_Heap_sink_first_place
theorem l_Heap_sink_first_below : (defScope s_Heap_sink_first).names.lookup ("below" : Str) = some .local := by decide +kernel
theorem v_Heap_sink_first_below : Vis (defScope s_Heap_sink_first) "below" := Or.inl l_Heap_sink_first_below
theorem l_Heap_least_self : (defScope s_Heap_least).names.lookup ("self" : Str) = some .local := by decide +kernel
theorem v_Heap_least_self : Vis (defScope s_Heap_least) "self" := Or.inl l_Heap_least_self
theorem l_Heap_put_self : (defScope s_Heap_put).names.lookup ("self" : Str) = some .local := by decide +kernel
theorem v_Heap_put_self : Vis (defScope s_Heap_put) "self" := Or.inl l_Heap_put_self
theorem l_Heap_put_thing : (defScope s_Heap_put).names.lookup ("thing" : Str) = some .local := by decide +kernel
theorem v_Heap_put_thing : Vis (defScope s_Heap_put) "thing" := Or.inl l_Heap_put_thing
theorem l_Heap_take_self : (defScope s_Heap_take).names.lookup ("self" : Str) = some .local := by decide +kernel
theorem v_Heap_take_self : Vis (defScope s_Heap_take) "self" := Or.inl l_Heap_take_self
theorem l_Heap_take_first : (defScope s_Heap_take).names.lookup ("first" : Str) = some .local := by decide +kernel
theorem v_Heap_take_first : Vis (defScope s_Heap_take) "first" := Or.inl l_Heap_take_first
theorem l_Heap_take_last : (defScope s_Heap_take).names.lookup ("last" : Str) = some .local := by decide +kernel
theorem v_Heap_take_last : Vis (defScope s_Heap_take) "last" := Or.inl l_Heap_take_last
theorem l_Heap_size_self : (defScope s_Heap_size).names.lookup ("self" : Str) = some .local := by decide +kernel
theorem v_Heap_size_self : Vis (defScope s_Heap_size) "self" := Or.inl l_Heap_size_self
theorem l_Heap_lying_self : (defScope s_Heap_lying).names.lookup ("self" : Str) = some .local := by decide +kernel
theorem v_Heap_lying_self : Vis (defScope s_Heap_lying) "self" := Or.inl l_Heap_lying_self
theorem l_Lat__law_script : (defScope s_Lat).names.lookup ("_law_script" : Str) = some .local := by decide +kernel
theorem v_Lat__law_script : Vis (defScope s_Lat) "_law_script" := Or.inl l_Lat__law_script
theorem l_Lat__law_k : (defScope s_Lat).names.lookup ("_law_k" : Str) = some .local := by decide +kernel
theorem v_Lat__law_k : Vis (defScope s_Lat) "_law_k" := Or.inl l_Lat__law_k
theorem l_Lat__law_cell : (defScope s_Lat).names.lookup ("_law_cell" : Str) = some .local := by decide +kernel
theorem v_Lat__law_cell : Vis (defScope s_Lat) "_law_cell" := Or.inl l_Lat__law_cell
theorem l_Lmixed__law_cell : (defScope s_Lmixed).names.lookup ("_law_cell" : Str) = some .local := by decide +kernel
theorem v_Lmixed__law_cell : Vis (defScope s_Lmixed) "_law_cell" := Or.inl l_Lmixed__law_cell
theorem l_Lmixed__law_k : (defScope s_Lmixed).names.lookup ("_law_k" : Str) = some .local := by decide +kernel
theorem v_Lmixed__law_k : Vis (defScope s_Lmixed) "_law_k" := Or.inl l_Lmixed__law_k
theorem l_Lwhole__law_thing_here : (defScope s_Lwhole).names.lookup ("_law_thing_here" : Str) = some .local := by decide +kernel
theorem v_Lwhole__law_thing_here : Vis (defScope s_Lwhole) "_law_thing_here" := Or.inl l_Lwhole__law_thing_here
theorem l_Lword__law_error : (defScope s_Lword).names.lookup ("_law_error" : Str) = some .local := by decide +kernel
theorem v_Lword__law_error : Vis (defScope s_Lword) "_law_error" := Or.inl l_Lword__law_error
theorem l_Lword__law_some : (defScope s_Lword).names.lookup ("_law_some" : Str) = some .local := by decide +kernel
theorem v_Lword__law_some : Vis (defScope s_Lword) "_law_some" := Or.inl l_Lword__law_some
theorem l_Lword__law_found : (defScope s_Lword).names.lookup ("_law_found" : Str) = some .local := by decide +kernel
theorem v_Lword__law_found : Vis (defScope s_Lword) "_law_found" := Or.inl l_Lword__law_found
theorem l_Lthing__law_cell : (defScope s_Lthing).names.lookup ("_law_cell" : Str) = some .cell := by decide +kernel
theorem v_Lthing__law_cell : Vis (defScope s_Lthing) "_law_cell" := Or.inr (Or.inl l_Lthing__law_cell)
theorem l_Lthing__law_rows : (defScope s_Lthing).names.lookup ("_law_rows" : Str) = some .local := by decide +kernel
theorem v_Lthing__law_rows : Vis (defScope s_Lthing) "_law_rows" := Or.inl l_Lthing__law_rows
theorem l_Lthing__law_size : (defScope s_Lthing).names.lookup ("_law_size" : Str) = some .cell := by decide +kernel
theorem l_Lthing__law_found : (defScope s_Lthing).names.lookup ("_law_found" : Str) = some .local := by decide +kernel
theorem v_Lthing__law_found : Vis (defScope s_Lthing) "_law_found" := Or.inl l_Lthing__law_found
theorem l_Ltold__law_heap : (defScope s_Ltold).names.lookup ("_law_heap" : Str) = some .local := by decide +kernel
theorem v_Ltold__law_heap : Vis (defScope s_Ltold) "_law_heap" := Or.inl l_Ltold__law_heap
theorem l_Ltold__law_way : (defScope s_Ltold).names.lookup ("_law_way" : Str) = some .local := by decide +kernel
theorem v_Ltold__law_way : Vis (defScope s_Ltold) "_law_way" := Or.inl l_Ltold__law_way
theorem l_Ltold__law_error : (defScope s_Ltold).names.lookup ("_law_error" : Str) = some .local := by decide +kernel
theorem v_Ltold__law_error : Vis (defScope s_Ltold) "_law_error" := Or.inl l_Ltold__law_error
theorem l_Lis_heap__law_found : (defScope s_Lis_heap).names.lookup ("_law_found" : Str) = some .local := by decide +kernel
theorem v_Lis_heap__law_found : Vis (defScope s_Lis_heap) "_law_found" := Or.inl l_Lis_heap__law_found
theorem l_Lis_heap__law_rows : (defScope s_Lis_heap).names.lookup ("_law_rows" : Str) = some .local := by decide +kernel
theorem v_Lis_heap__law_rows : Vis (defScope s_Lis_heap) "_law_rows" := Or.inl l_Lis_heap__law_rows
theorem l_Lis_heap__law_k : (defScope s_Lis_heap).names.lookup ("_law_k" : Str) = some .local := by decide +kernel
theorem v_Lis_heap__law_k : Vis (defScope s_Lis_heap) "_law_k" := Or.inl l_Lis_heap__law_k
theorem l_Lis_heap__law_thing_here : (defScope s_Lis_heap).names.lookup ("_law_thing_here" : Str) = some .local := by decide +kernel
theorem v_Lis_heap__law_thing_here : Vis (defScope s_Lis_heap) "_law_thing_here" := Or.inl l_Lis_heap__law_thing_here
theorem l_Lstands__law_heap : (defScope s_Lstands).names.lookup ("_law_heap" : Str) = some .local := by decide +kernel
theorem v_Lstands__law_heap : Vis (defScope s_Lstands) "_law_heap" := Or.inl l_Lstands__law_heap
theorem l_Lstands__law_rows : (defScope s_Lstands).names.lookup ("_law_rows" : Str) = some .local := by decide +kernel
theorem v_Lstands__law_rows : Vis (defScope s_Lstands) "_law_rows" := Or.inl l_Lstands__law_rows
theorem l_Lstands__law_cell : (defScope s_Lstands).names.lookup ("_law_cell" : Str) = some .local := by decide +kernel
theorem v_Lstands__law_cell : Vis (defScope s_Lstands) "_law_cell" := Or.inl l_Lstands__law_cell
theorem l_Lstands__law_kept : (defScope s_Lstands).names.lookup ("_law_kept" : Str) = some .local := by decide +kernel
theorem v_Lstands__law_kept : Vis (defScope s_Lstands) "_law_kept" := Or.inl l_Lstands__law_kept
theorem l_Lstands__law_k : (defScope s_Lstands).names.lookup ("_law_k" : Str) = some .local := by decide +kernel
theorem v_Lstands__law_k : Vis (defScope s_Lstands) "_law_k" := Or.inl l_Lstands__law_k
theorem l_Lstands__law_which : (defScope s_Lstands).names.lookup ("_law_which" : Str) = some .local := by decide +kernel
theorem v_Lstands__law_which : Vis (defScope s_Lstands) "_law_which" := Or.inl l_Lstands__law_which
theorem l_Lstands__law_found : (defScope s_Lstands).names.lookup ("_law_found" : Str) = some .local := by decide +kernel
theorem v_Lstands__law_found : Vis (defScope s_Lstands) "_law_found" := Or.inl l_Lstands__law_found
theorem l_Ldone__law_heap : (defScope s_Ldone).names.lookup ("_law_heap" : Str) = some .local := by decide +kernel
theorem v_Ldone__law_heap : Vis (defScope s_Ldone) "_law_heap" := Or.inl l_Ldone__law_heap
theorem l_Ldone__law_rows : (defScope s_Ldone).names.lookup ("_law_rows" : Str) = some .local := by decide +kernel
theorem v_Ldone__law_rows : Vis (defScope s_Ldone) "_law_rows" := Or.inl l_Ldone__law_rows
theorem l_Ldone__law_cell : (defScope s_Ldone).names.lookup ("_law_cell" : Str) = some .local := by decide +kernel
theorem v_Ldone__law_cell : Vis (defScope s_Ldone) "_law_cell" := Or.inl l_Ldone__law_cell
theorem l_Ldone__law_due : (defScope s_Ldone).names.lookup ("_law_due" : Str) = some .local := by decide +kernel
theorem v_Ldone__law_due : Vis (defScope s_Ldone) "_law_due" := Or.inl l_Ldone__law_due
theorem l_Ldone__law_thing_here : (defScope s_Ldone).names.lookup ("_law_thing_here" : Str) = some .local := by decide +kernel
theorem v_Ldone__law_thing_here : Vis (defScope s_Ldone) "_law_thing_here" := Or.inl l_Ldone__law_thing_here
theorem l_law__law_script : (defScope s_law).names.lookup ("_law_script" : Str) = some .local := by decide +kernel
theorem v_law__law_script : Vis (defScope s_law) "_law_script" := Or.inl l_law__law_script
theorem l_law__law_heaps : (defScope s_law).names.lookup ("_law_heaps" : Str) = some .local := by decide +kernel
theorem v_law__law_heaps : Vis (defScope s_law) "_law_heaps" := Or.inl l_law__law_heaps
theorem l_law__law_both : (defScope s_law).names.lookup ("_law_both" : Str) = some .local := by decide +kernel
theorem v_law__law_both : Vis (defScope s_law) "_law_both" := Or.inl l_law__law_both
theorem l_law__law_kept : (defScope s_law).names.lookup ("_law_kept" : Str) = some .local := by decide +kernel
theorem v_law__law_kept : Vis (defScope s_law) "_law_kept" := Or.inl l_law__law_kept
theorem l_law__law_k : (defScope s_law).names.lookup ("_law_k" : Str) = some .local := by decide +kernel
theorem v_law__law_k : Vis (defScope s_law) "_law_k" := Or.inl l_law__law_k
theorem l_law__law_cell : (defScope s_law).names.lookup ("_law_cell" : Str) = some .local := by decide +kernel
theorem v_law__law_cell : Vis (defScope s_law) "_law_cell" := Or.inl l_law__law_cell
theorem l_law__law_which : (defScope s_law).names.lookup ("_law_which" : Str) = some .local := by decide +kernel
theorem v_law__law_which : Vis (defScope s_law) "_law_which" := Or.inl l_law__law_which
theorem l_law__law_at_here : (defScope s_law).names.lookup ("_law_at_here" : Str) = some .local := by decide +kernel
theorem v_law__law_at_here : Vis (defScope s_law) "_law_at_here" := Or.inl l_law__law_at_here
theorem g_Heap_least_Empty : (defScope s_Heap_least).names.lookup ("Empty" : Str) = some .globalImplicit := by decide +kernel
theorem g_Heap_lesser_below_len : (defScope s_Heap_lesser_below).names.lookup ("len" : Str) = some .globalImplicit := by decide +kernel
theorem g_Heap_lift_last_len : (defScope s_Heap_lift_last).names.lookup ("len" : Str) = some .globalImplicit := by decide +kernel
theorem g_Heap_lying_list : (defScope s_Heap_lying).names.lookup ("list" : Str) = some .globalImplicit := by decide +kernel
theorem g_Heap_size_len : (defScope s_Heap_size).names.lookup ("len" : Str) = some .globalImplicit := by decide +kernel
theorem g_Lat_len : (defScope s_Lat).names.lookup ("len" : Str) = some .globalImplicit := by decide +kernel
theorem g_Ldone__law_thing : (defScope s_Ldone).names.lookup ("_law_thing" : Str) = some .globalImplicit := by decide +kernel
theorem g_Ldone__law_told : (defScope s_Ldone).names.lookup ("_law_told" : Str) = some .globalImplicit := by decide +kernel
theorem g_Ldone_min : (defScope s_Ldone).names.lookup ("min" : Str) = some .globalImplicit := by decide +kernel
theorem g_Lis_heap_isinstance : (defScope s_Lis_heap).names.lookup ("isinstance" : Str) = some .globalImplicit := by decide +kernel
theorem g_Lis_heap_len : (defScope s_Lis_heap).names.lookup ("len" : Str) = some .globalImplicit := by decide +kernel
theorem g_Lis_heap_list : (defScope s_Lis_heap).names.lookup ("list" : Str) = some .globalImplicit := by decide +kernel
theorem g_Lis_heap_range : (defScope s_Lis_heap).names.lookup ("range" : Str) = some .globalImplicit := by decide +kernel
theorem g_Lis_heap_sorted : (defScope s_Lis_heap).names.lookup ("sorted" : Str) = some .globalImplicit := by decide +kernel
theorem g_Lis_heap_tuple : (defScope s_Lis_heap).names.lookup ("tuple" : Str) = some .globalImplicit := by decide +kernel
theorem g_Lstands__law_is_heap : (defScope s_Lstands).names.lookup ("_law_is_heap" : Str) = some .globalImplicit := by decide +kernel
theorem g_Lstands__law_told : (defScope s_Lstands).names.lookup ("_law_told" : Str) = some .globalImplicit := by decide +kernel
theorem g_Lstands__law_whole : (defScope s_Lstands).names.lookup ("_law_whole" : Str) = some .globalImplicit := by decide +kernel
theorem g_Lstands_len : (defScope s_Lstands).names.lookup ("len" : Str) = some .globalImplicit := by decide +kernel
theorem g_Lstands_list : (defScope s_Lstands).names.lookup ("list" : Str) = some .globalImplicit := by decide +kernel
theorem g_Lstands_min : (defScope s_Lstands).names.lookup ("min" : Str) = some .globalImplicit := by decide +kernel
theorem g_Lstands_range : (defScope s_Lstands).names.lookup ("range" : Str) = some .globalImplicit := by decide +kernel
theorem g_Lthing_len : (defScope s_Lthing).names.lookup ("len" : Str) = some .globalImplicit := by decide +kernel
theorem g_Lthing_range : (defScope s_Lthing).names.lookup ("range" : Str) = some .globalImplicit := by decide +kernel
theorem g_Lthing_tuple : (defScope s_Lthing).names.lookup ("tuple" : Str) = some .globalImplicit := by decide +kernel
theorem g_Ltold_FloorError : (defScope s_Ltold).names.lookup ("FloorError" : Str) = some .globalImplicit := by decide +kernel
theorem g_Ltold__law_word : (defScope s_Ltold).names.lookup ("_law_word" : Str) = some .globalImplicit := by decide +kernel
theorem g_Lwhole_bool : (defScope s_Lwhole).names.lookup ("bool" : Str) = some .globalImplicit := by decide +kernel
theorem g_Lwhole_int : (defScope s_Lwhole).names.lookup ("int" : Str) = some .globalImplicit := by decide +kernel
theorem g_Lwhole_isinstance : (defScope s_Lwhole).names.lookup ("isinstance" : Str) = some .globalImplicit := by decide +kernel
theorem g_Lword_BadCell : (defScope s_Lword).names.lookup ("BadCell" : Str) = some .globalImplicit := by decide +kernel
theorem g_Lword_BadCharge : (defScope s_Lword).names.lookup ("BadCharge" : Str) = some .globalImplicit := by decide +kernel
theorem g_Lword_BadFloor : (defScope s_Lword).names.lookup ("BadFloor" : Str) = some .globalImplicit := by decide +kernel
theorem g_Lword_BadKind : (defScope s_Lword).names.lookup ("BadKind" : Str) = some .globalImplicit := by decide +kernel
theorem g_Lword_BadStops : (defScope s_Lword).names.lookup ("BadStops" : Str) = some .globalImplicit := by decide +kernel
theorem g_Lword_BadWay : (defScope s_Lword).names.lookup ("BadWay" : Str) = some .globalImplicit := by decide +kernel
theorem g_Lword_Busy : (defScope s_Lword).names.lookup ("Busy" : Str) = some .globalImplicit := by decide +kernel
theorem g_Lword_Closed : (defScope s_Lword).names.lookup ("Closed" : Str) = some .globalImplicit := by decide +kernel
theorem g_Lword_Empty : (defScope s_Lword).names.lookup ("Empty" : Str) = some .globalImplicit := by decide +kernel
theorem g_Lword_FloorError : (defScope s_Lword).names.lookup ("FloorError" : Str) = some .globalImplicit := by decide +kernel
theorem g_Lword_Jammed : (defScope s_Lword).names.lookup ("Jammed" : Str) = some .globalImplicit := by decide +kernel
theorem g_Lword_Meets : (defScope s_Lword).names.lookup ("Meets" : Str) = some .globalImplicit := by decide +kernel
theorem g_Lword_NoCarrier : (defScope s_Lword).names.lookup ("NoCarrier" : Str) = some .globalImplicit := by decide +kernel
theorem g_Lword_NoReserve : (defScope s_Lword).names.lookup ("NoReserve" : Str) = some .globalImplicit := by decide +kernel
theorem g_Lword_NoTask : (defScope s_Lword).names.lookup ("NoTask" : Str) = some .globalImplicit := by decide +kernel
theorem g_Lword_Taken : (defScope s_Lword).names.lookup ("Taken" : Str) = some .globalImplicit := by decide +kernel
theorem g_Lword_ValueError : (defScope s_Lword).names.lookup ("ValueError" : Str) = some .globalImplicit := by decide +kernel
theorem g_Lword_isinstance : (defScope s_Lword).names.lookup ("isinstance" : Str) = some .globalImplicit := by decide +kernel
theorem g_law_Heap : (defScope s_law).names.lookup ("Heap" : Str) = some .globalImplicit := by decide +kernel
theorem g_law__law_at : (defScope s_law).names.lookup ("_law_at" : Str) = some .globalImplicit := by decide +kernel
theorem g_law__law_done : (defScope s_law).names.lookup ("_law_done" : Str) = some .globalImplicit := by decide +kernel
theorem g_law__law_mixed : (defScope s_law).names.lookup ("_law_mixed" : Str) = some .globalImplicit := by decide +kernel
theorem g_law__law_stands : (defScope s_law).names.lookup ("_law_stands" : Str) = some .globalImplicit := by decide +kernel
theorem g_law_len : (defScope s_law).names.lookup ("len" : Str) = some .globalImplicit := by decide +kernel
theorem g_law_min : (defScope s_law).names.lookup ("min" : Str) = some .globalImplicit := by decide +kernel
theorem g_law_range : (defScope s_law).names.lookup ("range" : Str) = some .globalImplicit := by decide +kernel
theorem sc_Heap_init : FnScope ["self"] ["self"] (defScope s_Heap_init) := ⟨rfl, rfl, rfl, by decide +kernel, rfl, by decide +kernel, by decide +kernel⟩
set_option maxHeartbeats 4000000 in
local macro_rules | `(tactic| walk_at "RD") => `(tactic| simp only [tNever, tFor_eq, iRng1, iRng2, gTup, gTupL, gCons, gNil, tRevT, rRep01, rCatT, rCat, rRep, rJoin, tLRng2, tMethV, tDisp, tPairs, tYes, tDGet, rLtT, tAug, ipI, cxKm, cxKs, cxKt, tTry, tTryAs, onlyRet, rRemT, tRevL, tSeq, tCallX, tMethX, tMakeX, tRaise, noW, tAsg, tOp, tUn, tVar, tC, rI0, rI, rU, tTest, tIfS, tNext, tRet, tRetN, tDrop, gName, tCB, tCons, tNil, tAndV, tOrV, tNotV, tAnd, tOr, tNot, tB, tIf, tChain, tCall, tBM, tBM0, tLst, tTup, tNoPart, tPart, tSlS, tSl, tBreak, tCont, rSlA, rSlL, rPopAt, rIn, rIxL, rIxT, rIxS, rEq, rNe, scal, rAppend, rPop, rIndex, tFld, sFld, tMeth, tMake, tDNewK, gSub, rSetL, tJoinRev, tComp, sComp, capσ, iStr, iList, iTup, rEqD, cxK, cxA, cxKc, cxAc, L2.start, List.map_cons, List.map_nil, List.length_cons, List.length_nil, List.replicate_succ, List.replicate_zero, List.cons_append, List.nil_append, List.append_nil, Nat.reduceAdd, Nat.reduceSub, List.set_cons_zero, List.set_cons_succ, List.getElem?_cons_zero, List.getElem?_cons_succ, Option.getD_some, Option.getD_none, Option.some.injEq, V.int.injEq, V.ref.injEq, V.bl.injEq, V.str.injEq, V.ty.injEq, exists_eq_left', exists_eq_left, exists_and_left, and_assoc, List.cons.injEq, and_true, true_and, decide_eq_true_eq, Bool.not_eq_true', decide_eq_false_iff_not, Bool.false_eq_true, if_false, if_true, reduceIte, Bool.not_true, Bool.not_false, beq_self_eq_true])
theorem ok_Heap_init {fd : FuncData} (F : Fun K "__init__" "Heap.__init__" s_Heap_init ad.Heap_init fd) (T : Txt K mg ad) : FnOk P w K mg base CX0 1 ad.Heap_init fd ["self"] (spHInit ad) := by
  refine F.ok sc_Heap_init (fun vs H Q E h => ?_) (fun cdv A outer s H vs Q E HR h => ?_)
  · obtain ⟨p, dx, rfl, _⟩ := h
    rfl
  · obtain ⟨p, dx, rfl, hp, hq⟩ := h
    have ND := sc_Heap_init.nd
    have HU0 := HR.units0
    have HU := HR.units
    have hA := HR.hd
    have hz : (100000 : Nat) ≤ sizeLine := by rw [sizeLine_eq]; decide
    refine ⟨_, (pss_one (ps_fld (pe_var (i := 0) (x := "self") rfl (vis_of v_Heap_init_self) d_self e_self) (pe_lst pa_nil) rfl)), ?_⟩
    walk_at "RD"
    refine ⟨Nat.zero_le _, fun l nl => ⟨_, _, _, (same_new nl) _ _ hp, T.cl_Heap, T.n_Heap_things, by show 0 < 1000; decide, hq l nl⟩⟩
theorem sc_Heap_swap : FnScope ["self", "place", "other", "kept"] ["self", "place", "other"] (defScope s_Heap_swap) := ⟨rfl, rfl, rfl, by decide +kernel, rfl, by decide +kernel, by decide +kernel⟩
set_option maxHeartbeats 4000000 in
theorem ok_Heap_swap {fd : FuncData} (F : Fun K "swap" "Heap.swap" s_Heap_swap ad.Heap_swap fd) (T : Txt K mg ad) : FnOk P w K mg base CX0 1 ad.Heap_swap fd ["self", "place", "other"] (spSwap ad) := by
  refine F.ok sc_Heap_swap (fun vs H Q E h => ?_) (fun cdv A outer s H vs Q E HR h => ?_)
  · obtain ⟨hp, l, ts, p, a, x, y, rfl, _⟩ := h
    rfl
  · obtain ⟨hp, l, ts, p, a, x, y, rfl, hh, hx, hy, hq⟩ := h
    have ND := sc_Heap_swap.nd
    have HU0 := HR.units0
    have HU := HR.units
    have hA := HR.hd
    have hz : (100000 : Nat) ≤ sizeLine := by rw [sizeLine_eq]; decide
    refine ⟨_, (pss_cons (ps_set (i := 3) ND rfl (loc_of (Or.inl l_Heap_swap_kept)) (pe_ix ix_list (pe_fld (pe_var (i := 0) (x := "self") rfl (vis_of v_Heap_swap_self) d_self e_self) (by rfl)) (pe_var (i := 1) (x := "place") rfl (vis_of v_Heap_swap_place) d_place e_place) (fun _ _ => rfl)))
 (pss_cons (ps_asg (pe_ix ix_list (pe_fld (pe_var (i := 0) (x := "self") rfl (vis_of v_Heap_swap_self) d_self e_self) (by rfl)) (pe_var (i := 2) (x := "other") rfl (vis_of v_Heap_swap_other) d_other e_other) (fun _ _ => rfl)) (pg_sub (pe_fld (pe_var (i := 0) (x := "self") rfl (vis_of v_Heap_swap_self) d_self e_self) (by rfl)) (pe_var (i := 1) (x := "place") rfl (vis_of v_Heap_swap_place) d_place e_place) set_list))
 (pss_one (ps_asg (pe_var (i := 3) (x := "kept") rfl (vis_of v_Heap_swap_kept) d_kept e_kept) (pg_sub (pe_fld (pe_var (i := 0) (x := "self") rfl (vis_of v_Heap_swap_self) d_self e_self) (by rfl)) (pe_var (i := 2) (x := "other") rfl (vis_of v_Heap_swap_other) d_other e_other) set_list))))), ?_⟩
    obtain ⟨⟨dx, e1⟩, e2⟩ := id hh
    have lx := lt_of_get hx
    have ly := lt_of_get hy
    have lm : (ts.map V.ref).length = ts.length := List.length_map _
    refine tSeq_cut (fun σ H' => H' = H ∧ σ = [some (V.ref hp), some (V.int (p : Int)), some (V.int (a : Int)), some (V.ref x)]) (fun nx hk => ?_) ?_
    · walk_at "RD"
      exact ⟨_, _, _, e1, T.cl_Heap, T.n_Heap_things, _, h_things l, l, rfl, _, SqL.of e2, _, at_ref hx, hk _ _ ⟨rfl, rfl⟩⟩
    rintro σ H1 ⟨rfl, rfl⟩
    have ne : hp ≠ l := ne_of e1 e2 (fun z => by cases z)
    refine tSeq_cut (fun σ H' => H' = upd H1 l (.lst ((ts.map V.ref).set p (V.ref y))) ∧ σ = [some (V.ref hp), some (V.int (p : Int)), some (V.int (a : Int)), some (V.ref x)]) (fun nx hk => ?_) ?_
    · walk_at "RD"
      exact ⟨_, _, _, e1, T.cl_Heap, T.n_Heap_things, _, h_things l, l, rfl, _, SqL.of e2, _, at_ref hy, _, _, _, e1, T.cl_Heap, T.n_Heap_things, _, h_things l, l, rfl, _, e2, _, by rw [lm]; exact ixN_nat lx, hk _ _ ⟨rfl, rfl⟩⟩
    rintro σ H2 ⟨rfl, rfl⟩
    walk_at "RD"
    refine ⟨_, _, _, by rw [upd_ne ne]; exact e1, T.cl_Heap, T.n_Heap_things, _, h_things l, l, rfl, _, upd_same, _, by rw [List.length_set, lm]; exact ixN_nat ly, ?_⟩
    rw [upd_upd, swp_map]
    exact hq
theorem sc_Heap_lesser_below : FnScope ["self", "place", "below"] ["self", "place"] (defScope s_Heap_lesser_below) := ⟨rfl, rfl, rfl, by decide +kernel, rfl, by decide +kernel, by decide +kernel⟩
set_option maxHeartbeats 4000000 in
theorem ok_Heap_lesser_below {fd : FuncData} (F : Fun K "lesser_below" "Heap.lesser_below" s_Heap_lesser_below ad.Heap_lesser_below fd) (T : Txt K mg ad) : FnOk P w K mg base CX0 1 ad.Heap_lesser_below fd ["self", "place"] (spLesser ad) := by
  refine F.ok sc_Heap_lesser_below (fun vs H Q E h => ?_) (fun cdv A outer s H vs Q E HR h => ?_)
  · obtain ⟨hp, l, ts, k, p, rfl, _⟩ := h
    rfl
  · obtain ⟨hp, l, ts, k, p, rfl, hh, hk, tl, pl, hn, hq⟩ := h
    have ND := sc_Heap_lesser_below.nd
    have HU0 := HR.units0
    have HU := HR.units
    have hA := HR.hd
    have hz : (100000 : Nat) ≤ sizeLine := by rw [sizeLine_eq]; decide
    refine ⟨_, (pss_cons (ps_set (i := 2) ND rfl (loc_of (Or.inl l_Heap_lesser_below_below)) (pe_op op_add (pe_op op_mul pe_int (pe_var (i := 1) (x := "place") rfl (vis_of v_Heap_lesser_below_place) d_place e_place)) pe_int))
 (pss_cons (ps_if (pt_cmpR op_ge (pe_var (i := 2) (x := "below") rfl (vis_of v_Heap_lesser_below_below) d_below e_below) (pe_callB call_len_seq (gl_of g_Heap_lesser_below_len) T.b_len PyProof.Rows.Boot.«len» (pa_cons (pe_fld (pe_var (i := 0) (x := "self") rfl (vis_of v_Heap_lesser_below_self) d_self e_self) (by rfl)) pa_nil (stp rfl)) (hn := n_len) (hdb := d_len) (he := stp rfl) (hpl := anp rfl)) (nomark _))
 (pss_one (ps_ret pe_non))
 pss_nil)
 (pss_cons (ps_if (PW.pt (pw_and (pt_cmpR op_lt (pe_op op_add (pe_var (i := 2) (x := "below") rfl (vis_of v_Heap_lesser_below_below) d_below e_below) pe_int) (pe_callB call_len_seq (gl_of g_Heap_lesser_below_len) T.b_len PyProof.Rows.Boot.«len» (pa_cons (pe_fld (pe_var (i := 0) (x := "self") rfl (vis_of v_Heap_lesser_below_self) d_self e_self) (by rfl)) pa_nil (stp rfl)) (hn := n_len) (hdb := d_len) (he := stp rfl) (hpl := anp rfl)) (nomark _)) (pw_and1 (pt_cmpR (op_ltT HU0) (pe_ix ix_list (pe_fld (pe_var (i := 0) (x := "self") rfl (vis_of v_Heap_lesser_below_self) d_self e_self) (by rfl)) (pe_op op_add (pe_var (i := 2) (x := "below") rfl (vis_of v_Heap_lesser_below_below) d_below e_below) pe_int) (fun _ _ => rfl)) (pe_ix ix_list (pe_fld (pe_var (i := 0) (x := "self") rfl (vis_of v_Heap_lesser_below_self) d_self e_self) (by rfl)) (pe_var (i := 2) (x := "below") rfl (vis_of v_Heap_lesser_below_below) d_below e_below) (fun _ _ => rfl)) (nomark _)))))
 (pss_one (ps_ret (pe_op op_add (pe_var (i := 2) (x := "below") rfl (vis_of v_Heap_lesser_below_below) d_below e_below) pe_int)))
 pss_nil)
 (pss_one (ps_ret (pe_var (i := 2) (x := "below") rfl (vis_of v_Heap_lesser_below_below) d_below e_below)))))), ?_⟩
    obtain ⟨⟨dx, e1⟩, e2⟩ := id hh
    have lm : (ts.map V.ref).length = ts.length := List.length_map _
    have key : ∀ {i : Nat} {x : Addr}, ts[i]? = some x → H x = some (.tup ((k x).map V.int)) := fun h => hk _ (List.mem_of_getElem? h)
    walk_at "RD"
    refine ⟨.inl ⟨by decide, by decide⟩, _, _, _, e1, T.cl_Heap, T.n_Heap_things, _, h_things l, l, rfl, _, .inl (SqL.of e2), ?_⟩
    rw [lm]
    by_cases b1 : ((ts.length : Nat) : Int) ≤ 2 * (p : Int) + 1
    · rw [if_pos b1]
      exact hn fun i i0 ip => List.getElem?_eq_none (by omega)
    · rw [if_neg b1]
      refine ⟨_, _, _, e1, T.cl_Heap, T.n_Heap_things, _, h_things l, l, rfl, _, .inl (SqL.of e2), ?_⟩
      rw [lm]
      have c1 : 2 * (p : Int) + 1 = ((2 * p + 1 : Nat) : Int) := by omega
      have c2 : 2 * (p : Int) + 1 + 1 = ((2 * p + 2 : Nat) : Int) := by omega
      obtain ⟨x, hx⟩ : ∃ x, ts[2 * p + 1]? = some x := ⟨_, List.getElem?_eq_getElem (by omega)⟩
      by_cases b2 : 2 * (p : Int) + 1 + 1 < ((ts.length : Nat) : Int)
      · rw [if_pos b2]
        obtain ⟨y, hy⟩ : ∃ y, ts[2 * p + 2]? = some y := ⟨_, List.getElem?_eq_getElem (by omega)⟩
        refine ⟨_, _, _, e1, T.cl_Heap, T.n_Heap_things, _, h_things l, l, rfl, _, SqL.of e2, _, by rw [c2]; exact at_ref hy, _, _, _, e1, T.cl_Heap, T.n_Heap_things, _, h_things l, l, rfl, _, SqL.of e2, _, by rw [c1]; exact at_ref hx, y, rfl, x, rfl, _, SqT.of (key hy), _, SqT.of (key hx), ?_⟩
        have two : ∀ i : Nat, 0 < i → (i - 1) / 2 = p → i = 2 * p + 1 ∨ i = 2 * p + 2 := fun i i0 ip => by omega
        by_cases b3 : HT.lexLt (k y) (k x) = true
        · rw [if_pos b3, c2]
          refine hq _ (by omega) ⟨by omega, by omega, fun i u v i0 ip hu hv => ?_⟩
          rw [hy] at hv
          cases hv
          rcases two i i0 ip with e | e
          · rw [e, hx] at hu
            cases hu
            exact Le.of b3
          · rw [e, hy] at hu
            cases hu
            exact Le.refl _
        · rw [if_neg b3, c1]
          refine hq _ (by omega) ⟨by omega, by omega, fun i u v i0 ip hu hv => ?_⟩
          rw [hx] at hv
          cases hv
          rcases two i i0 ip with e | e
          · rw [e, hx] at hu
            cases hu
            exact Le.refl _
          · rw [e, hy] at hu
            cases hu
            exact (by simpa using b3 : HT.lexLt (k y) (k x) = false)
      · rw [if_neg b2, c1]
        refine hq _ (by omega) ⟨by omega, by omega, fun i u v i0 ip hu hv => ?_⟩
        have li := lt_of_get hu
        have e : i = 2 * p + 1 := by omega
        rw [e] at hu
        rw [hu] at hv
        cases hv
        exact Le.refl _
theorem sc_Heap_lift_last : FnScope ["self", "place", "above"] ["self"] (defScope s_Heap_lift_last) := ⟨rfl, rfl, rfl, by decide +kernel, rfl, by decide +kernel, by decide +kernel⟩
set_option maxHeartbeats 4000000 in
theorem ok_Heap_lift_last {fd : FuncData} (F : Fun K "lift_last" "Heap.lift_last" s_Heap_lift_last ad.Heap_lift_last fd) (T : Txt K mg ad) {fd_Heap_swap : FuncData} (B_Heap_swap : Binds K fd_Heap_swap ["self", "place", "other"] []) (G_Heap_swap : FnOk P w K mg base CX0 1 ad.Heap_swap fd_Heap_swap ["self", "place", "other"] (spSwap ad)) : FnOk P w K mg base CX0 2 ad.Heap_lift_last fd ["self"] (spLift ad) := by
  refine F.ok sc_Heap_lift_last (fun vs H Q E h => ?_) (fun cdv A outer s H vs Q E HR h => ?_)
  · obtain ⟨hp, l, ts, k, n, rfl, _⟩ := h
    rfl
  · obtain ⟨hp, l, ts, k, n, rfl, hh, hk, tl, nl, hL, hq⟩ := h
    have ND := sc_Heap_lift_last.nd
    have HU0 := HR.units0
    have HU := HR.units
    have hA := HR.hd
    have hz : (100000 : Nat) ≤ sizeLine := by rw [sizeLine_eq]; decide
    refine ⟨_, (pss_cons (ps_set (i := 1) ND rfl (loc_of (Or.inl l_Heap_lift_last_place)) (pe_op op_sub (pe_callB call_len_seq (gl_of g_Heap_lift_last_len) T.b_len PyProof.Rows.Boot.«len» (pa_cons (pe_fld (pe_var (i := 0) (x := "self") rfl (vis_of v_Heap_lift_last_self) d_self e_self) (by rfl)) pa_nil (stp rfl)) (hn := n_len) (hdb := d_len) (he := stp rfl) (hpl := anp rfl)) pe_int))
 (pss_cons (ps_set (i := 2) ND rfl (loc_of (Or.inl l_Heap_lift_last_above)) (pe_op op_fdiv (pe_op op_sub (pe_var (i := 1) (x := "place") rfl (vis_of v_Heap_lift_last_place) d_place e_place) pe_int) pe_int))
 (pss_one (ps_while PassesOwn.never (PW.pt (pw_and (pt_cmpR op_gt (pe_var (i := 1) (x := "place") rfl (vis_of v_Heap_lift_last_place) d_place e_place) pe_int (nomark _)) (pw_and1 (pt_cmpR (op_ltT HU0) (pe_ix ix_list (pe_fld (pe_var (i := 0) (x := "self") rfl (vis_of v_Heap_lift_last_self) d_self e_self) (by rfl)) (pe_var (i := 1) (x := "place") rfl (vis_of v_Heap_lift_last_place) d_place e_place) (fun _ _ => rfl)) (pe_ix ix_list (pe_fld (pe_var (i := 0) (x := "self") rfl (vis_of v_Heap_lift_last_self) d_self e_self) (by rfl)) (pe_var (i := 2) (x := "above") rfl (vis_of v_Heap_lift_last_above) d_above e_above) (fun _ _ => rfl)) (nomark _)))))
 (pss_cons (ps_expr (pe_meth (pe_var (i := 0) (x := "self") rfl (vis_of v_Heap_lift_last_self) d_self e_self) T.cl_Heap T.m_Heap_swap G_Heap_swap (HR.mono (by decide)) B_Heap_swap .nil pass0 (pa_cons (pe_var (i := 1) (x := "place") rfl (vis_of v_Heap_lift_last_place) d_place e_place) (pa_cons (pe_var (i := 2) (x := "above") rfl (vis_of v_Heap_lift_last_above) d_above e_above) pa_nil (stp rfl)) (stp rfl)) (hst := stp rfl) (hpl := anp rfl)))
 (pss_cons (ps_set (i := 1) ND rfl (loc_of (Or.inl l_Heap_lift_last_place)) (pe_var (i := 2) (x := "above") rfl (vis_of v_Heap_lift_last_above) d_above e_above))
 (pss_one (ps_set (i := 2) ND rfl (loc_of (Or.inl l_Heap_lift_last_above)) (pe_op op_fdiv (pe_op op_sub (pe_var (i := 1) (x := "place") rfl (vis_of v_Heap_lift_last_place) d_place e_place) pe_int) pe_int))))))))), ?_⟩
    obtain ⟨⟨dx, e1⟩, e2⟩ := id hh
    have lm : ∀ us : List Addr, (us.map V.ref).length = us.length := fun us => List.length_map _
    refine tSeq_cut (fun σ H' => H' = H ∧ σ = [some (V.ref hp), some (V.int (n : Int)), none]) (fun nx hk => ?_) ?_
    · walk_at "RD"
      refine ⟨_, _, _, e1, T.cl_Heap, T.n_Heap_things, _, h_things l, l, rfl, _, .inl (SqL.of e2), hk _ _ ⟨rfl, ?_⟩⟩
      rw [lm, tl]
      simp
    rintro σ H1 ⟨rfl, rfl⟩
    refine tSeq_cut (fun σ H' => H' = H1 ∧ σ = [some (V.ref hp), some (V.int (n : Int)), some (V.int (((n : Int) - 1) / 2))]) (fun nx hk => ?_) ?_
    · walk_at "RD"
      exact ⟨⟨by decide, by decide⟩, hk _ _ ⟨rfl, rfl⟩⟩
    rintro σ H2 ⟨rfl, rfl⟩
    walk_at "RD"
    refine ⟨fun m σ H' => ∃ (p : Nat) (us : List Addr), m = p ∧ p ≤ n ∧ us.Perm ts ∧ Lift k us p ∧ H' = upd H2 l (.lst (us.map V.ref)) ∧ σ = [some (V.ref hp), some (V.int (p : Int)), some (V.int (((p : Int) - 1) / 2))], ⟨n, n, ts, rfl, Nat.le_refl _, .refl _, hL, (upd_id e2).symm, rfl⟩, ?_⟩
    rintro p σ H' ⟨_, us, rfl, pn, pm, hL', rfl, rfl⟩
    have lu := pm.length_eq
    have hh' : HeapAt ad (upd H2 l (.lst (us.map V.ref))) hp l us := hh.put
    obtain ⟨⟨dx', f1⟩, f2⟩ := id hh'
    have hk' : KeysAt (upd H2 l (.lst (us.map V.ref))) k us := hk.put e2 fun t ht => pm.mem_iff.mp ht
    have key : ∀ {i : Nat} {x : Addr}, us[i]? = some x → upd H2 l (.lst (us.map V.ref)) x = some (.tup ((k x).map V.int)) := fun h => hk' _ (List.mem_of_getElem? h)
    walk_at "RD"
    by_cases p0 : 0 < (p : Int)
    · rw [if_pos p0]
      have ca : ((p : Int) - 1) / 2 = (((p - 1) / 2 : Nat) : Int) := by omega
      obtain ⟨x, hx⟩ : ∃ x, us[p]? = some x := ⟨_, List.getElem?_eq_getElem (by omega)⟩
      obtain ⟨y, hy⟩ : ∃ y, us[(p - 1) / 2]? = some y := ⟨_, List.getElem?_eq_getElem (by omega)⟩
      rw [ca]
      refine ⟨_, _, _, f1, T.cl_Heap, T.n_Heap_things, _, h_things l, l, rfl, _, SqL.of f2, _, at_ref hx, _, _, _, f1, T.cl_Heap, T.n_Heap_things, _, h_things l, l, rfl, _, SqL.of f2, _, at_ref hy, x, rfl, y, rfl, _, SqT.of (key hx), _, SqT.of (key hy), ?_⟩
      by_cases b : HT.lexLt (k x) (k y) = true
      · rw [if_pos b]
        refine ⟨fun σ' H'' => H'' = upd H2 l (.lst ((swp us p ((p - 1) / 2) x y).map V.ref)) ∧ σ' = [some (V.ref hp), some (V.int (((p - 1) / 2 : Nat) : Int)), some (V.int (((((p - 1) / 2 : Nat) : Int) - 1) / 2))], fun σ' H'' ⟨h1, h2⟩ => ⟨(p - 1) / 2, by omega, by omega, swp us p ((p - 1) / 2) x y, (swp_perm hx hy (by omega)).trans pm, hL'.step (by omega) hx hy b, h1, h2⟩, ?_⟩
        refine ⟨_, _, f1, h_no l (by decide +kernel), hp, l, us, p, (p - 1) / 2, x, y, rfl, hh', hx, hy, ⟨by decide, by decide⟩, ?_⟩
        rw [upd_upd]
        exact ⟨rfl, rfl⟩
      · rw [if_neg b]
        exact hq us pm (hL'.done (.inr ⟨x, y, hx, hy, by simpa using b⟩))
    · rw [if_neg p0]
      exact hq us pm (hL'.done (.inl (by omega)))
theorem sc_Heap_sink_first : FnScope ["self", "place", "below"] ["self"] (defScope s_Heap_sink_first) := ⟨rfl, rfl, rfl, by decide +kernel, rfl, by decide +kernel, by decide +kernel⟩
set_option maxHeartbeats 4000000 in
theorem ok_Heap_sink_first {fd : FuncData} (F : Fun K "sink_first" "Heap.sink_first" s_Heap_sink_first ad.Heap_sink_first fd) (T : Txt K mg ad) {fd_Heap_swap : FuncData} (B_Heap_swap : Binds K fd_Heap_swap ["self", "place", "other"] []) (G_Heap_swap : FnOk P w K mg base CX0 1 ad.Heap_swap fd_Heap_swap ["self", "place", "other"] (spSwap ad)) {fd_Heap_lesser_below : FuncData} (B_Heap_lesser_below : Binds K fd_Heap_lesser_below ["self", "place"] []) (G_Heap_lesser_below : FnOk P w K mg base CX0 1 ad.Heap_lesser_below fd_Heap_lesser_below ["self", "place"] (spLesser ad)) : FnOk P w K mg base CX0 2 ad.Heap_sink_first fd ["self"] (spSink ad) := by
  refine F.ok sc_Heap_sink_first (fun vs H Q E h => ?_) (fun cdv A outer s H vs Q E HR h => ?_)
  · obtain ⟨hp, l, ts, k, rfl, _⟩ := h
    rfl
  · obtain ⟨hp, l, ts, k, rfl, hh, hk, t0, tl, hS, hq⟩ := h
    have ND := sc_Heap_sink_first.nd
    have HU0 := HR.units0
    have HU := HR.units
    have hA := HR.hd
    have hz : (100000 : Nat) ≤ sizeLine := by rw [sizeLine_eq]; decide
    refine ⟨_, (pss_cons (ps_set (i := 1) ND rfl (loc_of (Or.inl l_Heap_sink_first_place)) pe_int)
 (pss_cons (ps_set (i := 2) ND rfl (loc_of (Or.inl l_Heap_sink_first_below)) (pe_meth (pe_var (i := 0) (x := "self") rfl (vis_of v_Heap_sink_first_self) d_self e_self) T.cl_Heap T.m_Heap_lesser_below G_Heap_lesser_below (HR.mono (by decide)) B_Heap_lesser_below .nil pass0 (pa_cons (pe_var (i := 1) (x := "place") rfl (vis_of v_Heap_sink_first_place) d_place e_place) pa_nil (stp rfl)) (hst := stp rfl) (hpl := anp rfl)))
 (pss_one (ps_while PassesOwn.never (PW.pt (pw_and (pt_cmpR op_notN (pe_var (i := 2) (x := "below") rfl (vis_of v_Heap_sink_first_below) d_below e_below) pe_non (nomark _)) (pw_and1 (pt_cmpR (op_ltT HU0) (pe_ix ix_list (pe_fld (pe_var (i := 0) (x := "self") rfl (vis_of v_Heap_sink_first_self) d_self e_self) (by rfl)) (pe_var (i := 2) (x := "below") rfl (vis_of v_Heap_sink_first_below) d_below e_below) (fun _ _ => rfl)) (pe_ix ix_list (pe_fld (pe_var (i := 0) (x := "self") rfl (vis_of v_Heap_sink_first_self) d_self e_self) (by rfl)) (pe_var (i := 1) (x := "place") rfl (vis_of v_Heap_sink_first_place) d_place e_place) (fun _ _ => rfl)) (nomark _)))))
 (pss_cons (ps_expr (pe_meth (pe_var (i := 0) (x := "self") rfl (vis_of v_Heap_sink_first_self) d_self e_self) T.cl_Heap T.m_Heap_swap G_Heap_swap (HR.mono (by decide)) B_Heap_swap .nil pass0 (pa_cons (pe_var (i := 1) (x := "place") rfl (vis_of v_Heap_sink_first_place) d_place e_place) (pa_cons (pe_var (i := 2) (x := "below") rfl (vis_of v_Heap_sink_first_below) d_below e_below) pa_nil (stp rfl)) (stp rfl)) (hst := stp rfl) (hpl := anp rfl)))
 (pss_cons (ps_set (i := 1) ND rfl (loc_of (Or.inl l_Heap_sink_first_place)) (pe_var (i := 2) (x := "below") rfl (vis_of v_Heap_sink_first_below) d_below e_below))
 (pss_one (ps_set (i := 2) ND rfl (loc_of (Or.inl l_Heap_sink_first_below)) (pe_meth (pe_var (i := 0) (x := "self") rfl (vis_of v_Heap_sink_first_self) d_self e_self) T.cl_Heap T.m_Heap_lesser_below G_Heap_lesser_below (HR.mono (by decide)) B_Heap_lesser_below .nil pass0 (pa_cons (pe_var (i := 1) (x := "place") rfl (vis_of v_Heap_sink_first_place) d_place e_place) pa_nil (stp rfl)) (hst := stp rfl) (hpl := anp rfl)))))))))), ?_⟩
    obtain ⟨⟨dx, e1⟩, e2⟩ := id hh
    have lm : ∀ us : List Addr, (us.map V.ref).length = us.length := fun us => List.length_map _
    have n0 : 0 < ts.length := List.length_pos_iff.mpr t0
    refine tSeq_cut (fun σ H' => H' = H ∧ σ = [some (V.ref hp), some (V.int ((0 : Nat) : Int)), none]) (fun nx hk => ?_) ?_
    · walk_at "RD"
      exact hk _ _ ⟨rfl, rfl⟩
    rintro σ H1 ⟨rfl, rfl⟩
    refine tSeq_cut (fun σ H' => ∃ v, H' = H1 ∧ ((v = V.non ∧ ∀ i, 0 < i → (i - 1) / 2 = 0 → ts[i]? = none) ∨ ∃ b : Nat, v = V.int (b : Int) ∧ b < ts.length ∧ Lesser k ts 0 b) ∧ σ = [some (V.ref hp), some (V.int ((0 : Nat) : Int)), some v]) (fun nx hk' => ?_) ?_
    · walk_at "RD"
      exact ⟨_, _, e1, h_no l (by decide +kernel), hp, l, ts, k, 0, rfl, hh, hk, tl, by omega, fun h => hk' _ _ ⟨_, rfl, .inl ⟨rfl, h⟩, rfl⟩, fun b hb B => hk' _ _ ⟨_, rfl, .inr ⟨b, rfl, hb, B⟩, rfl⟩⟩
    rintro σ H2 ⟨v0, rfl, hv0, rfl⟩
    walk_at "RD"
    refine ⟨fun m σ H' => ∃ (p : Nat) (us : List Addr) (v : V), m + p = ts.length ∧ us.Perm ts ∧ Sink k us p ∧ p < ts.length ∧ ((v = V.non ∧ ∀ i, 0 < i → (i - 1) / 2 = p → us[i]? = none) ∨ ∃ b : Nat, v = V.int (b : Int) ∧ b < us.length ∧ Lesser k us p b) ∧ H' = upd H2 l (.lst (us.map V.ref)) ∧ σ = [some (V.ref hp), some (V.int (p : Int)), some v], ⟨ts.length, 0, ts, v0, rfl, .refl _, hS, n0, hv0, (upd_id e2).symm, rfl⟩, ?_⟩
    rintro m σ H' ⟨p, us, v, mp, pm, hS', pl, hv, rfl, rfl⟩
    have lu := pm.length_eq
    have hh' : HeapAt ad (upd H2 l (.lst (us.map V.ref))) hp l us := hh.put
    obtain ⟨⟨dx', f1⟩, f2⟩ := id hh'
    have hk' : KeysAt (upd H2 l (.lst (us.map V.ref))) k us := hk.put e2 fun t ht => pm.mem_iff.mp ht
    have key : ∀ {i : Nat} {x : Addr}, us[i]? = some x → upd H2 l (.lst (us.map V.ref)) x = some (.tup ((k x).map V.int)) := fun h => hk' _ (List.mem_of_getElem? h)
    walk_at "RD"
    rcases hv with ⟨rfl, hno⟩ | ⟨b, rfl, bl, B⟩
    · rw [if_neg (by simp)]
      exact hq us pm (hS'.done (.inl hno))
    · rw [if_pos (by simp)]
      have b0 := B.b0
      have bp := B.bp
      obtain ⟨x, hx⟩ : ∃ x, us[b]? = some x := ⟨_, List.getElem?_eq_getElem bl⟩
      obtain ⟨y, hy⟩ : ∃ y, us[p]? = some y := ⟨_, List.getElem?_eq_getElem (by omega)⟩
      refine ⟨_, _, _, f1, T.cl_Heap, T.n_Heap_things, _, h_things l, l, rfl, _, _, rfl, SqL.of f2, _, at_ref hx, _, _, _, f1, T.cl_Heap, T.n_Heap_things, _, h_things l, l, rfl, _, SqL.of f2, _, at_ref hy, x, rfl, y, rfl, _, SqT.of (key hx), _, SqT.of (key hy), ?_⟩
      by_cases bb : HT.lexLt (k x) (k y) = true
      · rw [if_pos bb]
        have S2 := hS'.step B hx hy bb
        have pm2 := (swp_perm hy hx (by omega)).trans pm
        refine ⟨fun σ' H'' => ∃ v, H'' = upd H2 l (.lst ((swp us p b y x).map V.ref)) ∧ ((v = V.non ∧ ∀ i, 0 < i → (i - 1) / 2 = b → (swp us p b y x)[i]? = none) ∨ ∃ c : Nat, v = V.int (c : Int) ∧ c < (swp us p b y x).length ∧ Lesser k (swp us p b y x) b c) ∧ σ' = [some (V.ref hp), some (V.int (b : Int)), some v], fun σ' H'' ⟨v, h1, h3, h2⟩ => ⟨ts.length - b, by omega, b, by omega, swp us p b y x, pm2, S2, by omega, v, h3, h1, h2⟩, ?_⟩
        refine ⟨_, _, f1, h_no l (by decide +kernel), hp, l, us, p, b, y, x, rfl, hh', hy, hx, ?_⟩
        rw [upd_upd]
        have hh2 : HeapAt ad (upd H2 l (.lst ((swp us p b y x).map V.ref))) hp l (swp us p b y x) := hh.put
        obtain ⟨⟨dx2, g1⟩, g2⟩ := id hh2
        exact ⟨_, _, g1, h_no l (by decide +kernel), hp, l, _, k, b, rfl, hh2, hk.put e2 fun t ht => pm2.mem_iff.mp ht, by rw [swp_len]; omega, by omega, fun h => ⟨_, rfl, .inl ⟨rfl, h⟩, rfl⟩, fun c hc C => ⟨_, rfl, .inr ⟨c, rfl, hc, C⟩, rfl⟩⟩
      · rw [if_neg bb]
        exact hq us pm (hS'.done (.inr ⟨b, x, y, B, hx, hy, by simpa using bb⟩))
theorem sc_Heap_least : FnScope ["self"] ["self"] (defScope s_Heap_least) := ⟨rfl, rfl, rfl, by decide +kernel, rfl, by decide +kernel, by decide +kernel⟩
set_option maxHeartbeats 4000000 in
theorem ok_Heap_least {fd : FuncData} (F : Fun K "least" "Heap.least" s_Heap_least ad.Heap_least fd) (T : Txt K mg ad) : FnOk P w K mg base (CXE P w) 1 ad.Heap_least fd ["self"] (spLeast ad) := by
  refine F.okR sc_Heap_least (fun vs H Q E h => ?_) (fun cdv A outer s H vs Q E HR h => ?_)
  · obtain ⟨hp, l, ts, rfl, _⟩ := h
    rfl
  · obtain ⟨hp, l, ts, rfl, hh, hE, hq⟩ := h
    have ND := sc_Heap_least.nd
    have HU0 := HR.units0
    have HU := HR.units
    have hA := HR.hd
    have hz : (100000 : Nat) ≤ sizeLine := by rw [sizeLine_eq]; decide
    refine ⟨_, (pss_cons (ps_if (pt_not (pt_truth (pe_fld (pe_var (i := 0) (x := "self") rfl (vis_of v_Heap_least_self) d_self e_self) (by rfl)) (fun _ => rfl)))
 (pss_one (ps_raise xw_fn rfl (gl_of g_Heap_least_Empty) T.mg_Empty T.er_Empty (pa_cons pe_str pa_nil (stp rfl)) (hdb := d_Empty) (he := stp rfl) (hpl := anp rfl)))
 pss_nil)
 (pss_one (ps_ret (pe_ix ix_list (pe_fld (pe_var (i := 0) (x := "self") rfl (vis_of v_Heap_least_self) d_self e_self) (by rfl)) pe_int (fun _ _ => rfl))))), ?_⟩
    obtain ⟨⟨dx, e1⟩, e2⟩ := id hh
    walk_at "RD"
    refine ⟨_, _, _, e1, T.cl_Heap, T.n_Heap_things, _, h_things l, _, .inl ⟨_, SqL.of e2, rfl⟩, ?_⟩
    cases ts with
    | nil =>
      rw [if_pos (by simp)]
      exact ⟨by omega, hE rfl⟩
    | cons r us =>
      rw [if_neg (by simp)]
      exact ⟨_, _, _, e1, T.cl_Heap, T.n_Heap_things, _, h_things l, l, rfl, _, SqL.of e2, _, at_ref (p := 0) rfl, hq r us rfl⟩
theorem sc_Heap_put : FnScope ["self", "thing"] ["self", "thing"] (defScope s_Heap_put) := ⟨rfl, rfl, rfl, by decide +kernel, rfl, by decide +kernel, by decide +kernel⟩
set_option maxHeartbeats 4000000 in
theorem ok_Heap_put {fd : FuncData} (F : Fun K "put" "Heap.put" s_Heap_put ad.Heap_put fd) (T : Txt K mg ad) {fd_Heap_lift_last : FuncData} (B_Heap_lift_last : Binds K fd_Heap_lift_last ["self"] []) (G_Heap_lift_last : FnOk P w K mg base CX0 2 ad.Heap_lift_last fd_Heap_lift_last ["self"] (spLift ad)) : FnOk P w K mg base CX0 3 ad.Heap_put fd ["self", "thing"] (spHPut ad) := by
  refine F.ok sc_Heap_put (fun vs H Q E h => ?_) (fun cdv A outer s H vs Q E HR h => ?_)
  · obtain ⟨hp, l, t, ts, k, rfl, _⟩ := h
    rfl
  · obtain ⟨hp, l, t, ts, k, rfl, hh, hk, tl, hok, hq⟩ := h
    have ND := sc_Heap_put.nd
    have HU0 := HR.units0
    have HU := HR.units
    have hA := HR.hd
    have hz : (100000 : Nat) ≤ sizeLine := by rw [sizeLine_eq]; decide
    refine ⟨_, (pss_cons (ps_expr (pe_bm PySem.F.plainAttrs_list PySem.F.slot_list_append PySem.F.type_list_append mt_append (pe_fld (pe_var (i := 0) (x := "self") rfl (vis_of v_Heap_put_self) d_self e_self) (by rfl)) (pa_cons (pe_var (i := 1) (x := "thing") rfl (vis_of v_Heap_put_thing) d_thing e_thing) pa_nil (stp rfl))))
 (pss_one (ps_expr (pe_meth0 (pe_var (i := 0) (x := "self") rfl (vis_of v_Heap_put_self) d_self e_self) T.cl_Heap T.m_Heap_lift_last G_Heap_lift_last (HR.mono (by decide)) B_Heap_lift_last .nil pass0)))), ?_⟩
    obtain ⟨⟨dx, e1⟩, e2⟩ := id hh
    have lm : (ts.map V.ref).length = ts.length := List.length_map _
    have et : (ts.map V.ref) ++ [V.ref t] = (ts ++ [t]).map V.ref := by simp
    walk_at "RD"
    refine ⟨_, _, _, e1, T.cl_Heap, T.n_Heap_things, _, h_things l, .inl ⟨rfl, _, SqL.of e2⟩, l, rfl, _, e2, by rw [lm]; omega, ?_⟩
    rw [et]
    have hh' : HeapAt ad (upd H l (.lst ((ts ++ [t]).map V.ref))) hp l (ts ++ [t]) := hh.put
    obtain ⟨⟨dx', f1⟩, f2⟩ := id hh'
    have pt : (ts ++ [t]).Perm (t :: ts) := List.perm_append_comm
    refine ⟨_, _, f1, h_no l (by decide +kernel), hp, l, ts ++ [t], k, ts.length, rfl, hh', hk.put e2 fun u hu => pt.mem_iff.mp hu, by simp, by omega, Lift.start hok, fun us pu ho => ?_⟩
    rw [upd_upd]
    exact hq us (pu.trans pt) ho
theorem sc_Heap_take : FnScope ["self", "first", "last"] ["self"] (defScope s_Heap_take) := ⟨rfl, rfl, rfl, by decide +kernel, rfl, by decide +kernel, by decide +kernel⟩
set_option maxHeartbeats 4000000 in
theorem ok_Heap_take {fd : FuncData} (F : Fun K "take" "Heap.take" s_Heap_take ad.Heap_take fd) (T : Txt K mg ad) {fd_Heap_least : FuncData} (B_Heap_least : Binds K fd_Heap_least ["self"] []) (G_Heap_least : FnOk P w K mg base (CXE P w) 1 ad.Heap_least fd_Heap_least ["self"] (spLeast ad)) {fd_Heap_sink_first : FuncData} (B_Heap_sink_first : Binds K fd_Heap_sink_first ["self"] []) (G_Heap_sink_first : FnOk P w K mg base CX0 2 ad.Heap_sink_first fd_Heap_sink_first ["self"] (spSink ad)) : FnOk P w K mg base (CXE P w) 3 ad.Heap_take fd ["self"] (spTake ad) := by
  refine F.okR sc_Heap_take (fun vs H Q E h => ?_) (fun cdv A outer s H vs Q E HR h => ?_)
  · obtain ⟨hp, l, ts, k, rfl, _⟩ := h
    rfl
  · obtain ⟨hp, l, ts, k, rfl, hh, hk, tl, hok, hE, hq⟩ := h
    have ND := sc_Heap_take.nd
    have HU0 := HR.units0
    have HU := HR.units
    have hA := HR.hd
    have hz : (100000 : Nat) ≤ sizeLine := by rw [sizeLine_eq]; decide
    refine ⟨_, (pss_cons (ps_set (i := 1) ND rfl (loc_of (Or.inl l_Heap_take_first)) (pe_meth0X (pe_var (i := 0) (x := "self") rfl (vis_of v_Heap_take_self) d_self e_self) T.cl_Heap T.m_Heap_least G_Heap_least (HR.mono (by decide)) B_Heap_least .nil xw_fn.toXC))
 (pss_cons (ps_set (i := 2) ND rfl (loc_of (Or.inl l_Heap_take_last)) (pe_bm0 PySem.F.plainAttrs_list PySem.F.slot_list_pop PySem.F.type_list_pop mt_pop (pe_fld (pe_var (i := 0) (x := "self") rfl (vis_of v_Heap_take_self) d_self e_self) (by rfl))))
 (pss_cons (ps_if (pt_truth (pe_fld (pe_var (i := 0) (x := "self") rfl (vis_of v_Heap_take_self) d_self e_self) (by rfl)) (fun _ => rfl))
 (pss_cons (ps_asg (pe_var (i := 2) (x := "last") rfl (vis_of v_Heap_take_last) d_last e_last) (pg_sub (pe_fld (pe_var (i := 0) (x := "self") rfl (vis_of v_Heap_take_self) d_self e_self) (by rfl)) pe_int set_list))
 (pss_one (ps_expr (pe_meth0 (pe_var (i := 0) (x := "self") rfl (vis_of v_Heap_take_self) d_self e_self) T.cl_Heap T.m_Heap_sink_first G_Heap_sink_first (HR.mono (by decide)) B_Heap_sink_first .nil pass0))))
 pss_nil)
 (pss_one (ps_ret (pe_var (i := 1) (x := "first") rfl (vis_of v_Heap_take_first) d_first e_first)))))), ?_⟩
    obtain ⟨⟨dx, e1⟩, e2⟩ := id hh
    cases ts with
    | nil =>
      walk_at "RD"
      exact ⟨_, _, e1, h_no l (by decide +kernel), hp, l, [], rfl, hh, fun _ => hE rfl, fun r us z => by cases z⟩
    | cons r rs =>
      have lm : ∀ us : List Addr, (us.map V.ref).length = us.length := fun us => List.length_map _
      refine tSeq_cut (fun σ H' => H' = H ∧ σ = [some (V.ref hp), some (V.ref r), none]) (fun nx hk => ?_) ?_
      · walk_at "RD"
        exact ⟨_, _, e1, h_no l (by decide +kernel), hp, l, _, rfl, hh, (fun z => by cases z), fun r' us' z => by cases z; exact hk _ _ ⟨rfl, rfl⟩⟩
      rintro σ H1 ⟨rfl, rfl⟩
      have ls : ∀ t ∈ r :: rs, Le (k r) (k t) := fun t ht => by
        obtain ⟨i, hi⟩ := List.getElem?_of_mem ht
        exact hok.least (r := r) rfl i t hi
      obtain ⟨us, z, ez⟩ : ∃ us z, r :: rs = us ++ [z] := ⟨(r :: rs).dropLast, (r :: rs).getLast (by simp), (List.dropLast_concat_getLast _).symm⟩
      have hu : Hok k us := Hok.init (t := z) (by rw [← ez]; exact hok)
      have lz : (r :: rs).length = us.length + 1 := by rw [ez]; simp
      refine tSeq_cut (fun σ H' => H' = upd H1 l (.lst (us.map V.ref)) ∧ σ = [some (V.ref hp), some (V.ref r), some (V.ref z)]) (fun nx hk' => ?_) ?_
      · walk_at "RD"
        refine ⟨_, _, _, e1, T.cl_Heap, T.n_Heap_things, _, h_things l, .inl ⟨rfl, _, SqL.of e2⟩, l, rfl, _, e2, V.ref z, ?_, hk' _ _ ⟨?_, rfl⟩⟩
        · rw [ez, List.map_append, List.length_append]
          simp
        · rw [ez, List.map_append]
          simp
      rintro σ H2 ⟨rfl, rfl⟩
      have hh' : HeapAt ad (upd H1 l (.lst (us.map V.ref))) hp l us := hh.put
      obtain ⟨⟨dx', f1⟩, f2⟩ := id hh'
      walk_at "RD"
      refine ⟨_, _, _, f1, T.cl_Heap, T.n_Heap_things, _, h_things l, _, .inl ⟨_, SqL.of f2, rfl⟩, ?_⟩
      cases us with
      | nil =>
        rw [if_neg (by simp)]
        cases ez
        exact hq r [] (.refl _) ls hu
      | cons u0 us =>
        rw [if_pos (by simp)]
        obtain ⟨rfl, rfl⟩ : r = u0 ∧ rs = us ++ [z] := by simpa using ez
        have es : ((r :: us).map V.ref).set 0 (V.ref z) = ((r :: us).set 0 z).map V.ref := rfl
        have hm : ∀ t ∈ (r :: us).set 0 z, t ∈ r :: (us ++ [z]) := fun t ht => by
          rcases List.mem_cons.mp ht with e | e
          · rw [e]; simp
          · simp [show t ∈ us from e]
        refine ⟨_, _, _, f1, T.cl_Heap, T.n_Heap_things, _, h_things l, l, rfl, _, f2, 0, by simp [ixN], ?_⟩
        rw [es, upd_upd]
        have hh2 : HeapAt ad (upd H1 l (.lst (((r :: us).set 0 z).map V.ref))) hp l ((r :: us).set 0 z) := hh.put
        obtain ⟨⟨dx2, g1⟩, g2⟩ := id hh2
        refine ⟨_, _, g1, h_no l (by decide +kernel), hp, l, _, k, rfl, hh2, hk.put e2 hm, by simp, by simp only [List.length_set]; simp at tl lz ⊢; omega, Sink.start hu, fun vs pv ho => ?_⟩
        rw [upd_upd]
        refine hq r vs ?_ ls ho
        refine List.Perm.cons r (pv.trans ?_)
        show (z :: us).Perm (us ++ [z])
        exact List.perm_append_comm (l₁ := [z])
theorem sc_Heap_size : FnScope ["self"] ["self"] (defScope s_Heap_size) := ⟨rfl, rfl, rfl, by decide +kernel, rfl, by decide +kernel, by decide +kernel⟩
set_option maxHeartbeats 4000000 in
theorem ok_Heap_size {fd : FuncData} (F : Fun K "size" "Heap.size" s_Heap_size ad.Heap_size fd) (T : Txt K mg ad) : FnOk P w K mg base CX0 1 ad.Heap_size fd ["self"] (spSize ad) := by
  refine F.ok sc_Heap_size (fun vs H Q E h => ?_) (fun cdv A outer s H vs Q E HR h => ?_)
  · obtain ⟨hp, l, ts, rfl, _⟩ := h
    rfl
  · obtain ⟨hp, l, ts, rfl, hh, hq⟩ := h
    have ND := sc_Heap_size.nd
    have HU0 := HR.units0
    have HU := HR.units
    have hA := HR.hd
    have hz : (100000 : Nat) ≤ sizeLine := by rw [sizeLine_eq]; decide
    refine ⟨_, (pss_one (ps_ret (pe_callB call_len_seq (gl_of g_Heap_size_len) T.b_len PyProof.Rows.Boot.«len» (pa_cons (pe_fld (pe_var (i := 0) (x := "self") rfl (vis_of v_Heap_size_self) d_self e_self) (by rfl)) pa_nil (stp rfl)) (hn := n_len) (hdb := d_len) (he := stp rfl) (hpl := anp rfl)))), ?_⟩
    obtain ⟨⟨dx, e1⟩, e2⟩ := id hh
    walk_at "RD"
    refine ⟨_, _, _, e1, T.cl_Heap, T.n_Heap_things, _, h_things l, l, rfl, _, .inl (SqL.of e2), ?_⟩
    rw [List.length_map]
    exact hq
theorem sc_Heap_lying : FnScope ["self"] ["self"] (defScope s_Heap_lying) := ⟨rfl, rfl, rfl, by decide +kernel, rfl, by decide +kernel, by decide +kernel⟩
set_option maxHeartbeats 4000000 in
theorem ok_Heap_lying {fd : FuncData} (F : Fun K "lying" "Heap.lying" s_Heap_lying ad.Heap_lying fd) (T : Txt K mg ad) : FnOk P w K mg base CX0 1 ad.Heap_lying fd ["self"] (spLying ad) := by
  refine F.ok sc_Heap_lying (fun vs H Q E h => ?_) (fun cdv A outer s H vs Q E HR h => ?_)
  · obtain ⟨hp, l, ts, rfl, _⟩ := h
    rfl
  · obtain ⟨hp, l, ts, rfl, hh, tl, hq⟩ := h
    have ND := sc_Heap_lying.nd
    have HU0 := HR.units0
    have HU := HR.units
    have hA := HR.hd
    have hz : (100000 : Nat) ≤ sizeLine := by rw [sizeLine_eq]; decide
    refine ⟨_, (pss_one (ps_ret (pe_callTy call_list_of (gl_of g_Heap_lying_list) T.b_list PyProof.Rows.Boot.«list» (pa_cons (pe_fld (pe_var (i := 0) (x := "self") rfl (vis_of v_Heap_lying_self) d_self e_self) (by rfl)) pa_nil (stp rfl)) (hn := n_list) (hdb := d_list) (he := stp rfl) (hpl := anp rfl)))), ?_⟩
    obtain ⟨⟨dx, e1⟩, e2⟩ := id hh
    walk_at "RD"
    exact ⟨_, _, _, e1, T.cl_Heap, T.n_Heap_things, _, h_things l, l, rfl, _, .inl (SqL.of e2), fun r nr => hq r nr⟩
theorem sc_Lat : FnScope ["_law_script", "_law_k", "_law_cell"] ["_law_script", "_law_k"] (defScope s_Lat) := ⟨rfl, rfl, rfl, by decide +kernel, rfl, by decide +kernel, by decide +kernel⟩
set_option maxHeartbeats 4000000 in
theorem ok_Lat {fd : FuncData} (F : Fun K "_law_at" "_law_at" s_Lat ad.Lat fd) (T : Txt K mg ad) : FnOk P w K mg base CX0 1 ad.Lat fd ["_law_script", "_law_k"] (spAt K) := by
  refine F.ok sc_Lat (fun vs H Q E h => ?_) (fun cdv A outer s H vs Q E HR h => ?_)
  · obtain ⟨a, ns, k, rfl, _⟩ := h
    rfl
  · obtain ⟨a, ns, k, rfl, hS, hl, h0, h1, hq⟩ := h
    have ND := sc_Lat.nd
    have HU0 := HR.units0
    have HU := HR.units
    have hA := HR.hd
    have hz : (100000 : Nat) ≤ sizeLine := by rw [sizeLine_eq]; decide
    refine ⟨_, (pss_cons (ps_set (i := 2) ND rfl (loc_of (Or.inl l_Lat__law_cell)) pe_int)
 (pss_cons (ps_if (pt_cmpR op_lt (pe_var (i := 1) (x := "_law_k") rfl (vis_of v_Lat__law_k) d__law_k e__law_k) (pe_callB call_len_seq (gl_of g_Lat_len) T.b_len PyProof.Rows.Boot.«len» (pa_cons (pe_var (i := 0) (x := "_law_script") rfl (vis_of v_Lat__law_script) d__law_script e__law_script) pa_nil (stp rfl)) (hn := n_len) (hdb := d_len) (he := stp rfl) (hpl := anp rfl)) (nomark _))
 (pss_one (ps_set (i := 2) ND rfl (loc_of (Or.inl l_Lat__law_cell)) (pe_ix ix_list (pe_var (i := 0) (x := "_law_script") rfl (vis_of v_Lat__law_script) d__law_script e__law_script) (pe_var (i := 1) (x := "_law_k") rfl (vis_of v_Lat__law_k) d__law_k e__law_k) (fun _ _ => rfl))))
 pss_nil)
 (pss_one (ps_ret (pe_op op_mod (pe_op op_mul (pe_op op_add (pe_op op_add (pe_op op_mod (pe_var (i := 2) (x := "_law_cell") rfl (vis_of v_Lat__law_cell) d__law_cell e__law_cell) pe_int) (pe_op op_mul (pe_op op_mul pe_int (pe_var (i := 1) (x := "_law_k") rfl (vis_of v_Lat__law_k) d__law_k e__law_k)) (pe_var (i := 1) (x := "_law_k") rfl (vis_of v_Lat__law_k) d__law_k e__law_k))) pe_int) (pe_op op_add pe_int (pe_op op_mul pe_int (pe_var (i := 1) (x := "_law_k") rfl (vis_of v_Lat__law_k) d__law_k e__law_k)))) pe_int))))), ?_⟩
    walk_at "RD"
    have fin : ∀ i : Int, 0 < (1000000007 : Int) ∧ CMul 7919 k ∧ CMul (7919 * k) k ∧ CMul 2 k ∧ CMul (i % 1000000007 + 7919 * k * k + 31) (48271 + 2 * k) ∧ 0 < (2147483647 : Int) ∧ Q (V.int ((i % 1000000007 + 7919 * k * k + 31) * (48271 + 2 * k) % 2147483647)) H := fun i =>
      ⟨by decide, (by first | (left; constructor <;> omega) | (right; constructor <;> omega)), (by first | (left; constructor <;> omega) | (right; constructor <;> omega)), (by first | (left; constructor <;> omega) | (right; constructor <;> omega)), (by first | (left; constructor <;> omega) | (right; constructor <;> omega)), by decide, hq _ (Int.emod_nonneg _ (by decide)) (Int.emod_lt_of_pos _ (by decide))⟩
    refine ⟨ns.map V.int, .inl hS, ?_⟩
    split
    · rename_i hk
      have hk' : k.toNat < ns.length := by simp at hk; omega
      obtain ⟨j, rfl⟩ := Int.eq_ofNat_of_zero_le h0
      have hj : j < ns.length := by simpa using hk'
      exact ⟨_, hS, .int ns[j], atI_nat (by simp [hj]), _, rfl, fin _⟩
    · exact fin 0
theorem sc_Lmixed : FnScope ["_law_cell", "_law_k"] ["_law_cell", "_law_k"] (defScope s_Lmixed) := ⟨rfl, rfl, rfl, by decide +kernel, rfl, by decide +kernel, by decide +kernel⟩
set_option maxHeartbeats 4000000 in
theorem ok_Lmixed {fd : FuncData} (F : Fun K "_law_mixed" "_law_mixed" s_Lmixed ad.Lmixed fd) (T : Txt K mg ad) : FnOk P w K mg base CX0 1 ad.Lmixed fd ["_law_cell", "_law_k"] (spMixed) := by
  refine F.ok sc_Lmixed (fun vs H Q E h => ?_) (fun cdv A outer s H vs Q E HR h => ?_)
  · obtain ⟨c, k, rfl, _⟩ := h
    rfl
  · obtain ⟨c, k, rfl, c0, c1, k0, k1, hq⟩ := h
    have ND := sc_Lmixed.nd
    have HU0 := HR.units0
    have HU := HR.units
    have hA := HR.hd
    have hz : (100000 : Nat) ≤ sizeLine := by rw [sizeLine_eq]; decide
    refine ⟨_, (pss_one (ps_ret (pe_op op_mod (pe_op op_mul (pe_op op_add (pe_op op_add (pe_op op_fdiv (pe_var (i := 0) (x := "_law_cell") rfl (vis_of v_Lmixed__law_cell) d__law_cell e__law_cell) pe_int) (pe_op op_mul (pe_op op_mul pe_int (pe_var (i := 1) (x := "_law_k") rfl (vis_of v_Lmixed__law_k) d__law_k e__law_k)) (pe_var (i := 1) (x := "_law_k") rfl (vis_of v_Lmixed__law_k) d__law_k e__law_k))) pe_int) (pe_op op_add pe_int (pe_op op_mul pe_int (pe_var (i := 1) (x := "_law_k") rfl (vis_of v_Lmixed__law_k) d__law_k e__law_k)))) pe_int))), ?_⟩
    walk_at "RD"
    exact ⟨⟨by decide, by decide⟩, .inl ⟨by decide, by decide⟩, .inr ⟨by omega, by omega⟩, .inl ⟨by decide, by decide⟩, .inr ⟨by omega, by omega⟩, by decide, hq _ (Int.emod_nonneg _ (by decide)) (Int.emod_lt_of_pos _ (by decide))⟩
theorem sc_Lwhole : FnScope ["_law_thing_here"] ["_law_thing_here"] (defScope s_Lwhole) := ⟨rfl, rfl, rfl, by decide +kernel, rfl, by decide +kernel, by decide +kernel⟩
set_option maxHeartbeats 4000000 in
theorem ok_Lwhole {fd : FuncData} (F : Fun K "_law_whole" "_law_whole" s_Lwhole ad.Lwhole fd) (T : Txt K mg ad) : FnOk P w K mg base CX0 1 ad.Lwhole fd ["_law_thing_here"] (spWhole K) := by
  refine F.ok sc_Lwhole (fun vs H Q E h => ?_) (fun cdv A outer s H vs Q E HR h => ?_)
  · obtain ⟨x, rfl, _⟩ := h
    rfl
  · obtain ⟨x, rfl, ty, hq⟩ := h
    have ND := sc_Lwhole.nd
    have HU0 := HR.units0
    have HU := HR.units
    have hA := HR.hd
    have hz : (100000 : Nat) ≤ sizeLine := by rw [sizeLine_eq]; decide
    refine ⟨_, (pss_one (ps_ret (pe_and (pe_callB call_isinst (gl_of g_Lwhole_isinstance) T.b_isinstance PyProof.Rows.Boot.«isinstance» (pa_cons (pe_var (i := 0) (x := "_law_thing_here") rfl (vis_of v_Lwhole__law_thing_here) d__law_thing_here e__law_thing_here) (pa_cons (pe_bltn (v := .ty "int") (gl_of g_Lwhole_int) T.b_int PyProof.Rows.Boot.«int» rfl (hn := n_int) (hd := d_int)) pa_nil (stp rfl)) (stp rfl)) (hn := n_isinstance) (hdb := d_isinstance) (he := stp rfl) (hpl := anp rfl)) (pe_one (pe_not (pe_callB call_isinst (gl_of g_Lwhole_isinstance) T.b_isinstance PyProof.Rows.Boot.«isinstance» (pa_cons (pe_var (i := 0) (x := "_law_thing_here") rfl (vis_of v_Lwhole__law_thing_here) d__law_thing_here e__law_thing_here) (pa_cons (pe_bltn (v := .ty "bool") (gl_of g_Lwhole_bool) T.b_bool PyProof.Rows.Boot.«bool» rfl (hn := n_bool) (hd := d_bool)) pa_nil (stp rfl)) (stp rfl)) (hn := n_isinstance) (hdb := d_isinstance) (he := stp rfl) (hpl := anp rfl))))))), ?_⟩
    obtain ⟨n, ty⟩ := ty
    have e1 := kit_int ty
    have e2 := kit_bool ty
    walk_at "RD"
    refine ⟨_, ty, _, e1, ?_⟩
    cases hb : isIB x with
    | true =>
      rw [if_pos rfl]
      refine ⟨_, ty, _, e2, ?_⟩
      cases x <;> simp_all [isI, isB, isIB]
    | false =>
      rw [if_neg (by decide)]
      cases x <;> simp_all [isI, isB, isIB]
theorem sc_Lword : FnScope ["_law_error", "_law_some", "_law_found"] ["_law_error"] (defScope s_Lword) := ⟨rfl, rfl, rfl, by decide +kernel, rfl, by decide +kernel, by decide +kernel⟩
set_option maxHeartbeats 4000000 in
theorem okM_Lword {fd : FuncData} (F : Fun K "_law_word" "_law_word" s_Lword ad.Lword fd) (T : Txt K mg ad) {ea C : Addr} {dx : Option Addr} {ob : Obj} (mk : MkO C dx ob) : FnOkM P w K mg base ea ob 1 ad.Lword fd ["_law_error"] (spWord ad K ea C dx) := by
  refine F.okM mk sc_Lword (fun vs H Q E h => ?_) (fun cdv A outer s H vs Q HRM CM HH h => ?_)
  · obtain ⟨n, rfl, _⟩ := h
    rfl
  · obtain ⟨n, rfl, rfl, ⟨er, si, fe, ve⟩, hn, hq⟩ := h
    have ND := sc_Lword.nd
    have HU0 := HRM.units0
    have HU := HRM.units
    have hz : (100000 : Nat) ≤ sizeLine := by rw [sizeLine_eq]; decide
    refine ⟨_, (pss_cons (ps_set (i := 1) ND rfl (loc_of (Or.inl l_Lword__law_some)) (pe_lst (pa_cons (pe_tup (pa_cons pe_str (pa_cons (pe_callB (call_isinstE (mkd_m HH) mk er) (gl_of g_Lword_isinstance) T.b_isinstance PyProof.Rows.Boot.«isinstance» (pa_cons (pe_var (i := 0) (x := "_law_error") rfl (vis_of v_Lword__law_error) d__law_error e__law_error) (pa_cons (pe_glob (v := .ref ad.C_BadFloor) (gl_of g_Lword_BadFloor) T.mg_BadFloor rfl (hd := d_BadFloor)) pa_nil (stp rfl)) (stp rfl)) (hn := n_isinstance) (hdb := d_isinstance) (he := stp rfl) (hpl := anp rfl)) pa_nil (stp rfl)) (stp rfl))) (pa_cons (pe_tup (pa_cons pe_str (pa_cons (pe_callB (call_isinstE (mkd_m HH) mk er) (gl_of g_Lword_isinstance) T.b_isinstance PyProof.Rows.Boot.«isinstance» (pa_cons (pe_var (i := 0) (x := "_law_error") rfl (vis_of v_Lword__law_error) d__law_error e__law_error) (pa_cons (pe_glob (v := .ref ad.C_BadKind) (gl_of g_Lword_BadKind) T.mg_BadKind rfl (hd := d_BadKind)) pa_nil (stp rfl)) (stp rfl)) (hn := n_isinstance) (hdb := d_isinstance) (he := stp rfl) (hpl := anp rfl)) pa_nil (stp rfl)) (stp rfl))) pa_nil (stp rfl)) (stp rfl))))
 (pss_cons (ps_set (i := 1) ND rfl (loc_of (Or.inl l_Lword__law_some)) (pe_op op_cat (pe_var (i := 1) (x := "_law_some") rfl (vis_of v_Lword__law_some) d__law_some e__law_some) (pe_lst (pa_cons (pe_tup (pa_cons pe_str (pa_cons (pe_callB (call_isinstE (mkd_m HH) mk er) (gl_of g_Lword_isinstance) T.b_isinstance PyProof.Rows.Boot.«isinstance» (pa_cons (pe_var (i := 0) (x := "_law_error") rfl (vis_of v_Lword__law_error) d__law_error e__law_error) (pa_cons (pe_glob (v := .ref ad.C_BadCell) (gl_of g_Lword_BadCell) T.mg_BadCell rfl (hd := d_BadCell)) pa_nil (stp rfl)) (stp rfl)) (hn := n_isinstance) (hdb := d_isinstance) (he := stp rfl) (hpl := anp rfl)) pa_nil (stp rfl)) (stp rfl))) (pa_cons (pe_tup (pa_cons pe_str (pa_cons (pe_callB (call_isinstE (mkd_m HH) mk er) (gl_of g_Lword_isinstance) T.b_isinstance PyProof.Rows.Boot.«isinstance» (pa_cons (pe_var (i := 0) (x := "_law_error") rfl (vis_of v_Lword__law_error) d__law_error e__law_error) (pa_cons (pe_glob (v := .ref ad.C_BadCharge) (gl_of g_Lword_BadCharge) T.mg_BadCharge rfl (hd := d_BadCharge)) pa_nil (stp rfl)) (stp rfl)) (hn := n_isinstance) (hdb := d_isinstance) (he := stp rfl) (hpl := anp rfl)) pa_nil (stp rfl)) (stp rfl))) pa_nil (stp rfl)) (stp rfl)))))
 (pss_cons (ps_set (i := 1) ND rfl (loc_of (Or.inl l_Lword__law_some)) (pe_op op_cat (pe_var (i := 1) (x := "_law_some") rfl (vis_of v_Lword__law_some) d__law_some e__law_some) (pe_lst (pa_cons (pe_tup (pa_cons pe_str (pa_cons (pe_callB (call_isinstE (mkd_m HH) mk er) (gl_of g_Lword_isinstance) T.b_isinstance PyProof.Rows.Boot.«isinstance» (pa_cons (pe_var (i := 0) (x := "_law_error") rfl (vis_of v_Lword__law_error) d__law_error e__law_error) (pa_cons (pe_glob (v := .ref ad.C_BadStops) (gl_of g_Lword_BadStops) T.mg_BadStops rfl (hd := d_BadStops)) pa_nil (stp rfl)) (stp rfl)) (hn := n_isinstance) (hdb := d_isinstance) (he := stp rfl) (hpl := anp rfl)) pa_nil (stp rfl)) (stp rfl))) (pa_cons (pe_tup (pa_cons pe_str (pa_cons (pe_callB (call_isinstE (mkd_m HH) mk er) (gl_of g_Lword_isinstance) T.b_isinstance PyProof.Rows.Boot.«isinstance» (pa_cons (pe_var (i := 0) (x := "_law_error") rfl (vis_of v_Lword__law_error) d__law_error e__law_error) (pa_cons (pe_glob (v := .ref ad.C_BadWay) (gl_of g_Lword_BadWay) T.mg_BadWay rfl (hd := d_BadWay)) pa_nil (stp rfl)) (stp rfl)) (hn := n_isinstance) (hdb := d_isinstance) (he := stp rfl) (hpl := anp rfl)) pa_nil (stp rfl)) (stp rfl))) pa_nil (stp rfl)) (stp rfl)))))
 (pss_cons (ps_set (i := 1) ND rfl (loc_of (Or.inl l_Lword__law_some)) (pe_op op_cat (pe_var (i := 1) (x := "_law_some") rfl (vis_of v_Lword__law_some) d__law_some e__law_some) (pe_lst (pa_cons (pe_tup (pa_cons pe_str (pa_cons (pe_callB (call_isinstE (mkd_m HH) mk er) (gl_of g_Lword_isinstance) T.b_isinstance PyProof.Rows.Boot.«isinstance» (pa_cons (pe_var (i := 0) (x := "_law_error") rfl (vis_of v_Lword__law_error) d__law_error e__law_error) (pa_cons (pe_glob (v := .ref ad.C_Empty) (gl_of g_Lword_Empty) T.mg_Empty rfl (hd := d_Empty)) pa_nil (stp rfl)) (stp rfl)) (hn := n_isinstance) (hdb := d_isinstance) (he := stp rfl) (hpl := anp rfl)) pa_nil (stp rfl)) (stp rfl))) (pa_cons (pe_tup (pa_cons pe_str (pa_cons (pe_callB (call_isinstE (mkd_m HH) mk er) (gl_of g_Lword_isinstance) T.b_isinstance PyProof.Rows.Boot.«isinstance» (pa_cons (pe_var (i := 0) (x := "_law_error") rfl (vis_of v_Lword__law_error) d__law_error e__law_error) (pa_cons (pe_glob (v := .ref ad.C_NoCarrier) (gl_of g_Lword_NoCarrier) T.mg_NoCarrier rfl (hd := d_NoCarrier)) pa_nil (stp rfl)) (stp rfl)) (hn := n_isinstance) (hdb := d_isinstance) (he := stp rfl) (hpl := anp rfl)) pa_nil (stp rfl)) (stp rfl))) pa_nil (stp rfl)) (stp rfl)))))
 (pss_cons (ps_set (i := 1) ND rfl (loc_of (Or.inl l_Lword__law_some)) (pe_op op_cat (pe_var (i := 1) (x := "_law_some") rfl (vis_of v_Lword__law_some) d__law_some e__law_some) (pe_lst (pa_cons (pe_tup (pa_cons pe_str (pa_cons (pe_callB (call_isinstE (mkd_m HH) mk er) (gl_of g_Lword_isinstance) T.b_isinstance PyProof.Rows.Boot.«isinstance» (pa_cons (pe_var (i := 0) (x := "_law_error") rfl (vis_of v_Lword__law_error) d__law_error e__law_error) (pa_cons (pe_glob (v := .ref ad.C_NoTask) (gl_of g_Lword_NoTask) T.mg_NoTask rfl (hd := d_NoTask)) pa_nil (stp rfl)) (stp rfl)) (hn := n_isinstance) (hdb := d_isinstance) (he := stp rfl) (hpl := anp rfl)) pa_nil (stp rfl)) (stp rfl))) (pa_cons (pe_tup (pa_cons pe_str (pa_cons (pe_callB (call_isinstE (mkd_m HH) mk er) (gl_of g_Lword_isinstance) T.b_isinstance PyProof.Rows.Boot.«isinstance» (pa_cons (pe_var (i := 0) (x := "_law_error") rfl (vis_of v_Lword__law_error) d__law_error e__law_error) (pa_cons (pe_glob (v := .ref ad.C_Meets) (gl_of g_Lword_Meets) T.mg_Meets rfl (hd := d_Meets)) pa_nil (stp rfl)) (stp rfl)) (hn := n_isinstance) (hdb := d_isinstance) (he := stp rfl) (hpl := anp rfl)) pa_nil (stp rfl)) (stp rfl))) pa_nil (stp rfl)) (stp rfl)))))
 (pss_cons (ps_set (i := 1) ND rfl (loc_of (Or.inl l_Lword__law_some)) (pe_op op_cat (pe_var (i := 1) (x := "_law_some") rfl (vis_of v_Lword__law_some) d__law_some e__law_some) (pe_lst (pa_cons (pe_tup (pa_cons pe_str (pa_cons (pe_callB (call_isinstE (mkd_m HH) mk er) (gl_of g_Lword_isinstance) T.b_isinstance PyProof.Rows.Boot.«isinstance» (pa_cons (pe_var (i := 0) (x := "_law_error") rfl (vis_of v_Lword__law_error) d__law_error e__law_error) (pa_cons (pe_glob (v := .ref ad.C_Taken) (gl_of g_Lword_Taken) T.mg_Taken rfl (hd := d_Taken)) pa_nil (stp rfl)) (stp rfl)) (hn := n_isinstance) (hdb := d_isinstance) (he := stp rfl) (hpl := anp rfl)) pa_nil (stp rfl)) (stp rfl))) (pa_cons (pe_tup (pa_cons pe_str (pa_cons (pe_callB (call_isinstE (mkd_m HH) mk er) (gl_of g_Lword_isinstance) T.b_isinstance PyProof.Rows.Boot.«isinstance» (pa_cons (pe_var (i := 0) (x := "_law_error") rfl (vis_of v_Lword__law_error) d__law_error e__law_error) (pa_cons (pe_glob (v := .ref ad.C_Busy) (gl_of g_Lword_Busy) T.mg_Busy rfl (hd := d_Busy)) pa_nil (stp rfl)) (stp rfl)) (hn := n_isinstance) (hdb := d_isinstance) (he := stp rfl) (hpl := anp rfl)) pa_nil (stp rfl)) (stp rfl))) pa_nil (stp rfl)) (stp rfl)))))
 (pss_cons (ps_set (i := 1) ND rfl (loc_of (Or.inl l_Lword__law_some)) (pe_op op_cat (pe_var (i := 1) (x := "_law_some") rfl (vis_of v_Lword__law_some) d__law_some e__law_some) (pe_lst (pa_cons (pe_tup (pa_cons pe_str (pa_cons (pe_callB (call_isinstE (mkd_m HH) mk er) (gl_of g_Lword_isinstance) T.b_isinstance PyProof.Rows.Boot.«isinstance» (pa_cons (pe_var (i := 0) (x := "_law_error") rfl (vis_of v_Lword__law_error) d__law_error e__law_error) (pa_cons (pe_glob (v := .ref ad.C_NoReserve) (gl_of g_Lword_NoReserve) T.mg_NoReserve rfl (hd := d_NoReserve)) pa_nil (stp rfl)) (stp rfl)) (hn := n_isinstance) (hdb := d_isinstance) (he := stp rfl) (hpl := anp rfl)) pa_nil (stp rfl)) (stp rfl))) (pa_cons (pe_tup (pa_cons pe_str (pa_cons (pe_callB (call_isinstE (mkd_m HH) mk er) (gl_of g_Lword_isinstance) T.b_isinstance PyProof.Rows.Boot.«isinstance» (pa_cons (pe_var (i := 0) (x := "_law_error") rfl (vis_of v_Lword__law_error) d__law_error e__law_error) (pa_cons (pe_glob (v := .ref ad.C_Closed) (gl_of g_Lword_Closed) T.mg_Closed rfl (hd := d_Closed)) pa_nil (stp rfl)) (stp rfl)) (hn := n_isinstance) (hdb := d_isinstance) (he := stp rfl) (hpl := anp rfl)) pa_nil (stp rfl)) (stp rfl))) pa_nil (stp rfl)) (stp rfl)))))
 (pss_cons (ps_set (i := 1) ND rfl (loc_of (Or.inl l_Lword__law_some)) (pe_op op_cat (pe_var (i := 1) (x := "_law_some") rfl (vis_of v_Lword__law_some) d__law_some e__law_some) (pe_lst (pa_cons (pe_tup (pa_cons pe_str (pa_cons (pe_callB (call_isinstE (mkd_m HH) mk er) (gl_of g_Lword_isinstance) T.b_isinstance PyProof.Rows.Boot.«isinstance» (pa_cons (pe_var (i := 0) (x := "_law_error") rfl (vis_of v_Lword__law_error) d__law_error e__law_error) (pa_cons (pe_glob (v := .ref ad.C_Jammed) (gl_of g_Lword_Jammed) T.mg_Jammed rfl (hd := d_Jammed)) pa_nil (stp rfl)) (stp rfl)) (hn := n_isinstance) (hdb := d_isinstance) (he := stp rfl) (hpl := anp rfl)) pa_nil (stp rfl)) (stp rfl))) pa_nil (stp rfl)))))
 (pss_cons (ps_comp (i := 2) (CompScope.of (osc := defScope s_Lword) (tn := ["_law_word_here", "_law_fits"]) (cn := []) (caps := []) rfl rfl (by decide +kernel) (by decide +kernel) (by decide +kernel) (by decide +kernel) rfl) CM ND rfl l_Lword__law_found (pi_list (pe_var (i := 1) (x := "_law_some") rfl (vis_of v_Lword__law_some) d__law_some e__law_some))
 (fun _ _ _ _ _ => (pg_pairC rfl CM (show (["_law_word_here", "_law_fits"] : List Str).Nodup by decide +kernel) (Or.inl rfl) (Or.inl rfl) rfl rfl)) (fun _ _ _ _ _ => (pts_one (pt_val (pv 1)))) (fun _ _ _ _ _ => (pv 0)) (hsw := by rfl))
 (pss_cons (ps_if (PW.pt (pw_or (pt_not (pt_val (pe_callB (call_isinstE (mkd_m HH) mk er) (gl_of g_Lword_isinstance) T.b_isinstance PyProof.Rows.Boot.«isinstance» (pa_cons (pe_var (i := 0) (x := "_law_error") rfl (vis_of v_Lword__law_error) d__law_error e__law_error) (pa_cons (pe_glob (v := .ref ad.C_FloorError) (gl_of g_Lword_FloorError) T.mg_FloorError rfl (hd := d_FloorError)) pa_nil (stp rfl)) (stp rfl)) (hn := n_isinstance) (hdb := d_isinstance) (he := stp rfl) (hpl := anp rfl)))) (pw_or1 (pt_not (pt_val (pe_callB (call_isinstE (mkd_m HH) mk er) (gl_of g_Lword_isinstance) T.b_isinstance PyProof.Rows.Boot.«isinstance» (pa_cons (pe_var (i := 0) (x := "_law_error") rfl (vis_of v_Lword__law_error) d__law_error e__law_error) (pa_cons (pe_bltn (v := .ty "ValueError") (gl_of g_Lword_ValueError) T.b_ValueError PyProof.Rows.Boot.«ValueError» rfl (hn := n_ValueError) (hd := d_ValueError)) pa_nil (stp rfl)) (stp rfl)) (hn := n_isinstance) (hdb := d_isinstance) (he := stp rfl) (hpl := anp rfl)))))))
 (pss_one (ps_expr (pe_bm PySem.F.plainAttrs_list PySem.F.slot_list_append PySem.F.type_list_append mt_append (pe_var (i := 2) (x := "_law_found") rfl (vis_of v_Lword__law_found) d__law_found e__law_found) (pa_cons pe_str pa_nil (stp rfl)))))
 pss_nil)
 (pss_one (ps_ret (pe_bm PySem.F.plainAttrs_str PySem.F.slot_str_join PySem.F.type_str_join mt_join pe_str (pa_cons (pe_var (i := 2) (x := "_law_found") rfl (vis_of v_Lword__law_found) d__law_found e__law_found) pa_nil (stp rfl))))))))))))))), ?_⟩
    refine tSeq_cut (fun σ H' => ∃ l, Same H H' ∧ PairsAt n 2 H' l ∧ σ = [some (.ref ea), some (.ref l), none]) (fun nx hk => ?_) ?_
    · walk_at "RD"
      refine ⟨_, rfl, _, si 0 _ rfl, by omega, fun a na => ⟨_, rfl, _, si 1 _ rfl, by omega, fun b nb => ⟨by omega, fun c nc => ?_⟩⟩⟩
      have S := ((same_new na).trans (same_new nb)).trans (same_new (o := HO.lst [V.ref a, V.ref b]) nc)
      refine hk _ _ ⟨c, S, PairsAt.add (m := 0) (ts := []) (us := [a, b]) rfl (fun i t e => by simp at e) S (fun i t e => ?_) upd_same, rfl⟩
      match i, e with
      | 0, e => cases e; exact (same_new nc) _ _ ((same_new nb) _ _ upd_same)
      | 1, e => cases e; exact (same_new nc) _ _ upd_same
      | (i + 2), e => simp at e
    rintro σ H1 ⟨l, s1, p1, rfl⟩
    refine tSeq_cut (fun σ H' => ∃ l, Same H H' ∧ PairsAt n 4 H' l ∧ σ = [some (.ref ea), some (.ref l), none]) (fun nx hk => ?_) ?_
    · walk_at "RD"
      obtain ⟨ts, t1, t2, t3⟩ := p1
      refine ⟨_, rfl, _, si 2 _ rfl, by omega, fun a na => ⟨_, rfl, _, si 3 _ rfl, by omega, fun b nb => ⟨by omega, fun c nc => ?_⟩⟩⟩
      have S := ((same_new na).trans (same_new nb)).trans (same_new (o := HO.lst [V.ref a, V.ref b]) nc)
      refine ⟨_, S _ _ t2, _, upd_same, by simp [t1]; omega, fun d nd => hk _ _ ⟨d, s1.trans (S.trans (same_new nd)), PairsAt.add (us := [a, b]) t1 t3 (S.trans (same_new nd)) (fun i t e => ?_) upd_same, rfl⟩⟩
      match i, e with
      | 0, e => cases e; exact (same_new nd) _ _ ((same_new nc) _ _ ((same_new nb) _ _ upd_same))
      | 1, e => cases e; exact (same_new nd) _ _ ((same_new nc) _ _ upd_same)
      | (i + 2), e => simp at e
    rintro σ H1 ⟨l, s1, p1, rfl⟩
    refine tSeq_cut (fun σ H' => ∃ l, Same H H' ∧ PairsAt n 6 H' l ∧ σ = [some (.ref ea), some (.ref l), none]) (fun nx hk => ?_) ?_
    · walk_at "RD"
      obtain ⟨ts, t1, t2, t3⟩ := p1
      refine ⟨_, rfl, _, si 4 _ rfl, by omega, fun a na => ⟨_, rfl, _, si 5 _ rfl, by omega, fun b nb => ⟨by omega, fun c nc => ?_⟩⟩⟩
      have S := ((same_new na).trans (same_new nb)).trans (same_new (o := HO.lst [V.ref a, V.ref b]) nc)
      refine ⟨_, S _ _ t2, _, upd_same, by simp [t1]; omega, fun d nd => hk _ _ ⟨d, s1.trans (S.trans (same_new nd)), PairsAt.add (us := [a, b]) t1 t3 (S.trans (same_new nd)) (fun i t e => ?_) upd_same, rfl⟩⟩
      match i, e with
      | 0, e => cases e; exact (same_new nd) _ _ ((same_new nc) _ _ ((same_new nb) _ _ upd_same))
      | 1, e => cases e; exact (same_new nd) _ _ ((same_new nc) _ _ upd_same)
      | (i + 2), e => simp at e
    rintro σ H1 ⟨l, s1, p1, rfl⟩
    refine tSeq_cut (fun σ H' => ∃ l, Same H H' ∧ PairsAt n 8 H' l ∧ σ = [some (.ref ea), some (.ref l), none]) (fun nx hk => ?_) ?_
    · walk_at "RD"
      obtain ⟨ts, t1, t2, t3⟩ := p1
      refine ⟨_, rfl, _, si 6 _ rfl, by omega, fun a na => ⟨_, rfl, _, si 7 _ rfl, by omega, fun b nb => ⟨by omega, fun c nc => ?_⟩⟩⟩
      have S := ((same_new na).trans (same_new nb)).trans (same_new (o := HO.lst [V.ref a, V.ref b]) nc)
      refine ⟨_, S _ _ t2, _, upd_same, by simp [t1]; omega, fun d nd => hk _ _ ⟨d, s1.trans (S.trans (same_new nd)), PairsAt.add (us := [a, b]) t1 t3 (S.trans (same_new nd)) (fun i t e => ?_) upd_same, rfl⟩⟩
      match i, e with
      | 0, e => cases e; exact (same_new nd) _ _ ((same_new nc) _ _ ((same_new nb) _ _ upd_same))
      | 1, e => cases e; exact (same_new nd) _ _ ((same_new nc) _ _ upd_same)
      | (i + 2), e => simp at e
    rintro σ H1 ⟨l, s1, p1, rfl⟩
    refine tSeq_cut (fun σ H' => ∃ l, Same H H' ∧ PairsAt n 10 H' l ∧ σ = [some (.ref ea), some (.ref l), none]) (fun nx hk => ?_) ?_
    · walk_at "RD"
      obtain ⟨ts, t1, t2, t3⟩ := p1
      refine ⟨_, rfl, _, si 8 _ rfl, by omega, fun a na => ⟨_, rfl, _, si 9 _ rfl, by omega, fun b nb => ⟨by omega, fun c nc => ?_⟩⟩⟩
      have S := ((same_new na).trans (same_new nb)).trans (same_new (o := HO.lst [V.ref a, V.ref b]) nc)
      refine ⟨_, S _ _ t2, _, upd_same, by simp [t1]; omega, fun d nd => hk _ _ ⟨d, s1.trans (S.trans (same_new nd)), PairsAt.add (us := [a, b]) t1 t3 (S.trans (same_new nd)) (fun i t e => ?_) upd_same, rfl⟩⟩
      match i, e with
      | 0, e => cases e; exact (same_new nd) _ _ ((same_new nc) _ _ ((same_new nb) _ _ upd_same))
      | 1, e => cases e; exact (same_new nd) _ _ ((same_new nc) _ _ upd_same)
      | (i + 2), e => simp at e
    rintro σ H1 ⟨l, s1, p1, rfl⟩
    refine tSeq_cut (fun σ H' => ∃ l, Same H H' ∧ PairsAt n 12 H' l ∧ σ = [some (.ref ea), some (.ref l), none]) (fun nx hk => ?_) ?_
    · walk_at "RD"
      obtain ⟨ts, t1, t2, t3⟩ := p1
      refine ⟨_, rfl, _, si 10 _ rfl, by omega, fun a na => ⟨_, rfl, _, si 11 _ rfl, by omega, fun b nb => ⟨by omega, fun c nc => ?_⟩⟩⟩
      have S := ((same_new na).trans (same_new nb)).trans (same_new (o := HO.lst [V.ref a, V.ref b]) nc)
      refine ⟨_, S _ _ t2, _, upd_same, by simp [t1]; omega, fun d nd => hk _ _ ⟨d, s1.trans (S.trans (same_new nd)), PairsAt.add (us := [a, b]) t1 t3 (S.trans (same_new nd)) (fun i t e => ?_) upd_same, rfl⟩⟩
      match i, e with
      | 0, e => cases e; exact (same_new nd) _ _ ((same_new nc) _ _ ((same_new nb) _ _ upd_same))
      | 1, e => cases e; exact (same_new nd) _ _ ((same_new nc) _ _ upd_same)
      | (i + 2), e => simp at e
    rintro σ H1 ⟨l, s1, p1, rfl⟩
    refine tSeq_cut (fun σ H' => ∃ l, Same H H' ∧ PairsAt n 14 H' l ∧ σ = [some (.ref ea), some (.ref l), none]) (fun nx hk => ?_) ?_
    · walk_at "RD"
      obtain ⟨ts, t1, t2, t3⟩ := p1
      refine ⟨_, rfl, _, si 12 _ rfl, by omega, fun a na => ⟨_, rfl, _, si 13 _ rfl, by omega, fun b nb => ⟨by omega, fun c nc => ?_⟩⟩⟩
      have S := ((same_new na).trans (same_new nb)).trans (same_new (o := HO.lst [V.ref a, V.ref b]) nc)
      refine ⟨_, S _ _ t2, _, upd_same, by simp [t1]; omega, fun d nd => hk _ _ ⟨d, s1.trans (S.trans (same_new nd)), PairsAt.add (us := [a, b]) t1 t3 (S.trans (same_new nd)) (fun i t e => ?_) upd_same, rfl⟩⟩
      match i, e with
      | 0, e => cases e; exact (same_new nd) _ _ ((same_new nc) _ _ ((same_new nb) _ _ upd_same))
      | 1, e => cases e; exact (same_new nd) _ _ ((same_new nc) _ _ upd_same)
      | (i + 2), e => simp at e
    rintro σ H1 ⟨l, s1, p1, rfl⟩
    refine tSeq_cut (fun σ H' => ∃ l, Same H H' ∧ PairsAt n 15 H' l ∧ σ = [some (.ref ea), some (.ref l), none]) (fun nx hk => ?_) ?_
    · walk_at "RD"
      obtain ⟨ts, t1, t2, t3⟩ := p1
      refine ⟨_, rfl, _, si 14 _ rfl, by omega, fun a na => ⟨by omega, fun c nc => ?_⟩⟩
      have S := (same_new na).trans (same_new (o := HO.lst [V.ref a]) nc)
      refine ⟨_, S _ _ t2, _, upd_same, by simp [t1]; omega, fun d nd => hk _ _ ⟨d, s1.trans (S.trans (same_new nd)), PairsAt.add (us := [a]) t1 t3 (S.trans (same_new nd)) (fun i t e => ?_) upd_same, rfl⟩⟩
      match i, e with
      | 0, e => cases e; exact (same_new nd) _ _ ((same_new nc) _ _ upd_same)
      | (i + 1), e => simp at e
    rintro σ H1 ⟨l, s1, p1, rfl⟩
    obtain ⟨ts, t1, t2, t3⟩ := p1
    refine tSeq_cut (fun σ H' => ∃ lq l, Same H H' ∧ H' l = some (.lst [V.str (words.getD n "")]) ∧ σ = [some (.ref ea), some (.ref lq), some (.ref l)]) (fun nx hk => ?_) ?_
    · walk_at "RD"
      have pr : ∀ t ∈ ts, ∃ i, ts[i]? = some t ∧ H1 t = some (.tup [.str (words.getD i ""), .bl (decide (i = n))]) := fun t ht => by
        obtain ⟨i, hi⟩ := List.mem_iff_getElem?.mp ht
        exact ⟨i, hi, t3 i t hi⟩
      refine ⟨⟨_, SqL.of t2⟩, comp_pairs (u := fst H1) (v := snd H1) (src_list (SqL.of t2)) (fun t ht => ?_) (fun t => tru (snd H1 t)) (fun t => fst H1 t) (fun t ht Q h => ?_) (fun t ht _ Q h => ?_) (by omega) (fun p hp => ?_)⟩
      · obtain ⟨i, _, e⟩ := pr t ht
        simp only [fst, snd, e]
        exact SqT.of e
      · obtain ⟨i, _, e⟩ := pr t ht
        walk_at "RD"
        simp only [snd, e, tru] at h ⊢
        first | exact ⟨_, rfl, h⟩ | exact h
      · walk_at "RD"
        exact h
      · have e := filt_one (p := fun t => tru (snd H1 t)) (f := fun t => fst H1 t) (g := fun i => V.str (words.getD i "")) (n := n) ts 0 (fun i t q => by
          have := t3 i t q
          simp [snd, fst, this, tru]) (Nat.zero_le _) (by omega)
        rw [e]
        exact hk _ _ ⟨_, p, s1.trans (same_new hp), upd_same, rfl⟩
    rintro σ H2 ⟨lq, l2, s2, p2, rfl⟩
    walk_at "RD"
    refine ⟨_, rfl, _, fe, ?_⟩
    rw [if_neg (by decide)]
    refine ⟨_, rfl, _, ve, ?_⟩
    rw [if_neg (by decide)]
    refine ⟨rfl, [words.getD n ""], SqL.of p2, ?_, ?_⟩
    · subst hn; decide +kernel
    · have e : Txt.join (Str.ofString "/") [words.getD n ""] = words.getD n "" := by subst hn; decide +kernel
      rw [e]
      exact hq _ s2
theorem sc_Lthing : FnScope ["_law_cell", "_law_rows", "_law_size", "_law_found"] ["_law_cell", "_law_rows"] (defScope s_Lthing) := ⟨rfl, rfl, rfl, by decide +kernel, rfl, by decide +kernel, by decide +kernel⟩
set_option maxHeartbeats 4000000 in
theorem ok_Lthing {fd : FuncData} (F : Fun K "_law_thing" "_law_thing" s_Lthing ad.Lthing fd) (T : Txt K mg ad) {fd_Lmixed : FuncData} (B_Lmixed : Binds K fd_Lmixed ["_law_cell", "_law_k"] []) (G_Lmixed : FnOk P w K mg base CX0 1 ad.Lmixed fd_Lmixed ["_law_cell", "_law_k"] (spMixed)) : FnOk P w K mg base CX0 2 ad.Lthing fd ["_law_cell", "_law_rows"] (spThing) := by
  refine F.ok sc_Lthing (fun vs H Q E h => ?_) (fun cdv A outer s H vs Q E HR h => ?_)
  · obtain ⟨c, rl, ws, k, rfl, _⟩ := h
    rfl
  · obtain ⟨c, rl, ws, k, rfl, c0, c1, hr, kw, lw, h1, h2⟩ := h
    have ND := sc_Lthing.nd
    have HU0 := HR.units0
    have HU := HR.units
    have hA := HR.hd
    have hz : (100000 : Nat) ≤ sizeLine := by rw [sizeLine_eq]; decide
    refine ⟨_, (pss_cons (ps_if (PW.pt (pw_and (pt_cmpR op_eq (pe_op op_mod (pe_var (i := 0) (x := "_law_cell") rfl (vis_of v_Lthing__law_cell) d__law_cell e__law_cell) pe_int) pe_int (nomark _)) (pw_and1 (pt_cmpR (op_neD HU) (pe_var (i := 1) (x := "_law_rows") rfl (vis_of v_Lthing__law_rows) d__law_rows e__law_rows) (pe_lst pa_nil) (nomark _)))))
 (pss_one (ps_ret (pe_ix ix_list (pe_var (i := 1) (x := "_law_rows") rfl (vis_of v_Lthing__law_rows) d__law_rows e__law_rows) (pe_op op_mod (pe_op op_fdiv (pe_var (i := 0) (x := "_law_cell") rfl (vis_of v_Lthing__law_cell) d__law_cell e__law_cell) pe_int) (pe_callB call_len_seq (gl_of g_Lthing_len) T.b_len PyProof.Rows.Boot.«len» (pa_cons (pe_var (i := 1) (x := "_law_rows") rfl (vis_of v_Lthing__law_rows) d__law_rows e__law_rows) pa_nil (stp rfl)) (hn := n_len) (hdb := d_len) (he := stp rfl) (hpl := anp rfl))) (fun _ _ => rfl))))
 pss_nil)
 (pss_cons (ps_set (i := 2) ND rfl (loc_of (Or.inr l_Lthing__law_size)) (pe_ix ix_list (pe_lst (pa_cons pe_int (pa_cons pe_int (pa_cons pe_int (pa_cons (pe_op op_pow pe_int pe_int) pa_nil (stp rfl)) (stp rfl)) (stp rfl)) (stp rfl))) (pe_op op_mod (pe_op op_fdiv (pe_var (i := 0) (x := "_law_cell") rfl (vis_of v_Lthing__law_cell) d__law_cell e__law_cell) pe_int) pe_int) (fun _ _ => rfl)))
 (pss_cons (ps_comp (i := 3) (CompScope.of (osc := defScope s_Lthing) (tn := ["_law_k"]) (cn := ["_law_size", "_law_cell"]) (caps := [2, 0]) rfl rfl (by decide +kernel) (by decide +kernel) (by decide +kernel) (by decide +kernel) rfl) (calm0 rfl) ND rfl l_Lthing__law_found (pi_range1 (gl_of g_Lthing_range) T.b_range (pa_cons (pe_op op_add pe_int (pe_op op_mod (pe_op op_fdiv (pe_var (i := 0) (x := "_law_cell") rfl (vis_of v_Lthing__law_cell) d__law_cell e__law_cell) pe_int) pe_int)) pa_nil (stp rfl)) (st1 rfl))
 (fun _ _ _ _ _ => (pg_name (i := 0) (show (["_law_k", "_law_size", "_law_cell"] : List Str).Nodup by decide +kernel) rfl (Or.inl rfl))) (fun _ _ _ _ _ => pts_nil) (fun _ _ _ _ _ => (pe_op op_sub (pe_op op_mod (pe_call G_Lmixed (HR.mono (by decide)) (by rfl) T.mg_Lmixed T.k_Lmixed B_Lmixed .nil pass0 (pa_cons (pv 2) (pa_cons (pv 0) pa_nil (stp rfl)) (stp rfl)) (hdb := d__law_mixed) (he := stp rfl) (hpl := anp rfl)) (pv 1)) (pe_op op_mul (pe_op op_mod (pe_op op_fdiv (pv 2) pe_int) pe_int) pe_int))) (hsw := by rfl))
 (pss_one (ps_ret (pe_callTy call_tuple_of (gl_of g_Lthing_tuple) T.b_tuple PyProof.Rows.Boot.«tuple» (pa_cons (pe_var (i := 3) (x := "_law_found") rfl (vis_of v_Lthing__law_found) d__law_found e__law_found) pa_nil (stp rfl)) (hn := n_tuple) (hdb := d_tuple) (he := stp rfl) (hpl := anp rfl))))))), ?_⟩
    refine tSeq_cut (fun σ H' => Same H H' ∧ σ = [some (V.int c), some (V.ref rl), none, none]) (fun nx hk => ?_) ?_
    · walk_at "RD"
      refine ⟨by omega, ?_⟩
      split
      · refine ⟨Nat.zero_le _, fun p np => ?_⟩
        have S := same_new (o := HO.lst []) np
        refine ⟨_, den_rows (S _ _ hr) (keysAt_same S kw), _, den_nil upd_same, shaped_rows _, shaped_rows _, ?_⟩
        rw [eqv_rows_nil]
        split
        · rename_i ne
          have l0 : 0 < ws.length := by
            cases ws with
            | nil => cases ne
            | cons _ _ => simp
          have lm : ((ws.map V.ref).length : Int) = (ws.length : Int) := by simp
          obtain ⟨j, ej, hj⟩ : ∃ j : Nat, c / 5 % ((ws.map V.ref).length : Int) = (j : Int) ∧ j < ws.length := by
            have a1 := Int.emod_nonneg (c / 5) (b := ((ws.map V.ref).length : Int)) (by omega)
            have a2 := Int.emod_lt_of_pos (c / 5) (b := ((ws.map V.ref).length : Int)) (by omega)
            exact ⟨(c / 5 % ((ws.map V.ref).length : Int)).toNat, by omega, by omega⟩
          refine ⟨⟨by decide, by decide⟩, _, .inl (SqL.of (S _ _ hr)), by omega, _, SqL.of (S _ _ hr), _, ?_, h1 _ S ws[j] (List.getElem_mem hj)⟩
          rw [ej]
          exact at_ref (List.getElem?_eq_getElem hj)
        · exact hk _ _ ⟨S, rfl⟩
      · exact hk _ _ ⟨Same.refl _, rfl⟩
    rintro σ H1 ⟨s1, rfl⟩
    refine tSeq_cut (fun σ H' => ∃ z : Int, Same H1 H' ∧ 0 < z ∧ σ = [some (V.int c), some (V.ref rl), some (V.int z), none]) (fun nx hk => ?_) ?_
    · walk_at "RD"
      refine ⟨⟨by decide, by decide, by decide⟩, by omega, fun p np => ⟨⟨by decide, by decide⟩, by omega, _, SqL.of upd_same, ?_⟩⟩
      have hm : ∃ z : Int, atI [V.int 7, V.int 7, V.int 100, V.int (10 ^ Int.toNat 15)] (c / 5 % 4) = some (V.int z) ∧ 0 < z := by
        have h : c / 5 % 4 = 0 ∨ c / 5 % 4 = 1 ∨ c / 5 % 4 = 2 ∨ c / 5 % 4 = 3 := by omega
        rcases h with h | h | h | h <;> rw [h]
        · exact ⟨7, rfl, by decide⟩
        · exact ⟨7, rfl, by decide⟩
        · exact ⟨100, rfl, by decide⟩
        · exact ⟨_, rfl, by decide⟩
      obtain ⟨z, e, z0⟩ := hm
      exact ⟨_, e, hk _ _ ⟨z, same_new np, z0, rfl⟩⟩
    rintro σ H2 ⟨z, s2, z0, rfl⟩
    walk_at "RD"
    refine ⟨⟨by decide, by decide⟩, by omega, by omega, by omega, comp_rng (n := (1 + c / 40 % 3).toNat) (fun i ys H' => Same H2 H' ∧ ∃ zs : List Int, ys = zs.map V.int ∧ zs.length = i) ⟨Same.refl _, [], rfl, rfl⟩ ?_ ?_⟩
    · rintro i ys H' hi ⟨s3, zs, rfl, lz⟩
      walk_at "RD"
      refine ⟨c, _, rfl, c0, c1, by omega, by omega, fun r r0 r1 => ?_⟩
      exact ⟨r, rfl, z0, ⟨by decide, by decide⟩, by omega, .inr ⟨by omega, by omega⟩, by rw [List.length_map]; omega, s3, zs ++ [_], by rw [List.map_append]; rfl, by simp [lz]⟩
    · rintro ys H' ⟨s3, zs, rfl, lz⟩
      refine ⟨by rw [List.length_map]; omega, fun D nD => ⟨_, .inl ⟨SqL.of upd_same, fun t nt => ?_⟩⟩⟩
      have S := s1.trans (s2.trans (s3.trans (same_new (o := HO.lst (zs.map V.int)) nD)))
      exact h2 t zs _ (S.trans (same_new nt)) (S.free nt) upd_same ⟨fun e => by rw [e, List.length_nil] at lz; omega, by omega⟩
theorem sc_Ltold : FnScope ["_law_heap", "_law_way", "_law_error"] ["_law_heap", "_law_way"] (defScope s_Ltold) := ⟨rfl, rfl, rfl, by decide +kernel, rfl, by decide +kernel, by decide +kernel⟩
set_option maxHeartbeats 4000000 in
theorem ok_Ltold {fd : FuncData} (F : Fun K "_law_told" "_law_told" s_Ltold ad.Ltold fd) (T : Txt K mg ad) {fd_Heap_least : FuncData} (B_Heap_least : Binds K fd_Heap_least ["self"] []) (G_Heap_least : FnOk P w K mg base (CXE P w) 1 ad.Heap_least fd_Heap_least ["self"] (spLeast ad)) {fd_Heap_take : FuncData} (B_Heap_take : Binds K fd_Heap_take ["self"] []) (G_Heap_take : FnOk P w K mg base (CXE P w) 3 ad.Heap_take fd_Heap_take ["self"] (spTake ad)) {fd_Lword : FuncData} (B_Lword : Binds K fd_Lword ["_law_error"] []) (GM_Lword : ∀ {ea C : Addr} {dx : Option Addr} {ob : Obj}, MkO C dx ob → FnOkM P w K mg base ea ob 1 ad.Lword fd_Lword ["_law_error"] (spWord ad K ea C dx)) : FnOk P w K mg base CX0 5 ad.Ltold fd ["_law_heap", "_law_way"] (spTold ad) := by
  refine F.ok sc_Ltold (fun vs H Q E h => ?_) (fun cdv A outer s H vs Q E HR h => ?_)
  · obtain ⟨hp, hl, hs, k, w, rfl, _⟩ := h
    rfl
  · obtain ⟨hp, hl, hs, k, w, rfl, hw, hh, hk, ok, lh, q1, q2, q3⟩ := h
    have ND := sc_Ltold.nd
    have HU0 := HR.units0
    have HU := HR.units
    have hA := HR.hd
    have hz : (100000 : Nat) ≤ sizeLine := by rw [sizeLine_eq]; decide
    refine ⟨_, (pss_one (ps_tryAs (i := 2) ND rfl l_Ltold__law_error rfl rfl (gl_of g_Ltold_FloorError) T.mg_FloorError d_FloorError (fun pins EE WE XB => (pss_cons (ps_if (pt_cmpR op_eq (pe_var (i := 1) (x := "_law_way") rfl (vis_of v_Ltold__law_way) d__law_way e__law_way) pe_int (nomark _))
 (pss_one (ps_ret (pe_meth0X (pe_var (i := 0) (x := "_law_heap") rfl (vis_of v_Ltold__law_heap) d__law_heap e__law_heap) T.cl_Heap T.m_Heap_least G_Heap_least (HR.mono (by decide)) B_Heap_least .nil XB)))
 pss_nil)
 (pss_one (ps_ret (pe_meth0X (pe_var (i := 0) (x := "_law_heap") rfl (vis_of v_Ltold__law_heap) d__law_heap e__law_heap) T.cl_Heap T.m_Heap_take G_Heap_take (HR.mono (by decide)) B_Heap_take .nil XB)))))
 (fun pins ea C' dx ob mk => (pss_one (ps_ret (pe_lst (pa_cons (pe_callM (GM_Lword mk) mkd_suite (HR.m.mono (by decide)) (gl_of g_Ltold__law_word) T.mg_Lword T.k_Lword B_Lword (pa_cons (pe_var (i := 2) (x := "_law_error") rfl (vis_of v_Ltold__law_error) d__law_error e__law_error) pa_nil (stp rfl)) (hdb := d__law_word) (he := stp rfl) (hpl := anp rfl)) pa_nil (stp rfl)))))))), ?_⟩
    obtain ⟨⟨dx, e1⟩, e2⟩ := id hh
    walk_at "RD"
    refine ⟨fun σ' cls dx H' => σ' = [some (V.ref hp), some (V.int w), none] ∧ cls = .ref ad.C_Empty ∧ dx = none ∧ H' = H ∧ hs = [], ?_, ?_⟩
    · rcases hw with rfl | rfl
      · rw [if_pos rfl]
        refine ⟨_, _, e1, h_no hl (by decide +kernel), hp, hl, hs, rfl, hh, fun z => ⟨rfl, rfl, rfl, rfl, z⟩, fun r us e => q2 rfl r (by simp [e]) fun t ht => ?_⟩
        obtain ⟨i, hi⟩ := List.getElem?_of_mem ht
        exact ok.least (by simp [e]) i t hi
      · rw [if_neg (by decide)]
        exact ⟨_, _, e1, h_no hl (by decide +kernel), hp, hl, hs, k, rfl, hh, hk, lh, ok, fun z => ⟨rfl, rfl, rfl, rfl, z⟩, fun r us pu le ho => q3 rfl r us pu le ho⟩
    · rintro σ' cls dx H' ⟨rfl, rfl, rfl, rfl, z⟩
      exact ⟨_, rfl, T.xm_Empty_FloorError, fun ea ne => ⟨_, rfl, 6, rfl, rfl, says_Empty T, rfl, fun H1 s => ⟨by omega, fun p np => q1 z p _ (s.trans (same_new np)) (s.free np) upd_same⟩⟩⟩
theorem sc_Lis_heap : FnScope ["_law_found", "_law_rows", "_law_k", "_law_thing_here"] ["_law_found", "_law_rows"] (defScope s_Lis_heap) := ⟨rfl, rfl, rfl, by decide +kernel, rfl, by decide +kernel, by decide +kernel⟩
set_option maxHeartbeats 4000000 in
theorem ok_Lis_heap {fd : FuncData} (F : Fun K "_law_is_heap" "_law_is_heap" s_Lis_heap ad.Lis_heap fd) (T : Txt K mg ad) {fd_Lwhole : FuncData} (B_Lwhole : Binds K fd_Lwhole ["_law_thing_here"] []) (G_Lwhole : FnOk P w K mg base CX0 1 ad.Lwhole fd_Lwhole ["_law_thing_here"] (spWhole K)) : FnOk P w K mg base CX0 2 ad.Lis_heap fd ["_law_found", "_law_rows"] (spIsHeap K) := by
  refine F.ok sc_Lis_heap (fun vs H Q E h => ?_) (fun cdv A outer s H vs Q E HR h => ?_)
  · obtain ⟨f, rl, hs, ws, k, rfl, _⟩ := h
    rfl
  · obtain ⟨f, rl, hs, ws, k, rfl, hf, hr, kh, kw, nh, nw, ok, pm, lh, hq⟩ := h
    have ND := sc_Lis_heap.nd
    have HU0 := HR.units0
    have HU := HR.units
    have hA := HR.hd
    have hz : (100000 : Nat) ≤ sizeLine := by rw [sizeLine_eq]; decide
    refine ⟨_, (pss_cons (ps_if (PW.pt (pw_or (pt_not (pt_val (pe_callB call_isinst (gl_of g_Lis_heap_isinstance) T.b_isinstance PyProof.Rows.Boot.«isinstance» (pa_cons (pe_var (i := 0) (x := "_law_found") rfl (vis_of v_Lis_heap__law_found) d__law_found e__law_found) (pa_cons (pe_bltn (v := .ty "list") (gl_of g_Lis_heap_list) T.b_list PyProof.Rows.Boot.«list» rfl (hn := n_list) (hd := d_list)) pa_nil (stp rfl)) (stp rfl)) (hn := n_isinstance) (hdb := d_isinstance) (he := stp rfl) (hpl := anp rfl)))) (pw_or1 (pt_cmpR (op_neD HU) (pe_callB call_sortedA (gl_of g_Lis_heap_sorted) T.b_sorted PyProof.Rows.Boot.«sorted» (pa_cons (pe_var (i := 0) (x := "_law_found") rfl (vis_of v_Lis_heap__law_found) d__law_found e__law_found) pa_nil (stp rfl)) (hn := n_sorted) (hdb := d_sorted) (he := stp rfl) (hpl := anp rfl)) (pe_callB call_sortedA (gl_of g_Lis_heap_sorted) T.b_sorted PyProof.Rows.Boot.«sorted» (pa_cons (pe_var (i := 1) (x := "_law_rows") rfl (vis_of v_Lis_heap__law_rows) d__law_rows e__law_rows) pa_nil (stp rfl)) (hn := n_sorted) (hdb := d_sorted) (he := stp rfl) (hpl := anp rfl)) (nomark _)))))
 (pss_one (ps_ret pe_bl))
 pss_nil)
 (pss_cons (ps_for PassesOwn.never (calm0 rfl) (pi_range2 (gl_of g_Lis_heap_range) T.b_range (pa_cons pe_int (pa_cons (pe_callB call_len_seq (gl_of g_Lis_heap_len) T.b_len PyProof.Rows.Boot.«len» (pa_cons (pe_var (i := 0) (x := "_law_found") rfl (vis_of v_Lis_heap__law_found) d__law_found e__law_found) pa_nil (stp rfl)) (hn := n_len) (hdb := d_len) (he := stp rfl) (hpl := anp rfl)) pa_nil (stp rfl)) (stp rfl)) (st2 rfl rfl) (st1 rfl)) (pg_name (i := 2) ND rfl (loc_of (Or.inl l_Lis_heap__law_k)))
 (pss_one (ps_if (pt_cmpR (op_ltT HU0) (pe_ix ix_list (pe_var (i := 0) (x := "_law_found") rfl (vis_of v_Lis_heap__law_found) d__law_found e__law_found) (pe_var (i := 2) (x := "_law_k") rfl (vis_of v_Lis_heap__law_k) d__law_k e__law_k) (fun _ _ => rfl)) (pe_ix ix_list (pe_var (i := 0) (x := "_law_found") rfl (vis_of v_Lis_heap__law_found) d__law_found e__law_found) (pe_op op_fdiv (pe_op op_sub (pe_var (i := 2) (x := "_law_k") rfl (vis_of v_Lis_heap__law_k) d__law_k e__law_k) pe_int) pe_int) (fun _ _ => rfl)) (nomark _))
 (pss_one (ps_ret pe_bl))
 pss_nil)))
 (pss_cons (ps_for PassesOwn.never (calm0 rfl) (pi_list (pe_var (i := 0) (x := "_law_found") rfl (vis_of v_Lis_heap__law_found) d__law_found e__law_found)) (pg_name (i := 3) ND rfl (loc_of (Or.inl l_Lis_heap__law_thing_here)))
 (pss_one (ps_if (PW.pt (pw_or (pt_not (pt_val (pe_callB call_isinst (gl_of g_Lis_heap_isinstance) T.b_isinstance PyProof.Rows.Boot.«isinstance» (pa_cons (pe_var (i := 3) (x := "_law_thing_here") rfl (vis_of v_Lis_heap__law_thing_here) d__law_thing_here e__law_thing_here) (pa_cons (pe_bltn (v := .ty "tuple") (gl_of g_Lis_heap_tuple) T.b_tuple PyProof.Rows.Boot.«tuple» rfl (hn := n_tuple) (hd := d_tuple)) pa_nil (stp rfl)) (stp rfl)) (hn := n_isinstance) (hdb := d_isinstance) (he := stp rfl) (hpl := anp rfl)))) (pw_or1 (pt_cmpR (op_neD HU) (pe_comp (CompScope.of (osc := defScope s_Lis_heap) (tn := ["_law_number"]) (cn := []) (caps := []) rfl rfl (by decide +kernel) (by decide +kernel) (by decide +kernel) (by decide +kernel) rfl) (calm0 rfl)  (pi_tup (pe_var (i := 3) (x := "_law_thing_here") rfl (vis_of v_Lis_heap__law_thing_here) d__law_thing_here e__law_thing_here))
 (fun _ _ _ _ _ => (pg_name (i := 0) (show (["_law_number"] : List Str).Nodup by decide +kernel) rfl (Or.inl rfl))) (fun _ _ _ _ _ => (pts_one (pt_not (pt_val (pe_call G_Lwhole (HR.mono (by decide)) (by rfl) T.mg_Lwhole T.k_Lwhole B_Lwhole .nil pass0 (pa_cons (pv 0) pa_nil (stp rfl)) (hdb := d__law_whole) (he := stp rfl) (hpl := anp rfl)))))) (fun _ _ _ _ _ => (pv 0))) (pe_lst pa_nil) (nomark _)))))
 (pss_one (ps_ret pe_bl))
 pss_nil)))
 (pss_one (ps_ret pe_bl))))), ?_⟩
    have lw : hs.length = ws.length := by have := pm.length_eq; simpa using this
    refine tSeq_cut (fun σ H' => Same H H' ∧ σ = [some (V.ref f), some (V.ref rl), none, none]) (fun nx hk => ?_) ?_
    · walk_at "RD"
      refine ⟨_, .lst hf, true, rfl, ?_⟩
      rw [if_neg (by decide)]
      refine ⟨hs, SqL.of hf, by omega, k, kh, (fun x hx => (nh x hx).1), fun us pu su l nl => ?_⟩
      have S := same_new (o := HO.lst (us.map V.ref)) nl
      refine ⟨ws, SqL.of (S _ _ hr), by omega, k, fun t ht => S _ _ (kw t ht), (fun x hx => (nw x hx).1), fun vs pv sv m nm => ?_⟩
      have S2 := S.trans (same_new (o := HO.lst (vs.map V.ref)) nm)
      refine ⟨_, den_rows (k := k) ((same_new nm) _ _ upd_same) (fun t ht => S2 _ _ (kh t (pu.mem_iff.mp ht))), _, den_rows (k := k) upd_same (fun t ht => S2 _ _ (kw t (pv.mem_iff.mp ht))), shaped_rows _, shaped_rows _, ?_⟩
      have e : us.map k = vs.map k := sorted_eq ((pu.map k).trans (pm.trans (pv.symm.map k))) (List.pairwise_map.mpr su) (List.pairwise_map.mpr sv)
      rw [e, eqv_same (shaped_rows _), if_neg (by decide)]
      exact hk _ _ ⟨S2, rfl⟩
    rintro σ H1 ⟨s1, rfl⟩
    have hf1 := s1 _ _ hf
    have kh1 := keysAt_same s1 kh
    refine tSeq_cut (fun σ H' => ∃ x2 : Option V, H' = H1 ∧ σ = [some (V.ref f), some (V.ref rl), x2, none]) (fun nx hk => ?_) ?_
    · simp only [tNever, tFor_eq, iRng1, iRng2, gTup, gTupL, gCons, gNil, tRevT, rRep01, rCatT, rCat, rRep, rJoin, tLRng2, tMethV, tDisp, tPairs, tYes, tDGet, rLtT, tAug, ipI, cxKm, cxKs, cxKt, tTry, tTryAs, onlyRet, rRemT, tRevL, tCallX, tMethX, tMakeX, tRaise, noW, tAsg, tOp, tUn, tVar, tC, rI0, rI, rU, tTest, tIfS, tNext, tRet, tRetN, tDrop, gName, tCB, tCons, tNil, tAndV, tOrV, tNotV, tAnd, tOr, tNot, tB, tIf, tChain, tCall, tBM, tBM0, tLst, tTup, tNoPart, tPart, tSlS, tSl, tBreak, tCont, rSlA, rSlL, rPopAt, rIn, rIxL, rIxT, rIxS, rEq, rNe, scal, rAppend, rPop, rIndex, tFld, sFld, tMeth, tMake, tDNewK, gSub, rSetL, tJoinRev, tComp, sComp, capσ, iStr, iList, iTup, rEqD, cxK, cxA, cxKc, cxAc, L2.start, List.map_cons, List.map_nil, List.length_cons, List.length_nil, List.replicate_succ, List.replicate_zero, List.cons_append, List.nil_append, List.append_nil, Nat.reduceAdd, Nat.reduceSub, List.set_cons_zero, List.set_cons_succ, List.getElem?_cons_zero, List.getElem?_cons_succ, Option.getD_some, Option.getD_none, Option.some.injEq, V.int.injEq, V.ref.injEq, V.bl.injEq, V.str.injEq, V.ty.injEq, exists_eq_left', exists_eq_left, exists_and_left, and_assoc, List.cons.injEq, and_true, true_and, decide_eq_true_eq, Bool.not_eq_true', decide_eq_false_iff_not, Bool.false_eq_true, if_false, if_true, reduceIte, Bool.not_true, Bool.not_false, beq_self_eq_true]
      refine ⟨_, .inl (SqL.of hf1), by omega, by omega, by omega, by rw [List.length_map]; omega, for_range (n := (((hs.map V.ref).length : Int) - 1).toNat) (fun j σ H' => ∃ x2 : Option V, H' = H1 ∧ σ = [some (V.ref f), some (V.ref rl), x2, none]) ⟨none, rfl, rfl⟩ ?_ ?_⟩
      · rintro j σ H' hj ⟨x2, rfl, rfl⟩
        have hj' : j + 1 < hs.length := by rw [List.length_map] at hj; omega
        have c1 : (1 : Int) + (j : Int) = ((j + 1 : Nat) : Int) := by omega
        have c2 : ((1 : Int) + (j : Int) - 1) / 2 = ((j / 2 : Nat) : Int) := by omega
        obtain ⟨x, hx⟩ : ∃ x, hs[j + 1]? = some x := ⟨_, List.getElem?_eq_getElem hj'⟩
        obtain ⟨y, hy⟩ : ∃ y, hs[j / 2]? = some y := ⟨_, List.getElem?_eq_getElem (by omega)⟩
        have le : Le (k y) (k x) := ok (j + 1) x y (by omega) hx (by rw [show (j + 1 - 1) / 2 = j / 2 by omega]; exact hy)
        walk_at "RD"
        refine ⟨_, SqL.of hf1, _, by rw [c1]; exact at_ref hx, ⟨by decide, by decide⟩, _, SqL.of hf1, _, by rw [c2]; exact at_ref hy, x, rfl, y, rfl, _, SqT.of (kh1 _ (List.mem_of_getElem? hx)), _, SqT.of (kh1 _ (List.mem_of_getElem? hy)), ?_⟩
        rw [if_neg (by rw [show HT.lexLt (k x) (k y) = false from le]; decide)]
        exact ⟨_, rfl⟩
      · rintro σ H' ⟨x2, rfl, rfl⟩
        exact hk _ _ ⟨x2, rfl, rfl⟩
    rintro σ H1 ⟨x2, rfl, rfl⟩
    refine tSeq_cut (fun σ H' => ∃ x3 : Option V, Same H1 H' ∧ σ = [some (V.ref f), some (V.ref rl), x2, x3]) (fun nx hk => ?_) ?_
    · simp only [tNever, tFor_eq, iRng1, iRng2, gTup, gTupL, gCons, gNil, tRevT, rRep01, rCatT, rCat, rRep, rJoin, tLRng2, tMethV, tDisp, tPairs, tYes, tDGet, rLtT, tAug, ipI, cxKm, cxKs, cxKt, tTry, tTryAs, onlyRet, rRemT, tRevL, tCallX, tMethX, tMakeX, tRaise, noW, tAsg, tOp, tUn, tVar, tC, rI0, rI, rU, tTest, tIfS, tNext, tRet, tRetN, tDrop, gName, tCB, tCons, tNil, tAndV, tOrV, tNotV, tAnd, tOr, tNot, tB, tIf, tChain, tCall, tBM, tBM0, tLst, tTup, tNoPart, tPart, tSlS, tSl, tBreak, tCont, rSlA, rSlL, rPopAt, rIn, rIxL, rIxT, rIxS, rEq, rNe, scal, rAppend, rPop, rIndex, tFld, sFld, tMeth, tMake, tDNewK, gSub, rSetL, tJoinRev, tComp, sComp, capσ, iStr, iList, iTup, rEqD, cxK, cxA, cxKc, cxAc, L2.start, List.map_cons, List.map_nil, List.length_cons, List.length_nil, List.replicate_succ, List.replicate_zero, List.cons_append, List.nil_append, List.append_nil, Nat.reduceAdd, Nat.reduceSub, List.set_cons_zero, List.set_cons_succ, List.getElem?_cons_zero, List.getElem?_cons_succ, Option.getD_some, Option.getD_none, Option.some.injEq, V.int.injEq, V.ref.injEq, V.bl.injEq, V.str.injEq, V.ty.injEq, exists_eq_left', exists_eq_left, exists_and_left, and_assoc, List.cons.injEq, and_true, true_and, decide_eq_true_eq, Bool.not_eq_true', decide_eq_false_iff_not, Bool.false_eq_true, if_false, if_true, reduceIte, Bool.not_true, Bool.not_false, beq_self_eq_true]
      refine ⟨⟨_, SqL.of hf1⟩, for_list (K := K) (a := f) (xs := hs.map V.ref) (fun j σ H' => ∃ x3 : Option V, Same H1 H' ∧ σ = [some (V.ref f), some (V.ref rl), x2, x3]) ⟨none, Same.refl _, rfl⟩ ?_ ?_ ?_⟩
      · rintro j σ H' _ ⟨_, s2, _⟩
        exact SqL.of (s2 _ _ hf1)
      · rintro j y σ H' hy ⟨x3, s2, rfl⟩
        rw [List.getElem?_map] at hy
        obtain ⟨t, ht, rfl⟩ := Option.map_eq_some_iff.mp hy
        have kt := s2 _ _ (kh1 t (List.mem_of_getElem? ht))
        walk_at "RD"
        refine ⟨_, .tup kt, true, rfl, ?_⟩
        rw [if_neg (by decide)]
        have lk := (nh t (List.mem_of_getElem? ht)).2
        refine ⟨⟨_, SqT.of kt⟩, comp_pure (src_tup (SqT.of kt)) (fun _ => false) (fun v => v) (fun y hy Q' h => ?_) (fun y hy z => absurd z (by simp)) (by rw [List.length_map]; omega) (fun D hD => ⟨by omega, fun z nz => ?_⟩)⟩
        · obtain ⟨i, _, rfl⟩ := List.mem_map.mp hy
          walk_at "RD"
          exact ⟨_, rfl, ⟨_, .int _⟩, true, rfl, h⟩
        · have nDz : D ≠ z := fun e => by rw [e, upd_same] at nz; cases nz
          have eD : upd (upd H' D (HO.lst (List.map (fun v => v) (List.filter (fun x => false) (List.map V.int (k t)))))) z (HO.lst []) D = some (.lst []) := by
            rw [upd_ne nDz, upd_same]
            simp
          refine ⟨_, .lst (SqL.of eD) .nil, _, .lst (SqL.of upd_same) .nil, rfl, rfl, ?_⟩
          rw [if_neg (by decide)]
          exact ⟨s2.trans ((same_new hD).trans (same_new nz)), _, rfl⟩
      · rintro σ H' ⟨x3, s2, rfl⟩
        exact hk _ _ ⟨x3, s2, rfl⟩
    rintro σ H2 ⟨x3, s2, rfl⟩
    walk_at "RD"
    exact hq _ (s1.trans s2)
theorem sc_Lstands : FnScope ["_law_heap", "_law_rows", "_law_cell", "_law_kept", "_law_k", "_law_which", "_law_found"] ["_law_heap", "_law_rows", "_law_cell", "_law_kept"] (defScope s_Lstands) := ⟨rfl, rfl, rfl, by decide +kernel, rfl, by decide +kernel, by decide +kernel⟩
set_option maxHeartbeats 4000000 in
theorem ok_Lstands {fd : FuncData} (F : Fun K "_law_stands" "_law_stands" s_Lstands ad.Lstands fd) (T : Txt K mg ad) {fd_Lwhole : FuncData} (B_Lwhole : Binds K fd_Lwhole ["_law_thing_here"] []) (G_Lwhole : FnOk P w K mg base CX0 1 ad.Lwhole fd_Lwhole ["_law_thing_here"] (spWhole K)) {fd_Heap_size : FuncData} (B_Heap_size : Binds K fd_Heap_size ["self"] []) (G_Heap_size : FnOk P w K mg base CX0 1 ad.Heap_size fd_Heap_size ["self"] (spSize ad)) {fd_Heap_lying : FuncData} (B_Heap_lying : Binds K fd_Heap_lying ["self"] []) (G_Heap_lying : FnOk P w K mg base CX0 1 ad.Heap_lying fd_Heap_lying ["self"] (spLying ad)) {fd_Lis_heap : FuncData} (B_Lis_heap : Binds K fd_Lis_heap ["_law_found", "_law_rows"] []) (G_Lis_heap : FnOk P w K mg base CX0 2 ad.Lis_heap fd_Lis_heap ["_law_found", "_law_rows"] (spIsHeap K)) {fd_Ltold : FuncData} (B_Ltold : Binds K fd_Ltold ["_law_heap", "_law_way"] []) (G_Ltold : FnOk P w K mg base CX0 5 ad.Ltold fd_Ltold ["_law_heap", "_law_way"] (spTold ad)) : FnOk P w K mg base CX0 6 ad.Lstands fd ["_law_heap", "_law_rows", "_law_cell", "_law_kept"] (spStands ad K) := by
  refine F.ok sc_Lstands (fun vs H Q E h => ?_) (fun cdv A outer s H vs Q E HR h => ?_)
  · obtain ⟨hp, hl, rl, kp, D, n, m, c, rfl, _⟩ := h
    rfl
  · obtain ⟨hp, hl, rl, kp, D, n, m, c, rfl, c0, c1, hw, hkp, kD, k1, k2, hD, n1, m1, hq⟩ := h
    have ND := sc_Lstands.nd
    have HU0 := HR.units0
    have HU := HR.units
    have hA := HR.hd
    have hz : (100000 : Nat) ≤ sizeLine := by rw [sizeLine_eq]; decide
    refine ⟨_, (pss_cons (ps_for PassesOwn.never (calm0 rfl) (pi_range1 (gl_of g_Lstands_range) T.b_range (pa_cons pe_int pa_nil (stp rfl)) (st1 rfl)) (pg_name (i := 4) ND rfl (loc_of (Or.inl l_Lstands__law_k)))
 (pss_cons (ps_set (i := 5) ND rfl (loc_of (Or.inl l_Lstands__law_which)) (pe_op op_mod (pe_op op_add (pe_var (i := 2) (x := "_law_cell") rfl (vis_of v_Lstands__law_cell) d__law_cell e__law_cell) (pe_op op_mul (pe_var (i := 4) (x := "_law_k") rfl (vis_of v_Lstands__law_k) d__law_k e__law_k) (pe_op op_add pe_int (pe_op op_mod (pe_op op_fdiv (pe_var (i := 2) (x := "_law_cell") rfl (vis_of v_Lstands__law_cell) d__law_cell e__law_cell) pe_int) pe_int)))) pe_int))
 (pss_cons (ps_if (PW.pt (pw_and (pt_cmpR op_eq (pe_var (i := 5) (x := "_law_which") rfl (vis_of v_Lstands__law_which) d__law_which e__law_which) pe_int (nomark _)) (pw_and1 (PW.pt (pw_or (pt_not (pt_val (pe_call G_Lwhole (HR.mono (by decide)) (gl_of g_Lstands__law_whole) T.mg_Lwhole T.k_Lwhole B_Lwhole .nil pass0 (pa_cons (pe_meth0 (pe_var (i := 0) (x := "_law_heap") rfl (vis_of v_Lstands__law_heap) d__law_heap e__law_heap) T.cl_Heap T.m_Heap_size G_Heap_size (HR.mono (by decide)) B_Heap_size .nil pass0) pa_nil (stp rfl)) (hdb := d__law_whole) (he := stp rfl) (hpl := anp rfl)))) (pw_or1 (pt_cmpR op_ne (pe_meth0 (pe_var (i := 0) (x := "_law_heap") rfl (vis_of v_Lstands__law_heap) d__law_heap e__law_heap) T.cl_Heap T.m_Heap_size G_Heap_size (HR.mono (by decide)) B_Heap_size .nil pass0) (pe_callB call_len_seq (gl_of g_Lstands_len) T.b_len PyProof.Rows.Boot.«len» (pa_cons (pe_var (i := 1) (x := "_law_rows") rfl (vis_of v_Lstands__law_rows) d__law_rows e__law_rows) pa_nil (stp rfl)) (hn := n_len) (hdb := d_len) (he := stp rfl) (hpl := anp rfl)) (nomark _))))))))
 (pss_one (ps_ret pe_bl))
 pss_nil)
 (pss_cons (ps_if (pt_cmpR op_eq (pe_var (i := 5) (x := "_law_which") rfl (vis_of v_Lstands__law_which) d__law_which e__law_which) pe_int (nomark _))
 (pss_cons (ps_set (i := 6) ND rfl (loc_of (Or.inl l_Lstands__law_found)) (pe_meth0 (pe_var (i := 0) (x := "_law_heap") rfl (vis_of v_Lstands__law_heap) d__law_heap e__law_heap) T.cl_Heap T.m_Heap_lying G_Heap_lying (HR.mono (by decide)) B_Heap_lying .nil pass0))
 (pss_cons (ps_if (pt_not (pt_val (pe_call G_Lis_heap (HR.mono (by decide)) (gl_of g_Lstands__law_is_heap) T.mg_Lis_heap T.k_Lis_heap B_Lis_heap .nil pass0 (pa_cons (pe_var (i := 6) (x := "_law_found") rfl (vis_of v_Lstands__law_found) d__law_found e__law_found) (pa_cons (pe_var (i := 1) (x := "_law_rows") rfl (vis_of v_Lstands__law_rows) d__law_rows e__law_rows) pa_nil (stp rfl)) (stp rfl)) (hdb := d__law_is_heap) (he := stp rfl) (hpl := anp rfl))))
 (pss_one (ps_ret pe_bl))
 pss_nil)
 (pss_cons (ps_expr (pe_bm PySem.F.plainAttrs_list PySem.F.slot_list_append PySem.F.type_list_append mt_append (pe_var (i := 6) (x := "_law_found") rfl (vis_of v_Lstands__law_found) d__law_found e__law_found) (pa_cons (pe_tup (pa_cons (pe_op op_mod (pe_var (i := 2) (x := "_law_cell") rfl (vis_of v_Lstands__law_cell) d__law_cell e__law_cell) pe_int) pa_nil (stp rfl))) pa_nil (stp rfl))))
 (pss_one (ps_expr (pe_bm PySem.F.plainAttrs_list PySem.F.slot_list_append PySem.F.type_list_append mt_append (pe_var (i := 3) (x := "_law_kept") rfl (vis_of v_Lstands__law_kept) d__law_kept e__law_kept) (pa_cons (pe_tup (pa_cons (pe_var (i := 6) (x := "_law_found") rfl (vis_of v_Lstands__law_found) d__law_found e__law_found) (pa_cons (pe_callTy call_list_of (gl_of g_Lstands_list) T.b_list PyProof.Rows.Boot.«list» (pa_cons (pe_var (i := 6) (x := "_law_found") rfl (vis_of v_Lstands__law_found) d__law_found e__law_found) pa_nil (stp rfl)) (hn := n_list) (hdb := d_list) (he := stp rfl) (hpl := anp rfl)) pa_nil (stp rfl)) (stp rfl))) pa_nil (stp rfl))))))))
 pss_nil)
 (pss_one (ps_if (PW.pt (pw_and (pt_cmpR op_eq (pe_var (i := 5) (x := "_law_which") rfl (vis_of v_Lstands__law_which) d__law_which e__law_which) pe_int (nomark _)) (pw_and1 (pt_cmpR (op_neD HU) (pe_call G_Ltold (HR.mono (by decide)) (gl_of g_Lstands__law_told) T.mg_Ltold T.k_Ltold B_Ltold .nil pass0 (pa_cons (pe_var (i := 0) (x := "_law_heap") rfl (vis_of v_Lstands__law_heap) d__law_heap e__law_heap) (pa_cons pe_int pa_nil (stp rfl)) (stp rfl)) (hdb := d__law_told) (he := stp rfl) (hpl := anp rfl)) (pe_ifExp (pt_cmpR (op_eqD HU) (pe_var (i := 1) (x := "_law_rows") rfl (vis_of v_Lstands__law_rows) d__law_rows e__law_rows) (pe_lst pa_nil) (nomark _)) (pe_lst (pa_cons pe_str pa_nil (stp rfl))) (pe_callB (call_minT rfl (hu1 HU)) (gl_of g_Lstands_min) T.b_min PyProof.Rows.Boot.«min» (pa_cons (pe_var (i := 1) (x := "_law_rows") rfl (vis_of v_Lstands__law_rows) d__law_rows e__law_rows) pa_nil (stp rfl)) (hn := n_min) (hdb := d_min) (he := stp rfl) (hpl := anp rfl))) (nomark _)))))
 (pss_one (ps_ret pe_bl))
 pss_nil))))))
 (pss_one (ps_ret pe_bl))), ?_⟩
    obtain ⟨hs, ws, k, w1, lh⟩ := hw
    have lw := w1.len
    refine tSeq_cut (fun σ H' => Ch [kp] H H' ∧ KPs D H' kp (m + 3)) (fun nx hk => ?_) (fun σ H' z => hq _ z.1 z.2)
    simp only [tNever, tFor_eq, iRng1, iRng2, gTup, gTupL, gCons, gNil, tRevT, rRep01, rCatT, rCat, rRep, rJoin, tLRng2, tMethV, tDisp, tPairs, tYes, tDGet, rLtT, tAug, ipI, cxKm, cxKs, cxKt, tTry, tTryAs, onlyRet, rRemT, tRevL, tCallX, tMethX, tMakeX, tRaise, noW, tAsg, tOp, tUn, tVar, tC, rI0, rI, rU, tTest, tIfS, tNext, tRet, tRetN, tDrop, gName, tCB, tCons, tNil, tAndV, tOrV, tNotV, tAnd, tOr, tNot, tB, tIf, tChain, tCall, tBM, tBM0, tLst, tTup, tNoPart, tPart, tSlS, tSl, tBreak, tCont, rSlA, rSlL, rPopAt, rIn, rIxL, rIxT, rIxS, rEq, rNe, scal, rAppend, rPop, rIndex, tFld, sFld, tMeth, tMake, tDNewK, gSub, rSetL, tJoinRev, tComp, sComp, capσ, iStr, iList, iTup, rEqD, cxK, cxA, cxKc, cxAc, L2.start, List.map_cons, List.map_nil, List.length_cons, List.length_nil, List.replicate_succ, List.replicate_zero, List.cons_append, List.nil_append, List.append_nil, Nat.reduceAdd, Nat.reduceSub, List.set_cons_zero, List.set_cons_succ, List.getElem?_cons_zero, List.getElem?_cons_succ, Option.getD_some, Option.getD_none, Option.some.injEq, V.int.injEq, V.ref.injEq, V.bl.injEq, V.str.injEq, V.ty.injEq, exists_eq_left', exists_eq_left, exists_and_left, and_assoc, List.cons.injEq, and_true, true_and, decide_eq_true_eq, Bool.not_eq_true', decide_eq_false_iff_not, Bool.false_eq_true, if_false, if_true, reduceIte, Bool.not_true, Bool.not_false, beq_self_eq_true]
    refine ⟨by omega, by omega, for_range (n := (3 : Int).toNat) (fun j σ H' => ∃ x4 x5 x6 : Option V, Ch [kp] H H' ∧ KPs D H' kp (m + j) ∧ (∀ d ∈ D, H' d ≠ none) ∧ σ = [some (V.ref hp), some (V.ref rl), some (V.int c), some (V.ref kp), x4, x5, x6]) ⟨none, none, none, chS (Same.refl _), hkp, hD, rfl⟩ ?_ ?_⟩
    · rintro j σ H1 hj ⟨x4, x5, x6, ch, hk1, hD1, rfl⟩
      have w2 := w1.ch ch (by simpa using fun z => k1 z.symm) (by simpa using fun z => k2 z.symm)
      obtain ⟨⟨dx, e1⟩, e2⟩ := id w2.hh
      simp only [gName, List.set_cons_succ, List.set_cons_zero]
      refine tSeq_cut (fun σ H' => ∃ q : Int, H' = H1 ∧ σ = [some (V.ref hp), some (V.ref rl), some (V.int c), some (V.ref kp), some (V.int (0 + (j : Int))), some (V.int q), x6]) (fun nx hk => ?_) ?_
      · walk_at "RD"
        exact ⟨⟨by decide, by decide⟩, by omega, .inl (by omega), by omega, hk _ _ ⟨_, rfl, rfl⟩⟩
      rintro σ H1 ⟨q, rfl, rfl⟩
      refine tSeq_cut (fun σ H' => H' = H1 ∧ σ = [some (V.ref hp), some (V.ref rl), some (V.int c), some (V.ref kp), some (V.int (0 + (j : Int))), some (V.int q), x6]) (fun nx hk => ?_) ?_
      · walk_at "RD"
        split
        · refine ⟨_, _, e1, h_no hl (by decide +kernel), hp, hl, hs, rfl, w2.hh, _, rfl, ⟨_, .int _⟩, true, rfl, ?_⟩
          rw [if_neg (by decide)]
          refine ⟨_, _, e1, h_no hl (by decide +kernel), hp, hl, hs, rfl, w2.hh, _, .inl (SqL.of w2.at_), rfl, ?_⟩
          rw [if_neg (by simp [lw])]
          exact hk _ _ ⟨rfl, rfl⟩
        · exact hk _ _ ⟨rfl, rfl⟩
      rintro σ H1 ⟨rfl, rfl⟩
      refine tSeq_cut (fun σ H' => ∃ x6 : Option V, Ch [kp] H1 H' ∧ KPs D H' kp (m + (j + 1)) ∧ (∀ d ∈ D, H' d ≠ none) ∧ σ = [some (V.ref hp), some (V.ref rl), some (V.int c), some (V.ref kp), some (V.int (0 + (j : Int))), some (V.int q), x6]) (fun nx hk => ?_) ?_
      · walk_at "RD"
        split
        · refine ⟨_, _, e1, h_no hl (by decide +kernel), hp, hl, hs, rfl, w2.hh, by omega, fun r nr => ?_⟩
          have S := same_new (o := HO.lst (hs.map V.ref)) nr
          refine ⟨r, rl, hs, ws, k, rfl, upd_same, S _ _ w2.at_, keysAt_same S w2.kh, keysAt_same S w2.kw, w2.nh, w2.nw, w2.ok, w2.pm, by omega, fun H2 s2 => ?_⟩
          refine ⟨true, rfl, ?_⟩
          rw [if_neg (by decide)]
          have hr2 := s2 _ _ (upd_same (H := H1) (a := r) (o := HO.lst (hs.map V.ref)))
          obtain ⟨ps, kp1, lp, pp⟩ := hk1
          have sA : Same H1 H2 := S.trans s2
          refine ⟨.inl ⟨rfl, _, SqL.of hr2⟩, by decide, by omega, fun p np => ?_⟩
          have sB : Same H1 (upd (upd H2 p (HO.tup [V.int (c % 7)])) r (HO.lst (hs.map V.ref ++ [V.ref p]))) := same_upd (sA.trans (same_new np)) nr
          have pr : p ≠ r := fun e => by rw [e, hr2] at np; cases np
          have hpB : upd (upd H2 p (HO.tup [V.int (c % 7)])) r (HO.lst (hs.map V.ref ++ [V.ref p])) p = some (HO.tup [V.int (c % 7)]) := by rw [upd_ne pr, upd_same]
          have hrB := upd_same (H := upd H2 p (HO.tup [V.int (c % 7)])) (a := r) (o := HO.lst (hs.map V.ref ++ [V.ref p]))
          have xp : ∀ x ∈ hs, x ≠ p := fun x hx e => by
            have := sA _ _ (w2.kh x hx)
            rw [e, np] at this
            cases this
          refine ⟨r, rfl, _, (same_new np) _ _ hr2, by rw [List.length_map]; omega, ?_⟩
          generalize upd (upd H2 p (HO.tup [V.int (c % 7)])) r (HO.lst (hs.map V.ref ++ [V.ref p])) = Ha at sB hpB hrB ⊢
          refine ⟨.inl ⟨rfl, _, SqL.of (sB _ _ kp1)⟩, r, rfl, _, .inl (SqL.of hrB), fun l nl => ⟨by omega, fun q nq => ?_⟩⟩
          have sC : Same Ha (upd (upd Ha l (HO.lst (hs.map V.ref ++ [V.ref p]))) q (HO.tup [V.ref r, V.ref l])) := (same_new nl).trans (same_new nq)
          have hlC : upd (upd Ha l (HO.lst (hs.map V.ref ++ [V.ref p]))) q (HO.tup [V.ref r, V.ref l]) l = some (HO.lst (hs.map V.ref ++ [V.ref p])) := (same_new nq) _ _ upd_same
          have hqC := upd_same (H := upd Ha l (HO.lst (hs.map V.ref ++ [V.ref p]))) (a := q) (o := HO.tup [V.ref r, V.ref l])
          have fl := sB.free nl
          have sD := sB.trans sC
          generalize upd (upd Ha l (HO.lst (hs.map V.ref ++ [V.ref p]))) q (HO.tup [V.ref r, V.ref l]) = Hc at sC sD hlC hqC ⊢
          have kpc := sD _ _ kp1
          have chF : Ch [kp] Hc (upd Hc kp (HO.lst (ps.map V.ref ++ [V.ref q]))) := Ch.upd kpc (by simp)
          refine ⟨_, kpc, by rw [List.length_map]; omega, hk _ _ ⟨_, (chS sD).trans chF, ⟨ps ++ [q], by rw [upd_same, List.map_append]; rfl, by rw [List.length_append]; simp only [List.length_cons, List.length_nil]; omega, fun x hx => ?_⟩, fun d hd => some_upd (some_same sD (hD1 d hd)), rfl⟩⟩
          rcases List.mem_append.mp hx with hx | hx
          · exact (pp x hx).ch ((chS sD).trans chF) (fun y hy => by rw [List.mem_singleton.mp hy]; exact kD)
          · rw [List.mem_singleton.mp hx]
            have rD : r ∉ D := fun z => hD1 _ z nr
            have lD : l ∉ D := fun z => hD1 _ z fl
            have rk : r ∉ [kp] := fun z => rD (by rw [List.mem_singleton.mp z]; exact kD)
            have lk : l ∉ [kp] := fun z => lD (by rw [List.mem_singleton.mp z]; exact kD)
            refine ⟨r, l, hs ++ [p], fun x => if x = p then [c % 7] else k x, chF.tup hqC, rD, lD, by rw [List.map_append]; exact chF.lst (sC _ _ hrB) rk, by rw [List.map_append]; exact chF.lst hlC lk, fun x hx => ?_, by rw [List.length_append]; simp only [List.length_cons, List.length_nil]; omega⟩
            rcases List.mem_append.mp hx with hx | hx
            · dsimp only
              rw [if_neg (xp x hx)]
              exact chF.tup (sD _ _ (w2.kh x hx))
            · dsimp only
              rw [List.mem_singleton.mp hx, if_pos rfl]
              exact chF.tup (sC _ _ hpB)
        · exact hk _ _ ⟨x6, chS (Same.refl _), hk1.mono (by omega), hD1, rfl⟩
      rintro σ H2 ⟨x6, ch2, hk2, hD2, rfl⟩
      have w3 := w2.ch ch2 (by simpa using fun z => k1 z.symm) (by simpa using fun z => k2 z.symm)
      walk_at "RD"
      split
      · refine ⟨hp, hl, hs, k, 0, rfl, .inl rfl, w3.hh, w3.kh, w3.ok, by omega, fun z l H3 s nl el => ?_, fun _ r hr le => ?_, fun z => absurd z (by decide)⟩
        · refine ⟨by omega, fun p np => ?_⟩
          have S := s.trans (same_new (o := HO.lst []) np)
          refine ⟨_, den_rows (S _ _ w3.at_) (keysAt_same S w3.kw), _, den_nil upd_same, shaped_rows _, shaped_rows _, ?_⟩
          rw [eqv_rows_nil]
          have w0 : ws = [] := List.eq_nil_of_length_eq_zero (by rw [← lw, z]; rfl)
          rw [w0, if_pos (by rfl)]
          refine ⟨by omega, fun q nq => ?_⟩
          have S2 := S.trans (same_new (o := HO.lst [V.str (Str.ofString "empty")]) nq)
          refine ⟨_, den_empty (((same_new np).trans (same_new nq)) _ _ el), _, den_empty upd_same, shaped_empty, shaped_empty, ?_⟩
          rw [eqv_same shaped_empty, if_neg (by decide)]
          exact ⟨(ch.trans ch2).trans (chS S2), hk2.ch (chS (D := []) S2) (fun x hx => by cases hx) (by simp), fun d hd => some_same S2 (hD2 d hd), _, rfl⟩
        · refine ⟨by omega, fun p np => ?_⟩
          have S := same_new (o := HO.lst []) np
          refine ⟨_, den_rows (S _ _ w3.at_) (keysAt_same S w3.kw), _, den_nil upd_same, shaped_rows _, shaped_rows _, ?_⟩
          rw [eqv_rows_nil]
          have w0 : ws ≠ [] := fun e => by
            rw [e] at lw
            rw [List.eq_nil_of_length_eq_zero lw] at hr
            cases hr
          rw [if_neg (by cases ws <;> simp_all)]
          refine ⟨ws, SqL.of (S _ _ w3.at_), w0, k, keysAt_same S w3.kw, fun m hm lm => ⟨_, den_intsT (SqT.of (S _ _ (w3.kh r hr))), _, den_intsT (SqT.of (S _ _ (w3.kw m hm))), shaped_intsT _, shaped_intsT _, ?_⟩⟩
          rw [least_same w3.pm hr hm le lm, eqv_same (shaped_intsT _), if_neg (by decide)]
          exact ⟨(ch.trans ch2).trans (chS S), hk2.ch (chS (D := []) S) (fun x hx => by cases hx) (by simp), fun d hd => some_same S (hD2 d hd), _, rfl⟩
      · exact ⟨ch.trans ch2, hk2, hD2, _, rfl⟩
    · rintro σ H' ⟨x4, x5, x6, ch, hk1, hD1, rfl⟩
      exact hk _ _ ⟨ch, hk1⟩
theorem sc_Ldone : FnScope ["_law_heap", "_law_rows", "_law_cell", "_law_due", "_law_thing_here"] ["_law_heap", "_law_rows", "_law_cell"] (defScope s_Ldone) := ⟨rfl, rfl, rfl, by decide +kernel, rfl, by decide +kernel, by decide +kernel⟩
set_option maxHeartbeats 4000000 in
theorem ok_Ldone {fd : FuncData} (F : Fun K "_law_done" "_law_done" s_Ldone ad.Ldone fd) (T : Txt K mg ad) {fd_Ltold : FuncData} (B_Ltold : Binds K fd_Ltold ["_law_heap", "_law_way"] []) (G_Ltold : FnOk P w K mg base CX0 5 ad.Ltold fd_Ltold ["_law_heap", "_law_way"] (spTold ad)) {fd_Lthing : FuncData} (B_Lthing : Binds K fd_Lthing ["_law_cell", "_law_rows"] []) (G_Lthing : FnOk P w K mg base CX0 2 ad.Lthing fd_Lthing ["_law_cell", "_law_rows"] (spThing)) {fd_Heap_put : FuncData} (B_Heap_put : Binds K fd_Heap_put ["self", "thing"] []) (G_Heap_put : FnOk P w K mg base CX0 3 ad.Heap_put fd_Heap_put ["self", "thing"] (spHPut ad)) : FnOk P w K mg base CX0 6 ad.Ldone fd ["_law_heap", "_law_rows", "_law_cell"] (spDone ad K) := by
  refine F.ok sc_Ldone (fun vs H Q E h => ?_) (fun cdv A outer s H vs Q E HR h => ?_)
  · obtain ⟨hp, hl, rl, n, c, rfl, _⟩ := h
    rfl
  · obtain ⟨hp, hl, rl, n, c, rfl, c0, c1, hw, ne, n1, hq⟩ := h
    have ND := sc_Ldone.nd
    have HU0 := HR.units0
    have HU := HR.units
    have hA := HR.hd
    have hz : (100000 : Nat) ≤ sizeLine := by rw [sizeLine_eq]; decide
    refine ⟨_, (pss_cons (ps_if (pt_cmpR op_eq (pe_op op_mod (pe_var (i := 2) (x := "_law_cell") rfl (vis_of v_Ldone__law_cell) d__law_cell e__law_cell) pe_int) pe_int (nomark _))
 (pss_cons (ps_set (i := 3) ND rfl (loc_of (Or.inl l_Ldone__law_due)) (pe_ifExp (pt_cmpR (op_eqD HU) (pe_var (i := 1) (x := "_law_rows") rfl (vis_of v_Ldone__law_rows) d__law_rows e__law_rows) (pe_lst pa_nil) (nomark _)) (pe_lst (pa_cons pe_str pa_nil (stp rfl))) (pe_callB (call_minT rfl (hu1 HU)) (gl_of g_Ldone_min) T.b_min PyProof.Rows.Boot.«min» (pa_cons (pe_var (i := 1) (x := "_law_rows") rfl (vis_of v_Ldone__law_rows) d__law_rows e__law_rows) pa_nil (stp rfl)) (hn := n_min) (hdb := d_min) (he := stp rfl) (hpl := anp rfl))))
 (pss_cons (ps_if (pt_cmpR (op_neD HU) (pe_call G_Ltold (HR.mono (by decide)) (gl_of g_Ldone__law_told) T.mg_Ltold T.k_Ltold B_Ltold .nil pass0 (pa_cons (pe_var (i := 0) (x := "_law_heap") rfl (vis_of v_Ldone__law_heap) d__law_heap e__law_heap) (pa_cons pe_int pa_nil (stp rfl)) (stp rfl)) (hdb := d__law_told) (he := stp rfl) (hpl := anp rfl)) (pe_var (i := 3) (x := "_law_due") rfl (vis_of v_Ldone__law_due) d__law_due e__law_due) (nomark _))
 (pss_one (ps_ret pe_bl))
 pss_nil)
 (pss_cons (ps_if (pt_cmpR (op_neD HU) (pe_var (i := 1) (x := "_law_rows") rfl (vis_of v_Ldone__law_rows) d__law_rows e__law_rows) (pe_lst pa_nil) (nomark _))
 (pss_one (ps_expr (pe_bm PySem.F.plainAttrs_list PySem.F.slot_list_remove PySem.F.type_list_remove (mt_remT (hu65 HR)) (pe_var (i := 1) (x := "_law_rows") rfl (vis_of v_Ldone__law_rows) d__law_rows e__law_rows) (pa_cons (pe_var (i := 3) (x := "_law_due") rfl (vis_of v_Ldone__law_due) d__law_due e__law_due) pa_nil (stp rfl)))))
 pss_nil)
 (pss_one (ps_ret pe_bl)))))
 pss_nil)
 (pss_cons (ps_set (i := 4) ND rfl (loc_of (Or.inl l_Ldone__law_thing_here)) (pe_call G_Lthing (HR.mono (by decide)) (gl_of g_Ldone__law_thing) T.mg_Lthing T.k_Lthing B_Lthing .nil pass0 (pa_cons (pe_op op_fdiv (pe_var (i := 2) (x := "_law_cell") rfl (vis_of v_Ldone__law_cell) d__law_cell e__law_cell) pe_int) (pa_cons (pe_var (i := 1) (x := "_law_rows") rfl (vis_of v_Ldone__law_rows) d__law_rows e__law_rows) pa_nil (stp rfl)) (stp rfl)) (hdb := d__law_thing) (he := stp rfl) (hpl := anp rfl)))
 (pss_cons (ps_expr (pe_bm PySem.F.plainAttrs_list PySem.F.slot_list_append PySem.F.type_list_append mt_append (pe_var (i := 1) (x := "_law_rows") rfl (vis_of v_Ldone__law_rows) d__law_rows e__law_rows) (pa_cons (pe_var (i := 4) (x := "_law_thing_here") rfl (vis_of v_Ldone__law_thing_here) d__law_thing_here e__law_thing_here) pa_nil (stp rfl))))
 (pss_one (ps_ret (pe_cmpR op_isN (pe_meth (pe_var (i := 0) (x := "_law_heap") rfl (vis_of v_Ldone__law_heap) d__law_heap e__law_heap) T.cl_Heap T.m_Heap_put G_Heap_put (HR.mono (by decide)) B_Heap_put .nil pass0 (pa_cons (pe_var (i := 4) (x := "_law_thing_here") rfl (vis_of v_Ldone__law_thing_here) d__law_thing_here e__law_thing_here) pa_nil (stp rfl)) (hst := stp rfl) (hpl := anp rfl)) pe_non (nomark _))))))), ?_⟩
    obtain ⟨hs, ws, k, w1, lh⟩ := hw
    have lw := w1.len
    obtain ⟨⟨dx, e1⟩, e2⟩ := id w1.hh
    refine tSeq_cut (fun σ H' => H' = H ∧ σ = [some (V.ref hp), some (V.ref rl), some (V.int c), none, none]) (fun nx hk => ?_) ?_
    · walk_at "RD"
      refine ⟨by omega, ?_⟩
      split
      · refine ⟨by omega, fun p np => ?_⟩
        have S := same_new (o := HO.lst []) np
        refine ⟨_, den_rows (S _ _ w1.at_) (keysAt_same S w1.kw), _, den_nil upd_same, shaped_rows _, shaped_rows _, ?_⟩
        rw [eqv_rows_nil]
        by_cases w0 : ws = []
        · have h0 : hs = [] := List.eq_nil_of_length_eq_zero (by rw [lw, w0]; rfl)
          rw [if_pos (by rw [w0]; rfl)]
          refine ⟨by omega, fun q nq => ?_⟩
          have S2 := S.trans (same_new (o := HO.lst [V.str (Str.ofString "empty")]) nq)
          refine ⟨hp, hl, hs, k, 1, rfl, .inr rfl, (chS (D := []) S2).heap w1.hh (by simp), keysAt_same S2 w1.kh, w1.ok, by omega, fun _ l H3 s nl el => ?_, fun z => absurd z (by decide), fun _ r us pu => absurd pu.length_eq (by rw [h0]; simp)⟩
          refine ⟨_, den_empty el, _, den_empty (s _ _ upd_same), shaped_empty, shaped_empty, ?_⟩
          rw [eqv_same shaped_empty, if_neg (by decide)]
          refine ⟨by omega, fun p' np' => ?_⟩
          have S3 := (S2.trans s).trans (same_new (o := HO.lst []) np')
          refine ⟨_, den_rows (S3 _ _ w1.at_) (keysAt_same S3 w1.kw), _, den_nil upd_same, shaped_rows _, shaped_rows _, ?_⟩
          rw [eqv_rows_nil, if_neg (by rw [w0]; exact fun z => by cases z)]
          exact hq _ (chS S3) ⟨hs, ws, k, w1.ch (chS (D := []) S3) (by simp) (by simp), by omega⟩
        · have we : (ws.map k).isEmpty = false := by cases ws <;> simp_all
          rw [if_neg (by rw [we]; decide)]
          refine ⟨ws, SqL.of (S _ _ w1.at_), w0, k, keysAt_same S w1.kw, fun r hr lr => ⟨hp, hl, hs, k, 1, rfl, .inr rfl, (chS (D := []) S).heap w1.hh (by simp), keysAt_same S w1.kh, w1.ok, by omega, fun z => absurd (List.eq_nil_of_length_eq_zero (by rw [← lw, z]; rfl)) w0, fun z => absurd z (by decide), fun _ u us pu lu ho => ?_⟩⟩
          have hu := pu.mem_iff.mp List.mem_cons_self
          have kur : k u = k r := least_same w1.pm hu hr lu lr
          have chH : Ch [hl, rl] H (upd (upd H p (HO.lst [])) hl (HO.lst (us.map V.ref))) := (chS S).trans (Ch.upd (S _ _ e2) (by simp))
          have rl1 : upd (upd H p (HO.lst [])) hl (HO.lst (us.map V.ref)) rl = some (HO.lst (ws.map V.ref)) := by rw [upd_ne ne.symm]; exact S _ _ w1.at_
          have hl1 := upd_same (H := upd H p (HO.lst [])) (a := hl) (o := HO.lst (us.map V.ref))
          generalize upd (upd H p (HO.lst [])) hl (HO.lst (us.map V.ref)) = H1 at chH rl1 hl1 ⊢
          refine ⟨_, den_intsT (SqT.of (chH.tup (w1.kh u hu))), _, den_intsT (SqT.of (chH.tup (w1.kw r hr))), shaped_intsT _, shaped_intsT _, ?_⟩
          rw [kur, eqv_same (shaped_intsT _), if_neg (by decide)]
          refine ⟨by omega, fun q nq => ?_⟩
          have S3 := same_new (o := HO.lst []) nq
          refine ⟨_, den_rows (S3 _ _ rl1) (keysAt_same S3 (chH.keys w1.kw)), _, den_nil upd_same, shaped_rows _, shaped_rows _, ?_⟩
          rw [eqv_rows_nil, if_pos we]
          refine ⟨.inl ⟨rfl, _, SqL.of (S3 _ _ rl1)⟩, ws, S3 _ _ rl1, hr, k, keysAt_same S3 (chH.keys w1.kw), fun v vs ev pv => ?_⟩
          have chF : Ch [hl, rl] H (upd (upd H1 q (HO.lst [])) rl (HO.lst (vs.map V.ref))) := chH.trans ((chS S3).trans (Ch.upd (S3 _ _ rl1) (by simp)))
          have lu' := pu.length_eq
          rw [List.length_cons] at lu'
          exact hq _ chF ⟨us, vs, k, ⟨⟨⟨dx, chF.ins e1⟩, by rw [upd_ne ne]; exact S3 _ _ hl1⟩, upd_same, chF.keys fun x hx => w1.kh x (pu.mem_iff.mp (List.mem_cons_of_mem _ hx)), chF.keys fun x hx => w1.kw x (pv.mem_iff.mpr (List.mem_cons_of_mem _ hx)), fun x hx => w1.nh x (pu.mem_iff.mp (List.mem_cons_of_mem _ hx)), fun x hx => w1.nw x (pv.mem_iff.mpr (List.mem_cons_of_mem _ hx)), ho, perm_less w1.pm pu pv (kur.trans ev.symm)⟩, by omega⟩
      · exact hk _ _ ⟨rfl, rfl⟩
    rintro σ H ⟨rfl, rfl⟩
    walk_at "RD"
    have step : ∀ (t : Addr) (zs : List Int) (H1 : Hp), Same H H1 → H1 t = some (.tup (zs.map V.int)) → Kz zs → (∀ x, x ∈ hs ∨ x ∈ ws → x = t → k x = zs) →
        tyV K "list" (V.ref rl) H1 ∧ ∃ x_1, H1 rl = some (HO.lst x_1) ∧ x_1.length < sizeLine ∧ ∃ x_2 x_3, upd H1 rl (HO.lst (x_1 ++ [V.ref t])) hp = some (HO.ins ad.C_Heap x_2 x_3) ∧ List.lookup (Str.ofString "put") x_3 = none ∧ spHPut ad [V.ref hp, V.ref t] (upd H1 rl (HO.lst (x_1 ++ [V.ref t]))) (fun x H1 => Q (V.bl (decide (x = V.non))) H1) E0 := by
      intro t zs H1 s ht kz hc
      have rl1 := s _ _ w1.at_
      have ch1 : Ch [hl, rl] H1 (upd H1 rl (HO.lst (ws.map V.ref ++ [V.ref t]))) := Ch.upd rl1 (by simp)
      have hl1 : upd H1 rl (HO.lst (ws.map V.ref ++ [V.ref t])) hl = some (HO.lst (hs.map V.ref)) := by rw [upd_ne ne]; exact s _ _ e2
      have rl2 := upd_same (H := H1) (a := rl) (o := HO.lst (ws.map V.ref ++ [V.ref t]))
      refine ⟨.inl ⟨rfl, _, SqL.of rl1⟩, _, rl1, by rw [List.length_map]; omega, ?_⟩
      generalize upd H1 rl (HO.lst (ws.map V.ref ++ [V.ref t])) = H2 at ch1 hl1 rl2 ⊢
      have ch2 : Ch [hl, rl] H H2 := (chS s).trans ch1
      have ek : ∀ x, x ∈ hs ∨ x ∈ ws → (if x = t then zs else k x) = k x := fun x hx => by
        split
        · rename_i e
          exact (hc x hx e).symm
        · rfl
      have et : (if t = t then zs else k t) = zs := if_pos rfl
      obtain ⟨k', ek'⟩ : ∃ k' : Addr → List Int, k' = fun x => if x = t then zs else k x := ⟨_, rfl⟩
      have fk : ∀ x, x ∈ hs ∨ x ∈ ws → k' x = k x := fun x hx => by rw [ek']; exact ek x hx
      have ft : k' t = zs := by rw [ek']; exact et
      have kt : H2 t = some (.tup ((k' t).map V.int)) := by rw [ft]; exact ch1.tup ht
      have kh' : KeysAt H2 k' hs := fun x hx => by rw [fk x (.inl hx)]; exact ch2.tup (w1.kh x hx)
      have kw' : KeysAt H2 k' ws := fun x hx => by rw [fk x (.inr hx)]; exact ch2.tup (w1.kw x hx)
      refine ⟨_, _, ch2.ins e1, h_no hl (by decide +kernel), hp, hl, t, hs, k', rfl, ⟨⟨dx, ch2.ins e1⟩, hl1⟩, fun x hx => ?_, by omega, hok_congr w1.ok fun x hx => fk x (.inl hx), fun us pu ho => ?_⟩
      · rcases List.mem_cons.mp hx with e | hx
        · rw [e]; exact kt
        · exact kh' x hx
      have ch3 : Ch [hl, rl] H2 (upd H2 hl (HO.lst (us.map V.ref))) := Ch.upd hl1 (by simp)
      have lu := pu.length_eq
      rw [List.length_cons] at lu
      have m1 : hs.map k' = hs.map k := List.map_congr_left fun x hx => fk x (.inl hx)
      have m2 : ws.map k' = ws.map k := List.map_congr_left fun x hx => fk x (.inr hx)
      have z : Q (V.bl true) (upd H2 hl (HO.lst (us.map V.ref))) := hq _ (ch2.trans ch3) ⟨us, ws ++ [t], k', ⟨⟨⟨dx, ch3.ins (ch2.ins e1)⟩, upd_same⟩, by rw [upd_ne ne.symm, rl2, List.map_append]; rfl, fun x hx => ?_, fun x hx => ?_, fun x hx => ?_, fun x hx => ?_, ho, ?_⟩, by omega⟩
      · exact z
      · rcases List.mem_cons.mp (pu.mem_iff.mp hx) with e | hx
        · rw [e]; exact ch3.tup kt
        · exact ch3.tup (kh' x hx)
      · rcases List.mem_append.mp hx with hx | hx
        · exact ch3.tup (kw' x hx)
        · rw [List.mem_singleton.mp hx]; exact ch3.tup kt
      · rcases List.mem_cons.mp (pu.mem_iff.mp hx) with e | hx
        · rw [e, ft]; exact kz
        · rw [fk x (.inl hx)]; exact w1.nh x hx
      · rcases List.mem_append.mp hx with hx | hx
        · rw [fk x (.inr hx)]; exact w1.nw x hx
        · rw [List.mem_singleton.mp hx, ft]; exact kz
      · refine (pu.map k').trans ?_
        rw [List.map_cons, List.map_append, m1, m2]
        exact (w1.pm.cons _).trans (List.perm_append_singleton _ _).symm
    exact ⟨⟨by decide, by decide⟩, c / 3, rl, ws, k, rfl, by omega, by omega, w1.at_, w1.kw, by omega, (fun H' s t ht => step t (k t) H' s (s _ _ (w1.kw t ht)) (w1.nw t ht) (fun x _ e => by rw [e])), fun t zs H' s nt ht kz => step t zs H' s ht kz (fun x hx e => by
      have : H x ≠ none := by
        rcases hx with hx | hx
        · rw [w1.kh x hx]; exact fun z => by cases z
        · rw [w1.kw x hx]; exact fun z => by cases z
      exact absurd (by rw [e]; exact nt) this)⟩
theorem sc_law : FnScope ["_law_script", "_law_heaps", "_law_both", "_law_kept", "_law_k", "_law_cell", "_law_which", "_law_at_here"] ["_law_script"] (defScope s_law) := ⟨rfl, rfl, rfl, by decide +kernel, rfl, by decide +kernel, by decide +kernel⟩
set_option maxHeartbeats 4000000 in
theorem ok_law {fd : FuncData} (F : Fun K "law" "law" s_law ad.law fd) (T : Txt K mg ad) {fd_Heap_init : FuncData} (B_Heap_init : Binds K fd_Heap_init ["self"] []) (G_Heap_init : FnOk P w K mg base CX0 1 ad.Heap_init fd_Heap_init ["self"] (spHInit ad)) {fd_Lat : FuncData} (B_Lat : Binds K fd_Lat ["_law_script", "_law_k"] []) (G_Lat : FnOk P w K mg base CX0 1 ad.Lat fd_Lat ["_law_script", "_law_k"] (spAt K)) {fd_Lmixed : FuncData} (B_Lmixed : Binds K fd_Lmixed ["_law_cell", "_law_k"] []) (G_Lmixed : FnOk P w K mg base CX0 1 ad.Lmixed fd_Lmixed ["_law_cell", "_law_k"] (spMixed)) {fd_Ldone : FuncData} (B_Ldone : Binds K fd_Ldone ["_law_heap", "_law_rows", "_law_cell"] []) (G_Ldone : FnOk P w K mg base CX0 6 ad.Ldone fd_Ldone ["_law_heap", "_law_rows", "_law_cell"] (spDone ad K)) {fd_Lstands : FuncData} (B_Lstands : Binds K fd_Lstands ["_law_heap", "_law_rows", "_law_cell", "_law_kept"] []) (G_Lstands : FnOk P w K mg base CX0 6 ad.Lstands fd_Lstands ["_law_heap", "_law_rows", "_law_cell", "_law_kept"] (spStands ad K)) : FnOk P w K mg base CX0 7 ad.law fd ["_law_script"] (spLaw K) := by
  refine F.ok sc_law (fun vs H Q E h => ?_) (fun cdv A outer s H vs Q E HR h => ?_)
  · obtain ⟨a, ns, rfl, _⟩ := h
    rfl
  · obtain ⟨a, ns, rfl, hS, hl, hq⟩ := h
    have ND := sc_law.nd
    have HU0 := HR.units0
    have HU := HR.units
    have hA := HR.hd
    have hz : (100000 : Nat) ≤ sizeLine := by rw [sizeLine_eq]; decide
    refine ⟨_, (pss_cons (ps_set (i := 1) ND rfl (loc_of (Or.inl l_law__law_heaps)) (pe_lst (pa_cons (pe_make0 T.mk_Heap G_Heap_init (HR.mono (by decide)) (gl_of g_law_Heap) T.mg_Heap B_Heap_init .nil pass0 (hdb := d_Heap)) (pa_cons (pe_make0 T.mk_Heap G_Heap_init (HR.mono (by decide)) (gl_of g_law_Heap) T.mg_Heap B_Heap_init .nil pass0 (hdb := d_Heap)) pa_nil (stp rfl)) (stp rfl))))
 (pss_cons (ps_set (i := 2) ND rfl (loc_of (Or.inl l_law__law_both)) (pe_lst (pa_cons (pe_lst pa_nil) (pa_cons (pe_lst pa_nil) pa_nil (stp rfl)) (stp rfl))))
 (pss_cons (ps_set (i := 3) ND rfl (loc_of (Or.inl l_law__law_kept)) (pe_lst pa_nil))
 (pss_cons (ps_for PassesOwn.never (calm0 rfl) (pi_range1 (gl_of g_law_range) T.b_range (pa_cons (pe_callB (call_min2 rfl) (gl_of g_law_min) T.b_min PyProof.Rows.Boot.«min» (pa_cons (pe_callB call_len_seq (gl_of g_law_len) T.b_len PyProof.Rows.Boot.«len» (pa_cons (pe_var (i := 0) (x := "_law_script") rfl (vis_of v_law__law_script) d__law_script e__law_script) pa_nil (stp rfl)) (hn := n_len) (hdb := d_len) (he := stp rfl) (hpl := anp rfl)) (pa_cons pe_int pa_nil (stp rfl)) (stp rfl)) (hn := n_min) (hdb := d_min) (he := stp rfl) (hpl := anp rfl)) pa_nil (stp rfl)) (st1 rfl)) (pg_name (i := 4) ND rfl (loc_of (Or.inl l_law__law_k)))
 (pss_cons (ps_set (i := 5) ND rfl (loc_of (Or.inl l_law__law_cell)) (pe_call G_Lat (HR.mono (by decide)) (gl_of g_law__law_at) T.mg_Lat T.k_Lat B_Lat .nil pass0 (pa_cons (pe_var (i := 0) (x := "_law_script") rfl (vis_of v_law__law_script) d__law_script e__law_script) (pa_cons (pe_var (i := 4) (x := "_law_k") rfl (vis_of v_law__law_k) d__law_k e__law_k) pa_nil (stp rfl)) (stp rfl)) (hdb := d__law_at) (he := stp rfl) (hpl := anp rfl)))
 (pss_cons (ps_set (i := 6) ND rfl (loc_of (Or.inl l_law__law_which)) (pe_op op_mul (pe_op op_mod (pe_var (i := 5) (x := "_law_cell") rfl (vis_of v_law__law_cell) d__law_cell e__law_cell) pe_int) (pe_op op_mod (pe_op op_fdiv (pe_var (i := 5) (x := "_law_cell") rfl (vis_of v_law__law_cell) d__law_cell e__law_cell) pe_int) pe_int)))
 (pss_cons (ps_if (pt_not (pt_val (pe_call G_Ldone (HR.mono (by decide)) (gl_of g_law__law_done) T.mg_Ldone T.k_Ldone B_Ldone .nil pass0 (pa_cons (pe_ix ix_list (pe_var (i := 1) (x := "_law_heaps") rfl (vis_of v_law__law_heaps) d__law_heaps e__law_heaps) (pe_var (i := 6) (x := "_law_which") rfl (vis_of v_law__law_which) d__law_which e__law_which) (fun _ _ => rfl)) (pa_cons (pe_ix ix_list (pe_var (i := 2) (x := "_law_both") rfl (vis_of v_law__law_both) d__law_both e__law_both) (pe_var (i := 6) (x := "_law_which") rfl (vis_of v_law__law_which) d__law_which e__law_which) (fun _ _ => rfl)) (pa_cons (pe_op op_fdiv (pe_var (i := 5) (x := "_law_cell") rfl (vis_of v_law__law_cell) d__law_cell e__law_cell) pe_int) pa_nil (stp rfl)) (stp rfl)) (stp rfl)) (hdb := d__law_done) (he := stp rfl) (hpl := anp rfl))))
 (pss_one (ps_ret pe_bl))
 pss_nil)
 (pss_cons (ps_if (PW.pt (pw_and (pt_cmpR op_gt (pe_op op_mod (pe_op op_fdiv (pe_var (i := 5) (x := "_law_cell") rfl (vis_of v_law__law_cell) d__law_cell e__law_cell) pe_int) pe_int) pe_int (nomark _)) (pw_and1 (pt_not (pt_val (pe_call G_Ldone (HR.mono (by decide)) (gl_of g_law__law_done) T.mg_Ldone T.k_Ldone B_Ldone .nil pass0 (pa_cons (pe_ix ix_list (pe_var (i := 1) (x := "_law_heaps") rfl (vis_of v_law__law_heaps) d__law_heaps e__law_heaps) (pe_var (i := 6) (x := "_law_which") rfl (vis_of v_law__law_which) d__law_which e__law_which) (fun _ _ => rfl)) (pa_cons (pe_ix ix_list (pe_var (i := 2) (x := "_law_both") rfl (vis_of v_law__law_both) d__law_both e__law_both) (pe_var (i := 6) (x := "_law_which") rfl (vis_of v_law__law_which) d__law_which e__law_which) (fun _ _ => rfl)) (pa_cons (pe_call G_Lmixed (HR.mono (by decide)) (gl_of g_law__law_mixed) T.mg_Lmixed T.k_Lmixed B_Lmixed .nil pass0 (pa_cons (pe_var (i := 5) (x := "_law_cell") rfl (vis_of v_law__law_cell) d__law_cell e__law_cell) (pa_cons pe_int pa_nil (stp rfl)) (stp rfl)) (hdb := d__law_mixed) (he := stp rfl) (hpl := anp rfl)) pa_nil (stp rfl)) (stp rfl)) (stp rfl)) (hdb := d__law_done) (he := stp rfl) (hpl := anp rfl)))))))
 (pss_one (ps_ret pe_bl))
 pss_nil)
 (pss_one (ps_for PassesOwn.never (calm0 rfl) (pi_tup (pe_tup (pa_cons pe_int (pa_cons pe_int pa_nil (stp rfl)) (stp rfl)))) (pg_name (i := 7) ND rfl (loc_of (Or.inl l_law__law_at_here)))
 (pss_one (ps_if (pt_not (pt_val (pe_call G_Lstands (HR.mono (by decide)) (gl_of g_law__law_stands) T.mg_Lstands T.k_Lstands B_Lstands .nil pass0 (pa_cons (pe_ix ix_list (pe_var (i := 1) (x := "_law_heaps") rfl (vis_of v_law__law_heaps) d__law_heaps e__law_heaps) (pe_var (i := 7) (x := "_law_at_here") rfl (vis_of v_law__law_at_here) d__law_at_here e__law_at_here) (fun _ _ => rfl)) (pa_cons (pe_ix ix_list (pe_var (i := 2) (x := "_law_both") rfl (vis_of v_law__law_both) d__law_both e__law_both) (pe_var (i := 7) (x := "_law_at_here") rfl (vis_of v_law__law_at_here) d__law_at_here e__law_at_here) (fun _ _ => rfl)) (pa_cons (pe_op op_add (pe_op op_fdiv (pe_var (i := 5) (x := "_law_cell") rfl (vis_of v_law__law_cell) d__law_cell e__law_cell) pe_int) (pe_var (i := 7) (x := "_law_at_here") rfl (vis_of v_law__law_at_here) d__law_at_here e__law_at_here)) (pa_cons (pe_var (i := 3) (x := "_law_kept") rfl (vis_of v_law__law_kept) d__law_kept e__law_kept) pa_nil (stp rfl)) (stp rfl)) (stp rfl)) (stp rfl)) (hdb := d__law_stands) (he := stp rfl) (hpl := anp rfl))))
 (pss_one (ps_ret pe_bl))
 pss_nil)))))))))
 (pss_cons (ps_for PassesOwn.never (calm0 rfl) (pi_tup (pe_tup (pa_cons pe_int (pa_cons pe_int pa_nil (stp rfl)) (stp rfl)))) (pg_name (i := 7) ND rfl (loc_of (Or.inl l_law__law_at_here)))
 (pss_one (ps_if (pt_not (pt_val (pe_call G_Lstands (HR.mono (by decide)) (gl_of g_law__law_stands) T.mg_Lstands T.k_Lstands B_Lstands .nil pass0 (pa_cons (pe_ix ix_list (pe_var (i := 1) (x := "_law_heaps") rfl (vis_of v_law__law_heaps) d__law_heaps e__law_heaps) (pe_var (i := 7) (x := "_law_at_here") rfl (vis_of v_law__law_at_here) d__law_at_here e__law_at_here) (fun _ _ => rfl)) (pa_cons (pe_ix ix_list (pe_var (i := 2) (x := "_law_both") rfl (vis_of v_law__law_both) d__law_both e__law_both) (pe_var (i := 7) (x := "_law_at_here") rfl (vis_of v_law__law_at_here) d__law_at_here e__law_at_here) (fun _ _ => rfl)) (pa_cons (pe_var (i := 7) (x := "_law_at_here") rfl (vis_of v_law__law_at_here) d__law_at_here e__law_at_here) (pa_cons (pe_var (i := 3) (x := "_law_kept") rfl (vis_of v_law__law_kept) d__law_kept e__law_kept) pa_nil (stp rfl)) (stp rfl)) (stp rfl)) (stp rfl)) (hdb := d__law_stands) (he := stp rfl) (hpl := anp rfl))))
 (pss_one (ps_ret pe_bl))
 pss_nil)))
 (pss_one (ps_ret (pe_cmpR (op_eqD HU) (pe_comp (CompScope.of (osc := defScope s_law) (tn := ["_law_pair"]) (cn := []) (caps := []) rfl rfl (by decide +kernel) (by decide +kernel) (by decide +kernel) (by decide +kernel) rfl) (calm0 rfl)  (pi_list (pe_var (i := 3) (x := "_law_kept") rfl (vis_of v_law__law_kept) d__law_kept e__law_kept))
 (fun _ _ _ _ _ => (pg_name (i := 0) (show (["_law_pair"] : List Str).Nodup by decide +kernel) rfl (Or.inl rfl))) (fun _ _ _ _ _ => (pts_one (pt_cmpR (op_neDK (K := K) rfl HU) (pe_ix (ix_tupK (K := K) rfl) (pv 0) pe_int (fun _ _ => rfl)) (pe_ix (ix_tupK (K := K) rfl) (pv 0) pe_int (fun _ _ => rfl)) (nomark _)))) (fun _ _ _ _ _ => (pv 0))) (pe_lst pa_nil) (nomark _))))))))), ?_⟩
    refine tSeq_cut (fun σ H' => ∃ (ha x0 x1 l0 l1 : Addr), Same H H' ∧ H l0 = none ∧ H l1 = none ∧ l0 ≠ l1 ∧ HeapAt ad H' x0 l0 [] ∧ HeapAt ad H' x1 l1 [] ∧ H' ha = some (.lst [.ref x0, .ref x1]) ∧ σ = [some (V.ref a), some (V.ref ha), none, none, none, none, none, none]) (fun nx hk => ?_) ?_
    · walk_at "RD"
      refine fun x dx nx ndx ne => ⟨x, dx, rfl, upd_same, fun l nl => ?_⟩
      obtain ⟨s1, h1, f1⟩ := heap_make nx ndx nl
      generalize upd (upd (upd (upd H dx (HO.own x)) x (HO.ins ad.C_Heap dx [])) l (HO.lst [])) x (HO.ins ad.C_Heap dx (putF "things" (.ref l) [])) = H2 at s1 h1 ⊢
      refine ⟨rfl, fun y dy ny ndy ne => ⟨y, dy, rfl, upd_same, fun q nq => ?_⟩⟩
      obtain ⟨s2, h2, f2⟩ := heap_make ny ndy nq
      generalize upd (upd (upd (upd H2 dy (HO.own y)) y (HO.ins ad.C_Heap dy [])) q (HO.lst [])) y (HO.ins ad.C_Heap dy (putF "things" (.ref q) [])) = H3 at s2 h2 ⊢
      refine ⟨rfl, by omega, fun ha na => hk _ _ ⟨ha, x, y, l, q, s1.trans (s2.trans (same_new na)), f1, s1.free f2, (fun e => by rw [← e, h1.2] at f2; cases f2), (chS (D := []) (s2.trans (same_new na))).heap h1 (by simp), (chS (D := []) (same_new na)).heap h2 (by simp), upd_same, rfl⟩⟩
    rintro σ H1 ⟨ha, x0, x1, l0, l1, s1, f0, f1, l01, hh0, hh1, hat, rfl⟩
    refine tSeq_cut (fun σ H' => ∃ (ba r0 r1 : Addr), Same H1 H' ∧ H1 r0 = none ∧ H1 r1 = none ∧ r0 ≠ r1 ∧ H' r0 = some (.lst []) ∧ H' r1 = some (.lst []) ∧ H' ba = some (.lst [.ref r0, .ref r1]) ∧ σ = [some (V.ref a), some (V.ref ha), some (V.ref ba), none, none, none, none, none]) (fun nx hk => ?_) ?_
    · walk_at "RD"
      refine ⟨by omega, fun r0 n0 => ⟨by omega, fun r1 n1 => ⟨by omega, fun ba nb => hk _ _ ⟨ba, r0, r1, (same_new n0).trans ((same_new n1).trans (same_new nb)), n0, (same_new n0).free n1, (fun e => by rw [← e, upd_same] at n1; cases n1), ((same_new n1).trans (same_new nb)) _ _ upd_same, (same_new nb) _ _ upd_same, upd_same, rfl⟩⟩⟩⟩
    rintro σ H2 ⟨ba, r0, r1, s2, g0, g1, r01, hr0, hr1, bat, rfl⟩
    refine tSeq_cut (fun σ H' => ∃ (kp : Addr) (hp hl rl : Nat → Addr), LI ad H ha ba kp hp hl rl 0 0 H' ∧ σ = [some (V.ref a), some (V.ref ha), some (V.ref ba), some (V.ref kp), none, none, none, none]) (fun nx hk => ?_) ?_
    · walk_at "RD"
      refine ⟨by omega, fun kp nk => hk _ _ ⟨kp, fun i => if i = 0 then x0 else x1, fun i => if i = 0 then l0 else l1, fun i => if i = 0 then r0 else r1, ?_, rfl⟩⟩
      have S3 := same_new (o := HO.lst []) nk
      have k0 : l0 ≠ r0 := fun e => by rw [← e, hh0.2] at g0; cases g0
      have k1 : l0 ≠ r1 := fun e => by rw [← e, hh0.2] at g1; cases g1
      have k2 : l1 ≠ r0 := fun e => by rw [← e, hh1.2] at g0; cases g0
      have k3 : l1 ≠ r1 := fun e => by rw [← e, hh1.2] at g1; cases g1
      have k4 : l0 ≠ kp := fun e => by rw [← e, s2 _ _ hh0.2] at nk; cases nk
      have k5 : l1 ≠ kp := fun e => by rw [← e, s2 _ _ hh1.2] at nk; cases nk
      have k6 : r0 ≠ kp := fun e => by rw [← e, hr0] at nk; cases nk
      have k7 : r1 ≠ kp := fun e => by rw [← e, hr1] at nk; cases nk
      have hDl : ∀ d ∈ Dof (fun i => if i = 0 then l0 else l1) (fun i => if i = 0 then r0 else r1) kp, d = l0 ∨ d = l1 ∨ d = r0 ∨ d = r1 ∨ d = kp := fun d hd => by simpa [Dof] using hd
      have hdd : ∀ d ∈ Dof (fun i => if i = 0 then l0 else l1) (fun i => if i = 0 then r0 else r1) kp, upd H2 kp (HO.lst []) d = some (.lst []) := fun d hd => by
        rcases hDl d hd with rfl | rfl | rfl | rfl | rfl
        · exact S3 _ _ (s2 _ _ hh0.2)
        · exact S3 _ _ (s2 _ _ hh1.2)
        · exact S3 _ _ hr0
        · exact S3 _ _ hr1
        · exact upd_same
      refine ⟨s1.trans (s2.trans S3), fun d hd => ?_, ?_, (s2.trans S3) _ _ hat, S3 _ _ bat, fun z => ?_, fun z => ?_, fun i hi => ?_, ⟨[], upd_same, Nat.le_refl _, fun p hp => by cases hp⟩⟩
      · rcases hDl d hd with rfl | rfl | rfl | rfl | rfl
        · exact f0
        · exact f1
        · exact s1.free g0
        · exact s1.free g1
        · exact s1.free (s2.free nk)
      · simp [Dof, l01, k0, k1, k2, k3, k4, k5, k6, k7, r01]
      · have := hdd _ z
        rw [(s2.trans S3) _ _ hat] at this
        cases this
      · have := hdd _ z
        rw [S3 _ _ bat] at this
        cases this
      · rcases (by omega : i = 0 ∨ i = 1) with rfl | rfl
        · exact ⟨[], [], fun _ => [], ⟨(chS (D := []) (s2.trans S3)).heap hh0 (by simp), S3 _ _ hr0, (fun t ht => by cases ht), (fun t ht => by cases ht), (fun t ht => by cases ht), (fun t ht => by cases ht), hok_nil, .nil⟩, Nat.le_refl _⟩
        · exact ⟨[], [], fun _ => [], ⟨(chS (D := []) (s2.trans S3)).heap hh1 (by simp), S3 _ _ hr1, (fun t ht => by cases ht), (fun t ht => by cases ht), (fun t ht => by cases ht), (fun t ht => by cases ht), hok_nil, .nil⟩, Nat.le_refl _⟩
    rintro σ H3 ⟨kp, hp, hl', rl, I, rfl⟩
    refine tSeq_cut (fun σ H' => ∃ x4 x5 x6 x7 : Option V, LI ad H ha ba kp hp hl' rl 80 240 H' ∧ σ = [some (V.ref a), some (V.ref ha), some (V.ref ba), some (V.ref kp), x4, x5, x6, x7]) (fun nx hk => ?_) ?_
    · simp only [tNever, tFor_eq, iRng1, iRng2, gTup, gTupL, gCons, gNil, tRevT, rRep01, rCatT, rCat, rRep, rJoin, tLRng2, tMethV, tDisp, tPairs, tYes, tDGet, rLtT, tAug, ipI, cxKm, cxKs, cxKt, tTry, tTryAs, onlyRet, rRemT, tRevL, tCallX, tMethX, tMakeX, tRaise, noW, tAsg, tOp, tUn, tVar, tC, rI0, rI, rU, tTest, tIfS, tNext, tRet, tRetN, tDrop, gName, tCB, tCons, tNil, tAndV, tOrV, tNotV, tAnd, tOr, tNot, tB, tIf, tChain, tCall, tBM, tBM0, tLst, tTup, tNoPart, tPart, tSlS, tSl, tBreak, tCont, rSlA, rSlL, rPopAt, rIn, rIxL, rIxT, rIxS, rEq, rNe, scal, rAppend, rPop, rIndex, tFld, sFld, tMeth, tMake, tDNewK, gSub, rSetL, tJoinRev, tComp, sComp, capσ, iStr, iList, iTup, rEqD, cxK, cxA, cxKc, cxAc, L2.start, List.map_cons, List.map_nil, List.length_cons, List.length_nil, List.replicate_succ, List.replicate_zero, List.cons_append, List.nil_append, List.append_nil, Nat.reduceAdd, Nat.reduceSub, List.set_cons_zero, List.set_cons_succ, List.getElem?_cons_zero, List.getElem?_cons_succ, Option.getD_some, Option.getD_none, Option.some.injEq, V.int.injEq, V.ref.injEq, V.bl.injEq, V.str.injEq, V.ty.injEq, exists_eq_left', exists_eq_left, exists_and_left, and_assoc, List.cons.injEq, and_true, true_and, decide_eq_true_eq, Bool.not_eq_true', decide_eq_false_iff_not, Bool.false_eq_true, if_false, if_true, reduceIte, Bool.not_true, Bool.not_false, beq_self_eq_true]
      refine ⟨_, .inl (Same.seq I.same hS), by split <;> omega, by split <;> omega, for_range (n := (if 40 < ((ns.map V.int).length : Int) then 40 else ((ns.map V.int).length : Int)).toNat) (fun j σ H' => ∃ x4 x5 x6 x7 : Option V, LI ad H ha ba kp hp hl' rl (2 * j) (6 * j) H' ∧ σ = [some (V.ref a), some (V.ref ha), some (V.ref ba), some (V.ref kp), x4, x5, x6, x7]) ⟨none, none, none, none, I, rfl⟩ ?_ ?_⟩
      · rintro j σ H4 hj ⟨x4, x5, x6, x7, I4, rfl⟩
        have hj' : j < 40 := by revert hj; split <;> omega
        simp only [gName, List.set_cons_succ, List.set_cons_zero]
        refine tSeq_cut (fun σ H' => ∃ c : Int, H' = H4 ∧ 0 ≤ c ∧ c < 2147483647 ∧ σ = [some (V.ref a), some (V.ref ha), some (V.ref ba), some (V.ref kp), some (V.int (0 + (j : Int))), some (V.int c), x6, x7]) (fun nx hk => ?_) ?_
        · walk_at "RD"
          exact ⟨a, ns, _, rfl, Same.seq I4.same hS, hl, by omega, by omega, fun r r0 r1 => hk _ _ ⟨r, rfl, r0, r1, rfl⟩⟩
        rintro σ H4 ⟨c, rfl, c0, c1, rfl⟩
        refine tSeq_cut (fun σ H' => ∃ w : Nat, H' = H4 ∧ w < 2 ∧ σ = [some (V.ref a), some (V.ref ha), some (V.ref ba), some (V.ref kp), some (V.int (0 + (j : Int))), some (V.int c), some (V.int (w : Int)), x7]) (fun nx hk => ?_) ?_
        · walk_at "RD"
          have hw : c % 2 * (c / 2 % 2) = 0 ∨ c % 2 * (c / 2 % 2) = 1 := by
            have h1 : c % 2 = 0 ∨ c % 2 = 1 := by omega
            have h2 : c / 2 % 2 = 0 ∨ c / 2 % 2 = 1 := by omega
            rcases h1 with h1 | h1 <;> rcases h2 with h2 | h2 <;> rw [h1, h2] <;> decide
          refine ⟨by omega, ⟨by decide, by decide⟩, by omega, .inl ⟨by omega, by omega⟩, ?_⟩
          rcases hw with e | e <;> rw [e]
          · exact hk _ _ ⟨0, rfl, by decide, rfl⟩
          · exact hk _ _ ⟨1, rfl, by decide, rfl⟩
        rintro σ H4 ⟨w, rfl, w2, rfl⟩
        have dist : ∀ v, v < 2 → hl' v ≠ rl v := fun v hv => (nod_Dof I4.nod hv hv).2.2.1
        refine tSeq_cut (fun σ H' => LI ad H ha ba kp hp hl' rl (2 * j + 1) (6 * j) H' ∧ σ = [some (V.ref a), some (V.ref ha), some (V.ref ba), some (V.ref kp), some (V.int (0 + (j : Int))), some (V.int c), some (V.int (w : Int)), x7]) (fun nx hk => ?_) ?_
        · walk_at "RD"
          refine ⟨_, SqL.of I4.hat, _, atW w2, _, SqL.of I4.bat, _, atW w2, ⟨by decide, by decide⟩, hp w, hl' w, rl w, 2 * j, c / 4, rfl, by omega, by omega, I4.hw w w2, dist w w2, by omega, fun H5 ch h5 => ⟨true, rfl, ?_⟩⟩
          rw [if_neg (by decide)]
          exact hk _ _ ⟨I4.done w2 ch h5, rfl⟩
        rintro σ H5 ⟨I5, rfl⟩
        refine tSeq_cut (fun σ H' => LI ad H ha ba kp hp hl' rl (2 * j + 2) (6 * j) H' ∧ σ = [some (V.ref a), some (V.ref ha), some (V.ref ba), some (V.ref kp), some (V.int (0 + (j : Int))), some (V.int c), some (V.int (w : Int)), x7]) (fun nx hk => ?_) ?_
        · walk_at "RD"
          refine ⟨⟨by decide, by decide⟩, by omega, ?_⟩
          split
          · refine ⟨_, SqL.of I5.hat, _, atW w2, _, SqL.of I5.bat, _, atW w2, c, 3, rfl, c0, c1, by omega, by omega, fun r r0 r1 => ⟨hp w, hl' w, rl w, 2 * j + 1, r, rfl, r0, r1, I5.hw w w2, dist w w2, by omega, fun H6 ch h6 => ⟨true, rfl, ?_⟩⟩⟩
            rw [if_neg (by decide)]
            exact hk _ _ ⟨I5.done w2 ch h6, rfl⟩
          · exact hk _ _ ⟨I5.mono (by omega) (by omega), rfl⟩
        rintro σ H6 ⟨I6, rfl⟩
        simp only [tNever, tFor_eq, iRng1, iRng2, gTup, gTupL, gCons, gNil, tRevT, rRep01, rCatT, rCat, rRep, rJoin, tLRng2, tMethV, tDisp, tPairs, tYes, tDGet, rLtT, tAug, ipI, cxKm, cxKs, cxKt, tTry, tTryAs, onlyRet, rRemT, tRevL, tCallX, tMethX, tMakeX, tRaise, noW, tAsg, tOp, tUn, tVar, tC, rI0, rI, rU, tTest, tIfS, tNext, tRet, tRetN, tDrop, gName, tCB, tCons, tNil, tAndV, tOrV, tNotV, tAnd, tOr, tNot, tB, tIf, tChain, tCall, tBM, tBM0, tLst, tTup, tNoPart, tPart, tSlS, tSl, tBreak, tCont, rSlA, rSlL, rPopAt, rIn, rIxL, rIxT, rIxS, rEq, rNe, scal, rAppend, rPop, rIndex, tFld, sFld, tMeth, tMake, tDNewK, gSub, rSetL, tJoinRev, tComp, sComp, capσ, iStr, iList, iTup, rEqD, cxK, cxA, cxKc, cxAc, L2.start, List.map_cons, List.map_nil, List.length_cons, List.length_nil, List.replicate_succ, List.replicate_zero, List.cons_append, List.nil_append, List.append_nil, Nat.reduceAdd, Nat.reduceSub, List.set_cons_zero, List.set_cons_succ, List.getElem?_cons_zero, List.getElem?_cons_succ, Option.getD_some, Option.getD_none, Option.some.injEq, V.int.injEq, V.ref.injEq, V.bl.injEq, V.str.injEq, V.ty.injEq, exists_eq_left', exists_eq_left, exists_and_left, and_assoc, List.cons.injEq, and_true, true_and, decide_eq_true_eq, Bool.not_eq_true', decide_eq_false_iff_not, Bool.false_eq_true, if_false, if_true, reduceIte, Bool.not_true, Bool.not_false, beq_self_eq_true]
        refine ⟨by omega, fun p np => ⟨⟨_, SqT.of upd_same⟩, for_tup (K := K) (a := p) (xs := [V.int 0, V.int 1]) (fun i σ H' => ∃ x7 : Option V, LI ad H ha ba kp hp hl' rl (2 * j + 2) (6 * j + 3 * i) H' ∧ H' p = some (.tup [V.int 0, V.int 1]) ∧ σ = [some (V.ref a), some (V.ref ha), some (V.ref ba), some (V.ref kp), some (V.int (0 + (j : Int))), some (V.int c), some (V.int (w : Int)), x7]) ⟨_, I6.new (same_new np), upd_same, rfl⟩ ?_ ?_ ?_⟩⟩
        · rintro i σ H' _ ⟨_, _, h, _⟩
          exact SqT.of h
        · rintro i y σ H7 hy ⟨x7, I7, hpp, rfl⟩
          have i2 : i < 2 := by
            by_cases h : i < 2
            · exact h
            · rw [List.getElem?_eq_none (by simp only [List.length_cons, List.length_nil]; omega)] at hy
              cases hy
          obtain rfl : y = V.int (i : Int) := by
            rcases (by omega : i = 0 ∨ i = 1) with rfl | rfl <;> cases hy <;> rfl
          walk_at "RD"
          refine ⟨_, SqL.of I7.hat, _, atW i2, _, SqL.of I7.bat, _, atW i2, ⟨by decide, by decide⟩, hp i, hl' i, rl i, kp, Dof hl' rl kp, 2 * j + 2, 6 * j + 3 * i, c / 64 + i, rfl, by omega, by omega, I7.hw i i2, I7.kps, kp_Dof, (nod_Dof I7.nod i2 i2).1, (nod_Dof I7.nod i2 i2).2.1, I7.alive, by omega, by omega, fun H8 ch h8 => ⟨true, rfl, ?_⟩⟩
          rw [if_neg (by decide)]
          exact ⟨I7.stands ch h8, ch.tup hpp, _, rfl⟩
        · rintro σ H' ⟨x7, I7, hpp, rfl⟩
          exact ⟨I7.mono (by omega) (by simp only [List.length_cons, List.length_nil]; omega), _, _, _, _, rfl⟩
      · rintro σ H' ⟨x4, x5, x6, x7, I4, rfl⟩
        exact hk _ _ ⟨x4, x5, x6, x7, I4.mono (by split <;> omega) (by split <;> omega), rfl⟩
    rintro σ H4 ⟨x4, x5, x6, x7, I4, rfl⟩
    refine tSeq_cut (fun σ H' => ∃ x7 : Option V, LI ad H ha ba kp hp hl' rl 80 246 H' ∧ σ = [some (V.ref a), some (V.ref ha), some (V.ref ba), some (V.ref kp), x4, x5, x6, x7]) (fun nx hk => ?_) ?_
    · simp only [tNever, tFor_eq, iRng1, iRng2, gTup, gTupL, gCons, gNil, tRevT, rRep01, rCatT, rCat, rRep, rJoin, tLRng2, tMethV, tDisp, tPairs, tYes, tDGet, rLtT, tAug, ipI, cxKm, cxKs, cxKt, tTry, tTryAs, onlyRet, rRemT, tRevL, tCallX, tMethX, tMakeX, tRaise, noW, tAsg, tOp, tUn, tVar, tC, rI0, rI, rU, tTest, tIfS, tNext, tRet, tRetN, tDrop, gName, tCB, tCons, tNil, tAndV, tOrV, tNotV, tAnd, tOr, tNot, tB, tIf, tChain, tCall, tBM, tBM0, tLst, tTup, tNoPart, tPart, tSlS, tSl, tBreak, tCont, rSlA, rSlL, rPopAt, rIn, rIxL, rIxT, rIxS, rEq, rNe, scal, rAppend, rPop, rIndex, tFld, sFld, tMeth, tMake, tDNewK, gSub, rSetL, tJoinRev, tComp, sComp, capσ, iStr, iList, iTup, rEqD, cxK, cxA, cxKc, cxAc, L2.start, List.map_cons, List.map_nil, List.length_cons, List.length_nil, List.replicate_succ, List.replicate_zero, List.cons_append, List.nil_append, List.append_nil, Nat.reduceAdd, Nat.reduceSub, List.set_cons_zero, List.set_cons_succ, List.getElem?_cons_zero, List.getElem?_cons_succ, Option.getD_some, Option.getD_none, Option.some.injEq, V.int.injEq, V.ref.injEq, V.bl.injEq, V.str.injEq, V.ty.injEq, exists_eq_left', exists_eq_left, exists_and_left, and_assoc, List.cons.injEq, and_true, true_and, decide_eq_true_eq, Bool.not_eq_true', decide_eq_false_iff_not, Bool.false_eq_true, if_false, if_true, reduceIte, Bool.not_true, Bool.not_false, beq_self_eq_true]
      refine ⟨by omega, fun p np => ⟨⟨_, SqT.of upd_same⟩, for_tup (K := K) (a := p) (xs := [V.int 0, V.int 1]) (fun i σ H' => ∃ x7 : Option V, LI ad H ha ba kp hp hl' rl 80 (240 + 3 * i) H' ∧ H' p = some (.tup [V.int 0, V.int 1]) ∧ σ = [some (V.ref a), some (V.ref ha), some (V.ref ba), some (V.ref kp), x4, x5, x6, x7]) ⟨_, I4.new (same_new np), upd_same, rfl⟩ ?_ ?_ ?_⟩⟩
      · rintro i σ H' _ ⟨_, _, h, _⟩
        exact SqT.of h
      · rintro i y σ H7 hy ⟨x7, I7, hpp, rfl⟩
        have i2 : i < 2 := by
          by_cases h : i < 2
          · exact h
          · rw [List.getElem?_eq_none (by simp only [List.length_cons, List.length_nil]; omega)] at hy
            cases hy
        obtain rfl : y = V.int (i : Int) := by
          rcases (by omega : i = 0 ∨ i = 1) with rfl | rfl <;> cases hy <;> rfl
        walk_at "RD"
        refine ⟨_, SqL.of I7.hat, _, atW i2, _, SqL.of I7.bat, _, atW i2, hp i, hl' i, rl i, kp, Dof hl' rl kp, 80, 240 + 3 * i, i, rfl, by omega, by omega, I7.hw i i2, I7.kps, kp_Dof, (nod_Dof I7.nod i2 i2).1, (nod_Dof I7.nod i2 i2).2.1, I7.alive, by omega, by omega, fun H8 ch h8 => ⟨true, rfl, ?_⟩⟩
        rw [if_neg (by decide)]
        exact ⟨I7.stands ch h8, ch.tup hpp, _, rfl⟩
      · rintro σ H' ⟨x7, I7, hpp, rfl⟩
        exact hk _ _ ⟨_, I7, rfl⟩
    rintro σ H5 ⟨x7, I5, rfl⟩
    walk_at "RD"
    obtain ⟨ps, hk5, lp, pp⟩ := I5.kps
    refine ⟨⟨_, SqL.of hk5⟩, comp_pure (src_list (SqL.of hk5)) (fun _ => false) (fun v => v) (fun y hy Q' h => ?_) (fun y hy z => absurd z (by simp)) (by rw [List.length_map]; omega) (fun D hD => ⟨by omega, fun z nz => ?_⟩)⟩
    · obtain ⟨t, ht, rfl⟩ := List.mem_map.mp hy
      obtain ⟨u, v, ts, k, e1, _, _, e2, e3, hk, _⟩ := pp t ht
      walk_at "RD"
      refine ⟨_, SqT.of e1, _, rfl, _, SqT.of e1, _, rfl, _, den_rows e2 hk, _, den_rows e3 hk, shaped_rows _, shaped_rows _, ?_⟩
      rw [eqv_same (shaped_rows _)]
      exact h
    · have nDz : D ≠ z := fun e => by rw [e, upd_same] at nz; cases nz
      have eD : upd (upd H5 D (HO.lst (List.map (fun v => v) (List.filter (fun x => false) (List.map V.ref ps))))) z (HO.lst []) D = some (.lst []) := by
        rw [upd_ne nDz, upd_same]
        simp
      refine ⟨_, .lst (SqL.of eD) .nil, _, .lst (SqL.of upd_same) .nil, rfl, rfl, ?_⟩
      exact hq _
end

set_option maxHeartbeats 4000000 in
theorem all_mk {l : PySem.W.OpenLaw} {w : World} {K : PySem.W.Frag} {h : Heap} {mg : Str → Option Value} {fa : Addr} (X : K.In h) (G : h.Ns mainGlobals mg) (hfa : mg "law" = some (.ref fa))
    {C_Heap : Addr}
    {C_Empty : Addr}
    {C_FloorError : Addr}
    {C_BadFloor : Addr}
    {C_BadKind : Addr}
    {C_BadCell : Addr}
    {C_BadCharge : Addr}
    {C_BadStops : Addr}
    {C_BadWay : Addr}
    {C_NoCarrier : Addr}
    {C_NoTask : Addr}
    {C_Meets : Addr}
    {C_Taken : Addr}
    {C_Busy : Addr}
    {C_NoReserve : Addr}
    {C_Closed : Addr}
    {C_Jammed : Addr}
    {f_Heap_init : Addr} {od_Heap_init an_Heap_init : Option Addr} {sl_Heap_init : Array (Option Value)} {oc_Heap_init kV_Heap_init dc_Heap_init pm_Heap_init cd_Heap_init ct_Heap_init : Value}
    {f_Heap_put : Addr} {od_Heap_put an_Heap_put : Option Addr} {sl_Heap_put : Array (Option Value)} {oc_Heap_put kV_Heap_put dc_Heap_put pm_Heap_put cd_Heap_put ct_Heap_put : Value}
    {f_Heap_least : Addr} {od_Heap_least an_Heap_least : Option Addr} {sl_Heap_least : Array (Option Value)} {oc_Heap_least kV_Heap_least dc_Heap_least pm_Heap_least cd_Heap_least ct_Heap_least : Value}
    {f_Heap_take : Addr} {od_Heap_take an_Heap_take : Option Addr} {sl_Heap_take : Array (Option Value)} {oc_Heap_take kV_Heap_take dc_Heap_take pm_Heap_take cd_Heap_take ct_Heap_take : Value}
    {f_Heap_size : Addr} {od_Heap_size an_Heap_size : Option Addr} {sl_Heap_size : Array (Option Value)} {oc_Heap_size kV_Heap_size dc_Heap_size pm_Heap_size cd_Heap_size ct_Heap_size : Value}
    {f_Heap_lying : Addr} {od_Heap_lying an_Heap_lying : Option Addr} {sl_Heap_lying : Array (Option Value)} {oc_Heap_lying kV_Heap_lying dc_Heap_lying pm_Heap_lying cd_Heap_lying ct_Heap_lying : Value}
    {f_Heap_lift_last : Addr} {od_Heap_lift_last an_Heap_lift_last : Option Addr} {sl_Heap_lift_last : Array (Option Value)} {oc_Heap_lift_last kV_Heap_lift_last dc_Heap_lift_last pm_Heap_lift_last cd_Heap_lift_last ct_Heap_lift_last : Value}
    {f_Heap_sink_first : Addr} {od_Heap_sink_first an_Heap_sink_first : Option Addr} {sl_Heap_sink_first : Array (Option Value)} {oc_Heap_sink_first kV_Heap_sink_first dc_Heap_sink_first pm_Heap_sink_first cd_Heap_sink_first ct_Heap_sink_first : Value}
    {f_Heap_lesser_below : Addr} {od_Heap_lesser_below an_Heap_lesser_below : Option Addr} {sl_Heap_lesser_below : Array (Option Value)} {oc_Heap_lesser_below kV_Heap_lesser_below dc_Heap_lesser_below pm_Heap_lesser_below cd_Heap_lesser_below ct_Heap_lesser_below : Value}
    {f_Heap_swap : Addr} {od_Heap_swap an_Heap_swap : Option Addr} {sl_Heap_swap : Array (Option Value)} {oc_Heap_swap kV_Heap_swap dc_Heap_swap pm_Heap_swap cd_Heap_swap ct_Heap_swap : Value}
    {f_Lat : Addr} {od_Lat an_Lat : Option Addr} {sl_Lat : Array (Option Value)} {oc_Lat kV_Lat dc_Lat pm_Lat cd_Lat ct_Lat : Value}
    {f_Lmixed : Addr} {od_Lmixed an_Lmixed : Option Addr} {sl_Lmixed : Array (Option Value)} {oc_Lmixed kV_Lmixed dc_Lmixed pm_Lmixed cd_Lmixed ct_Lmixed : Value}
    {f_Lwhole : Addr} {od_Lwhole an_Lwhole : Option Addr} {sl_Lwhole : Array (Option Value)} {oc_Lwhole kV_Lwhole dc_Lwhole pm_Lwhole cd_Lwhole ct_Lwhole : Value}
    {f_Lword : Addr} {od_Lword an_Lword : Option Addr} {sl_Lword : Array (Option Value)} {oc_Lword kV_Lword dc_Lword pm_Lword cd_Lword ct_Lword : Value}
    {f_Lthing : Addr} {od_Lthing an_Lthing : Option Addr} {sl_Lthing : Array (Option Value)} {oc_Lthing kV_Lthing dc_Lthing pm_Lthing cd_Lthing ct_Lthing : Value}
    {f_Ltold : Addr} {od_Ltold an_Ltold : Option Addr} {sl_Ltold : Array (Option Value)} {oc_Ltold kV_Ltold dc_Ltold pm_Ltold cd_Ltold ct_Ltold : Value}
    {f_Lis_heap : Addr} {od_Lis_heap an_Lis_heap : Option Addr} {sl_Lis_heap : Array (Option Value)} {oc_Lis_heap kV_Lis_heap dc_Lis_heap pm_Lis_heap cd_Lis_heap ct_Lis_heap : Value}
    {f_Lstands : Addr} {od_Lstands an_Lstands : Option Addr} {sl_Lstands : Array (Option Value)} {oc_Lstands kV_Lstands dc_Lstands pm_Lstands cd_Lstands ct_Lstands : Value}
    {f_Ldone : Addr} {od_Ldone an_Ldone : Option Addr} {sl_Ldone : Array (Option Value)} {oc_Ldone kV_Ldone dc_Ldone pm_Ldone cd_Ldone ct_Ldone : Value}
    {f_law : Addr} {od_law an_law : Option Addr} {sl_law : Array (Option Value)} {oc_law kV_law dc_law pm_law cd_law ct_law : Value}
    (aC_Heap : PySem.W.nsIn K mainGlobals "Heap" = some (some (.ref C_Heap)))
    (pg_Heap : PySem.W.plainGet K C_Heap Str.empty = true) (hd_Heap : PySem.W.hasDictIn K C_Heap = true) (po_Heap : PySem.W.plainOver K C_Heap = true) (sa_Heap : PySem.W.findIn K (.ref C_Heap) "__setattr__" = some (some (.builtin "object.__setattr__"))) (kc_Heap : PySem.W.keepIn K (.ref C_Heap) = true)
    (mk_Heap : PySem.W.makesIn K C_Heap = true)
    (n_Heap_things : PySem.W.findIn K (.ref C_Heap) "things" = some none)
    (aC_Empty : PySem.W.nsIn K mainGlobals "Empty" = some (some (.ref C_Empty))) (er_Empty : PySem.W.excIn K C_Empty [.type "ValueError", .type "Exception", .type "BaseException", .type "object"] "ValueError.__new__" = true)
    (aC_FloorError : PySem.W.nsIn K mainGlobals "FloorError" = some (some (.ref C_FloorError)))
    (aC_BadFloor : PySem.W.nsIn K mainGlobals "BadFloor" = some (some (.ref C_BadFloor)))
    (aC_BadKind : PySem.W.nsIn K mainGlobals "BadKind" = some (some (.ref C_BadKind)))
    (aC_BadCell : PySem.W.nsIn K mainGlobals "BadCell" = some (some (.ref C_BadCell)))
    (aC_BadCharge : PySem.W.nsIn K mainGlobals "BadCharge" = some (some (.ref C_BadCharge)))
    (aC_BadStops : PySem.W.nsIn K mainGlobals "BadStops" = some (some (.ref C_BadStops)))
    (aC_BadWay : PySem.W.nsIn K mainGlobals "BadWay" = some (some (.ref C_BadWay)))
    (aC_NoCarrier : PySem.W.nsIn K mainGlobals "NoCarrier" = some (some (.ref C_NoCarrier)))
    (aC_NoTask : PySem.W.nsIn K mainGlobals "NoTask" = some (some (.ref C_NoTask)))
    (aC_Meets : PySem.W.nsIn K mainGlobals "Meets" = some (some (.ref C_Meets)))
    (aC_Taken : PySem.W.nsIn K mainGlobals "Taken" = some (some (.ref C_Taken)))
    (aC_Busy : PySem.W.nsIn K mainGlobals "Busy" = some (some (.ref C_Busy)))
    (aC_NoReserve : PySem.W.nsIn K mainGlobals "NoReserve" = some (some (.ref C_NoReserve)))
    (aC_Closed : PySem.W.nsIn K mainGlobals "Closed" = some (some (.ref C_Closed)))
    (aC_Jammed : PySem.W.nsIn K mainGlobals "Jammed" = some (some (.ref C_Jammed)))
    (xm_Empty_FloorError : PySem.W.exmOne K (.ref C_Empty) (.ref C_FloorError) = some true)
    (is_Empty_BadFloor : PySem.W.kitOne K (.ref C_Empty) (.ref C_BadFloor) = some false)
    (is_Empty_BadKind : PySem.W.kitOne K (.ref C_Empty) (.ref C_BadKind) = some false)
    (is_Empty_BadCell : PySem.W.kitOne K (.ref C_Empty) (.ref C_BadCell) = some false)
    (is_Empty_BadCharge : PySem.W.kitOne K (.ref C_Empty) (.ref C_BadCharge) = some false)
    (is_Empty_BadStops : PySem.W.kitOne K (.ref C_Empty) (.ref C_BadStops) = some false)
    (is_Empty_BadWay : PySem.W.kitOne K (.ref C_Empty) (.ref C_BadWay) = some false)
    (is_Empty_Empty : PySem.W.kitOne K (.ref C_Empty) (.ref C_Empty) = some true)
    (is_Empty_NoCarrier : PySem.W.kitOne K (.ref C_Empty) (.ref C_NoCarrier) = some false)
    (is_Empty_NoTask : PySem.W.kitOne K (.ref C_Empty) (.ref C_NoTask) = some false)
    (is_Empty_Meets : PySem.W.kitOne K (.ref C_Empty) (.ref C_Meets) = some false)
    (is_Empty_Taken : PySem.W.kitOne K (.ref C_Empty) (.ref C_Taken) = some false)
    (is_Empty_Busy : PySem.W.kitOne K (.ref C_Empty) (.ref C_Busy) = some false)
    (is_Empty_NoReserve : PySem.W.kitOne K (.ref C_Empty) (.ref C_NoReserve) = some false)
    (is_Empty_Closed : PySem.W.kitOne K (.ref C_Empty) (.ref C_Closed) = some false)
    (is_Empty_Jammed : PySem.W.kitOne K (.ref C_Empty) (.ref C_Jammed) = some false)
    (is_Empty_FloorError : PySem.W.kitOne K (.ref C_Empty) (.ref C_FloorError) = some true)
    (is_Empty_ValueError : PySem.W.kitOne K (.ref C_Empty) (.type "ValueError") = some true)
    (ga_Empty : PySem.W.findIn K (.ref C_Empty) "__getattribute__" = some (some (.builtin "BaseException.__getattribute__")))
    (gn_Empty : PySem.W.findIn K (.ref C_Empty) "__getattr__" = some none)
    (bx_Empty : PySem.W.mroIn K C_Empty (.type "BaseException") = some true)
    (cl_Empty : (PySem.W.clsIn K C_Empty).isSome = true)
    (ca_Empty : PySem.W.findIn K (.ref C_Empty) "__class__" = some (some (.builtin "object.__class__")))
    (cm_Empty : PySem.W.mroIn K C_Empty (.type "object") = some true)
    (cgx : PySem.W.specialIn K (.builtin "object.__class__") "__get__" = some (some (.builtin "getset_descriptor.__get__")))
    (ctx : PySem.W.takesIn K (.builtin "object.__class__") = some true)
    (a_Heap_init : PySem.W.findIn K (.ref C_Heap) "__init__" = some (some (.ref f_Heap_init))) (i_Heap_init : PySem.W.isFn K (.ref f_Heap_init) = true)
    (l_Heap_init : K.lookup f_Heap_init = some ⟨oc_Heap_init, od_Heap_init, .func (PySem.W.fnOf "__init__" "Heap.__init__" (defArgs s_Heap_init) (defBody s_Heap_init) (defScope s_Heap_init) .none kV_Heap_init dc_Heap_init pm_Heap_init an_Heap_init cd_Heap_init ct_Heap_init), sl_Heap_init⟩) (c_Heap_init : PySem.W.codeIn K cd_Heap_init "Heap.__init__" = true) (k_Heap_init : PySem.W.keepIn K (.ref f_Heap_init) = true)
    (a_Heap_put : PySem.W.findIn K (.ref C_Heap) "put" = some (some (.ref f_Heap_put))) (i_Heap_put : PySem.W.isFn K (.ref f_Heap_put) = true)
    (l_Heap_put : K.lookup f_Heap_put = some ⟨oc_Heap_put, od_Heap_put, .func (PySem.W.fnOf "put" "Heap.put" (defArgs s_Heap_put) (defBody s_Heap_put) (defScope s_Heap_put) .none kV_Heap_put dc_Heap_put pm_Heap_put an_Heap_put cd_Heap_put ct_Heap_put), sl_Heap_put⟩) (c_Heap_put : PySem.W.codeIn K cd_Heap_put "Heap.put" = true) (k_Heap_put : PySem.W.keepIn K (.ref f_Heap_put) = true)
    (a_Heap_least : PySem.W.findIn K (.ref C_Heap) "least" = some (some (.ref f_Heap_least))) (i_Heap_least : PySem.W.isFn K (.ref f_Heap_least) = true)
    (l_Heap_least : K.lookup f_Heap_least = some ⟨oc_Heap_least, od_Heap_least, .func (PySem.W.fnOf "least" "Heap.least" (defArgs s_Heap_least) (defBody s_Heap_least) (defScope s_Heap_least) .none kV_Heap_least dc_Heap_least pm_Heap_least an_Heap_least cd_Heap_least ct_Heap_least), sl_Heap_least⟩) (c_Heap_least : PySem.W.codeIn K cd_Heap_least "Heap.least" = true) (k_Heap_least : PySem.W.keepIn K (.ref f_Heap_least) = true)
    (a_Heap_take : PySem.W.findIn K (.ref C_Heap) "take" = some (some (.ref f_Heap_take))) (i_Heap_take : PySem.W.isFn K (.ref f_Heap_take) = true)
    (l_Heap_take : K.lookup f_Heap_take = some ⟨oc_Heap_take, od_Heap_take, .func (PySem.W.fnOf "take" "Heap.take" (defArgs s_Heap_take) (defBody s_Heap_take) (defScope s_Heap_take) .none kV_Heap_take dc_Heap_take pm_Heap_take an_Heap_take cd_Heap_take ct_Heap_take), sl_Heap_take⟩) (c_Heap_take : PySem.W.codeIn K cd_Heap_take "Heap.take" = true) (k_Heap_take : PySem.W.keepIn K (.ref f_Heap_take) = true)
    (a_Heap_size : PySem.W.findIn K (.ref C_Heap) "size" = some (some (.ref f_Heap_size))) (i_Heap_size : PySem.W.isFn K (.ref f_Heap_size) = true)
    (l_Heap_size : K.lookup f_Heap_size = some ⟨oc_Heap_size, od_Heap_size, .func (PySem.W.fnOf "size" "Heap.size" (defArgs s_Heap_size) (defBody s_Heap_size) (defScope s_Heap_size) .none kV_Heap_size dc_Heap_size pm_Heap_size an_Heap_size cd_Heap_size ct_Heap_size), sl_Heap_size⟩) (c_Heap_size : PySem.W.codeIn K cd_Heap_size "Heap.size" = true) (k_Heap_size : PySem.W.keepIn K (.ref f_Heap_size) = true)
    (a_Heap_lying : PySem.W.findIn K (.ref C_Heap) "lying" = some (some (.ref f_Heap_lying))) (i_Heap_lying : PySem.W.isFn K (.ref f_Heap_lying) = true)
    (l_Heap_lying : K.lookup f_Heap_lying = some ⟨oc_Heap_lying, od_Heap_lying, .func (PySem.W.fnOf "lying" "Heap.lying" (defArgs s_Heap_lying) (defBody s_Heap_lying) (defScope s_Heap_lying) .none kV_Heap_lying dc_Heap_lying pm_Heap_lying an_Heap_lying cd_Heap_lying ct_Heap_lying), sl_Heap_lying⟩) (c_Heap_lying : PySem.W.codeIn K cd_Heap_lying "Heap.lying" = true) (k_Heap_lying : PySem.W.keepIn K (.ref f_Heap_lying) = true)
    (a_Heap_lift_last : PySem.W.findIn K (.ref C_Heap) "lift_last" = some (some (.ref f_Heap_lift_last))) (i_Heap_lift_last : PySem.W.isFn K (.ref f_Heap_lift_last) = true)
    (l_Heap_lift_last : K.lookup f_Heap_lift_last = some ⟨oc_Heap_lift_last, od_Heap_lift_last, .func (PySem.W.fnOf "lift_last" "Heap.lift_last" (defArgs s_Heap_lift_last) (defBody s_Heap_lift_last) (defScope s_Heap_lift_last) .none kV_Heap_lift_last dc_Heap_lift_last pm_Heap_lift_last an_Heap_lift_last cd_Heap_lift_last ct_Heap_lift_last), sl_Heap_lift_last⟩) (c_Heap_lift_last : PySem.W.codeIn K cd_Heap_lift_last "Heap.lift_last" = true) (k_Heap_lift_last : PySem.W.keepIn K (.ref f_Heap_lift_last) = true)
    (a_Heap_sink_first : PySem.W.findIn K (.ref C_Heap) "sink_first" = some (some (.ref f_Heap_sink_first))) (i_Heap_sink_first : PySem.W.isFn K (.ref f_Heap_sink_first) = true)
    (l_Heap_sink_first : K.lookup f_Heap_sink_first = some ⟨oc_Heap_sink_first, od_Heap_sink_first, .func (PySem.W.fnOf "sink_first" "Heap.sink_first" (defArgs s_Heap_sink_first) (defBody s_Heap_sink_first) (defScope s_Heap_sink_first) .none kV_Heap_sink_first dc_Heap_sink_first pm_Heap_sink_first an_Heap_sink_first cd_Heap_sink_first ct_Heap_sink_first), sl_Heap_sink_first⟩) (c_Heap_sink_first : PySem.W.codeIn K cd_Heap_sink_first "Heap.sink_first" = true) (k_Heap_sink_first : PySem.W.keepIn K (.ref f_Heap_sink_first) = true)
    (a_Heap_lesser_below : PySem.W.findIn K (.ref C_Heap) "lesser_below" = some (some (.ref f_Heap_lesser_below))) (i_Heap_lesser_below : PySem.W.isFn K (.ref f_Heap_lesser_below) = true)
    (l_Heap_lesser_below : K.lookup f_Heap_lesser_below = some ⟨oc_Heap_lesser_below, od_Heap_lesser_below, .func (PySem.W.fnOf "lesser_below" "Heap.lesser_below" (defArgs s_Heap_lesser_below) (defBody s_Heap_lesser_below) (defScope s_Heap_lesser_below) .none kV_Heap_lesser_below dc_Heap_lesser_below pm_Heap_lesser_below an_Heap_lesser_below cd_Heap_lesser_below ct_Heap_lesser_below), sl_Heap_lesser_below⟩) (c_Heap_lesser_below : PySem.W.codeIn K cd_Heap_lesser_below "Heap.lesser_below" = true) (k_Heap_lesser_below : PySem.W.keepIn K (.ref f_Heap_lesser_below) = true)
    (a_Heap_swap : PySem.W.findIn K (.ref C_Heap) "swap" = some (some (.ref f_Heap_swap))) (i_Heap_swap : PySem.W.isFn K (.ref f_Heap_swap) = true)
    (l_Heap_swap : K.lookup f_Heap_swap = some ⟨oc_Heap_swap, od_Heap_swap, .func (PySem.W.fnOf "swap" "Heap.swap" (defArgs s_Heap_swap) (defBody s_Heap_swap) (defScope s_Heap_swap) .none kV_Heap_swap dc_Heap_swap pm_Heap_swap an_Heap_swap cd_Heap_swap ct_Heap_swap), sl_Heap_swap⟩) (c_Heap_swap : PySem.W.codeIn K cd_Heap_swap "Heap.swap" = true) (k_Heap_swap : PySem.W.keepIn K (.ref f_Heap_swap) = true)
    (a_Lat : PySem.W.nsIn K mainGlobals "_law_at" = some (some (.ref f_Lat)))
    (l_Lat : K.lookup f_Lat = some ⟨oc_Lat, od_Lat, .func (PySem.W.fnOf "_law_at" "_law_at" (defArgs s_Lat) (defBody s_Lat) (defScope s_Lat) .none kV_Lat dc_Lat pm_Lat an_Lat cd_Lat ct_Lat), sl_Lat⟩) (c_Lat : PySem.W.codeIn K cd_Lat "_law_at" = true) (k_Lat : PySem.W.keepIn K (.ref f_Lat) = true)
    (a_Lmixed : PySem.W.nsIn K mainGlobals "_law_mixed" = some (some (.ref f_Lmixed)))
    (l_Lmixed : K.lookup f_Lmixed = some ⟨oc_Lmixed, od_Lmixed, .func (PySem.W.fnOf "_law_mixed" "_law_mixed" (defArgs s_Lmixed) (defBody s_Lmixed) (defScope s_Lmixed) .none kV_Lmixed dc_Lmixed pm_Lmixed an_Lmixed cd_Lmixed ct_Lmixed), sl_Lmixed⟩) (c_Lmixed : PySem.W.codeIn K cd_Lmixed "_law_mixed" = true) (k_Lmixed : PySem.W.keepIn K (.ref f_Lmixed) = true)
    (a_Lwhole : PySem.W.nsIn K mainGlobals "_law_whole" = some (some (.ref f_Lwhole)))
    (l_Lwhole : K.lookup f_Lwhole = some ⟨oc_Lwhole, od_Lwhole, .func (PySem.W.fnOf "_law_whole" "_law_whole" (defArgs s_Lwhole) (defBody s_Lwhole) (defScope s_Lwhole) .none kV_Lwhole dc_Lwhole pm_Lwhole an_Lwhole cd_Lwhole ct_Lwhole), sl_Lwhole⟩) (c_Lwhole : PySem.W.codeIn K cd_Lwhole "_law_whole" = true) (k_Lwhole : PySem.W.keepIn K (.ref f_Lwhole) = true)
    (a_Lword : PySem.W.nsIn K mainGlobals "_law_word" = some (some (.ref f_Lword)))
    (l_Lword : K.lookup f_Lword = some ⟨oc_Lword, od_Lword, .func (PySem.W.fnOf "_law_word" "_law_word" (defArgs s_Lword) (defBody s_Lword) (defScope s_Lword) .none kV_Lword dc_Lword pm_Lword an_Lword cd_Lword ct_Lword), sl_Lword⟩) (c_Lword : PySem.W.codeIn K cd_Lword "_law_word" = true) (k_Lword : PySem.W.keepIn K (.ref f_Lword) = true)
    (a_Lthing : PySem.W.nsIn K mainGlobals "_law_thing" = some (some (.ref f_Lthing)))
    (l_Lthing : K.lookup f_Lthing = some ⟨oc_Lthing, od_Lthing, .func (PySem.W.fnOf "_law_thing" "_law_thing" (defArgs s_Lthing) (defBody s_Lthing) (defScope s_Lthing) .none kV_Lthing dc_Lthing pm_Lthing an_Lthing cd_Lthing ct_Lthing), sl_Lthing⟩) (c_Lthing : PySem.W.codeIn K cd_Lthing "_law_thing" = true) (k_Lthing : PySem.W.keepIn K (.ref f_Lthing) = true)
    (a_Ltold : PySem.W.nsIn K mainGlobals "_law_told" = some (some (.ref f_Ltold)))
    (l_Ltold : K.lookup f_Ltold = some ⟨oc_Ltold, od_Ltold, .func (PySem.W.fnOf "_law_told" "_law_told" (defArgs s_Ltold) (defBody s_Ltold) (defScope s_Ltold) .none kV_Ltold dc_Ltold pm_Ltold an_Ltold cd_Ltold ct_Ltold), sl_Ltold⟩) (c_Ltold : PySem.W.codeIn K cd_Ltold "_law_told" = true) (k_Ltold : PySem.W.keepIn K (.ref f_Ltold) = true)
    (a_Lis_heap : PySem.W.nsIn K mainGlobals "_law_is_heap" = some (some (.ref f_Lis_heap)))
    (l_Lis_heap : K.lookup f_Lis_heap = some ⟨oc_Lis_heap, od_Lis_heap, .func (PySem.W.fnOf "_law_is_heap" "_law_is_heap" (defArgs s_Lis_heap) (defBody s_Lis_heap) (defScope s_Lis_heap) .none kV_Lis_heap dc_Lis_heap pm_Lis_heap an_Lis_heap cd_Lis_heap ct_Lis_heap), sl_Lis_heap⟩) (c_Lis_heap : PySem.W.codeIn K cd_Lis_heap "_law_is_heap" = true) (k_Lis_heap : PySem.W.keepIn K (.ref f_Lis_heap) = true)
    (a_Lstands : PySem.W.nsIn K mainGlobals "_law_stands" = some (some (.ref f_Lstands)))
    (l_Lstands : K.lookup f_Lstands = some ⟨oc_Lstands, od_Lstands, .func (PySem.W.fnOf "_law_stands" "_law_stands" (defArgs s_Lstands) (defBody s_Lstands) (defScope s_Lstands) .none kV_Lstands dc_Lstands pm_Lstands an_Lstands cd_Lstands ct_Lstands), sl_Lstands⟩) (c_Lstands : PySem.W.codeIn K cd_Lstands "_law_stands" = true) (k_Lstands : PySem.W.keepIn K (.ref f_Lstands) = true)
    (a_Ldone : PySem.W.nsIn K mainGlobals "_law_done" = some (some (.ref f_Ldone)))
    (l_Ldone : K.lookup f_Ldone = some ⟨oc_Ldone, od_Ldone, .func (PySem.W.fnOf "_law_done" "_law_done" (defArgs s_Ldone) (defBody s_Ldone) (defScope s_Ldone) .none kV_Ldone dc_Ldone pm_Ldone an_Ldone cd_Ldone ct_Ldone), sl_Ldone⟩) (c_Ldone : PySem.W.codeIn K cd_Ldone "_law_done" = true) (k_Ldone : PySem.W.keepIn K (.ref f_Ldone) = true)
    (a_law : PySem.W.nsIn K mainGlobals "law" = some (some (.ref f_law)))
    (l_law : K.lookup f_law = some ⟨oc_law, od_law, .func (PySem.W.fnOf "law" "law" (defArgs s_law) (defBody s_law) (defScope s_law) .none kV_law dc_law pm_law an_law cd_law ct_law), sl_law⟩) (c_law : PySem.W.codeIn K cd_law "law" = true) (k_law : PySem.W.keepIn K (.ref f_law) = true)
    (z_len : PySem.W.nsIn K mainGlobals "len" = some none)
    (z_range : PySem.W.nsIn K mainGlobals "range" = some none)
    (z_sorted : PySem.W.nsIn K mainGlobals "sorted" = some none)
    (z_min : PySem.W.nsIn K mainGlobals "min" = some none)
    (z_tuple : PySem.W.nsIn K mainGlobals "tuple" = some none)
    (z_list : PySem.W.nsIn K mainGlobals "list" = some none)
    (z_isinstance : PySem.W.nsIn K mainGlobals "isinstance" = some none)
    (z_int : PySem.W.nsIn K mainGlobals "int" = some none)
    (z_bool : PySem.W.nsIn K mainGlobals "bool" = some none)
    (z_ValueError : PySem.W.nsIn K mainGlobals "ValueError" = some none)
    : ∃ fd : FuncData, (∀ (s : Shared) (v : Value), BindsTo s fd ⟨[v], []⟩ [("_law_script", v)]) ∧ ∀ base : Heap, K.In base → base.Ns mainGlobals mg → FnOk l.prog w K mg base CX0 7 fa fd ["_law_script"] (spLaw K) := by
  obtain rfl : f_law = fa := by
    have e := hfa.symm.trans (PySem.W.mg_of X G a_law)
    cases e
    rfl
  have T : Txt K mg ⟨f_Heap_init, f_Heap_put, f_Heap_least, f_Heap_take, f_Heap_size, f_Heap_lying, f_Heap_lift_last, f_Heap_sink_first, f_Heap_lesser_below, f_Heap_swap, f_Lat, f_Lmixed, f_Lwhole, f_Lword, f_Lthing, f_Ltold, f_Lis_heap, f_Lstands, f_Ldone, f_law, C_Heap, C_Empty, C_FloorError, C_BadFloor, C_BadKind, C_BadCell, C_BadCharge, C_BadStops, C_BadWay, C_NoCarrier, C_NoTask, C_Meets, C_Taken, C_Busy, C_NoReserve, C_Closed, C_Jammed⟩ := by
    constructor
    · exact PySem.W.mg_none_of X G z_len
    · exact PySem.W.mg_none_of X G z_range
    · exact PySem.W.mg_none_of X G z_sorted
    · exact PySem.W.mg_none_of X G z_min
    · exact PySem.W.mg_none_of X G z_tuple
    · exact PySem.W.mg_none_of X G z_list
    · exact PySem.W.mg_none_of X G z_isinstance
    · exact PySem.W.mg_none_of X G z_int
    · exact PySem.W.mg_none_of X G z_bool
    · exact PySem.W.mg_none_of X G z_ValueError
    · exact ⟨a_Heap_put, i_Heap_put, k_Heap_put⟩
    · exact ⟨a_Heap_least, i_Heap_least, k_Heap_least⟩
    · exact ⟨a_Heap_take, i_Heap_take, k_Heap_take⟩
    · exact ⟨a_Heap_size, i_Heap_size, k_Heap_size⟩
    · exact ⟨a_Heap_lying, i_Heap_lying, k_Heap_lying⟩
    · exact ⟨a_Heap_lift_last, i_Heap_lift_last, k_Heap_lift_last⟩
    · exact ⟨a_Heap_sink_first, i_Heap_sink_first, k_Heap_sink_first⟩
    · exact ⟨a_Heap_lesser_below, i_Heap_lesser_below, k_Heap_lesser_below⟩
    · exact ⟨a_Heap_swap, i_Heap_swap, k_Heap_swap⟩
    · exact PySem.W.mg_of X G a_Lat
    · exact k_Lat
    · exact PySem.W.mg_of X G a_Lmixed
    · exact k_Lmixed
    · exact PySem.W.mg_of X G a_Lwhole
    · exact k_Lwhole
    · exact PySem.W.mg_of X G a_Lword
    · exact k_Lword
    · exact PySem.W.mg_of X G a_Lthing
    · exact k_Lthing
    · exact PySem.W.mg_of X G a_Ltold
    · exact k_Ltold
    · exact PySem.W.mg_of X G a_Lis_heap
    · exact k_Lis_heap
    · exact PySem.W.mg_of X G a_Lstands
    · exact k_Lstands
    · exact PySem.W.mg_of X G a_Ldone
    · exact k_Ldone
    · exact PySem.W.mg_of X G a_law
    · exact k_law
    · exact PySem.W.mg_of X G aC_Heap
    · exact ⟨pg_Heap, hd_Heap, po_Heap, sa_Heap⟩
    · exact n_Heap_things
    · exact ⟨mk_Heap, a_Heap_init, i_Heap_init, kc_Heap⟩
    · exact PySem.W.mg_of X G aC_Empty
    · exact ⟨er_Empty⟩
    · exact PySem.W.mg_of X G aC_FloorError
    · exact PySem.W.mg_of X G aC_BadFloor
    · exact PySem.W.mg_of X G aC_BadKind
    · exact PySem.W.mg_of X G aC_BadCell
    · exact PySem.W.mg_of X G aC_BadCharge
    · exact PySem.W.mg_of X G aC_BadStops
    · exact PySem.W.mg_of X G aC_BadWay
    · exact PySem.W.mg_of X G aC_NoCarrier
    · exact PySem.W.mg_of X G aC_NoTask
    · exact PySem.W.mg_of X G aC_Meets
    · exact PySem.W.mg_of X G aC_Taken
    · exact PySem.W.mg_of X G aC_Busy
    · exact PySem.W.mg_of X G aC_NoReserve
    · exact PySem.W.mg_of X G aC_Closed
    · exact PySem.W.mg_of X G aC_Jammed
    · exact xm_Empty_FloorError
    · exact is_Empty_BadFloor
    · exact is_Empty_BadKind
    · exact is_Empty_BadCell
    · exact is_Empty_BadCharge
    · exact is_Empty_BadStops
    · exact is_Empty_BadWay
    · exact is_Empty_Empty
    · exact is_Empty_NoCarrier
    · exact is_Empty_NoTask
    · exact is_Empty_Meets
    · exact is_Empty_Taken
    · exact is_Empty_Busy
    · exact is_Empty_NoReserve
    · exact is_Empty_Closed
    · exact is_Empty_Jammed
    · exact is_Empty_FloorError
    · exact is_Empty_ValueError
    · exact ga_Empty
    · exact gn_Empty
    · exact bx_Empty
    · exact cl_Empty
    · exact ca_Empty
    · exact cm_Empty
    · exact cgx
    · exact ctx
  have F_Heap_init := fun_mk (st := s_Heap_init) l_Heap_init c_Heap_init k_Heap_init
  have B_Heap_init := F_Heap_init.binds (ps := ["self"]) fun _ _ _ _ _ _ us hl => match us, hl with | [_], _ => rfl
  have F_Heap_put := fun_mk (st := s_Heap_put) l_Heap_put c_Heap_put k_Heap_put
  have B_Heap_put := F_Heap_put.binds (ps := ["self", "thing"]) fun _ _ _ _ _ _ us hl => match us, hl with | [_, _], _ => rfl
  have F_Heap_least := fun_mk (st := s_Heap_least) l_Heap_least c_Heap_least k_Heap_least
  have B_Heap_least := F_Heap_least.binds (ps := ["self"]) fun _ _ _ _ _ _ us hl => match us, hl with | [_], _ => rfl
  have F_Heap_take := fun_mk (st := s_Heap_take) l_Heap_take c_Heap_take k_Heap_take
  have B_Heap_take := F_Heap_take.binds (ps := ["self"]) fun _ _ _ _ _ _ us hl => match us, hl with | [_], _ => rfl
  have F_Heap_size := fun_mk (st := s_Heap_size) l_Heap_size c_Heap_size k_Heap_size
  have B_Heap_size := F_Heap_size.binds (ps := ["self"]) fun _ _ _ _ _ _ us hl => match us, hl with | [_], _ => rfl
  have F_Heap_lying := fun_mk (st := s_Heap_lying) l_Heap_lying c_Heap_lying k_Heap_lying
  have B_Heap_lying := F_Heap_lying.binds (ps := ["self"]) fun _ _ _ _ _ _ us hl => match us, hl with | [_], _ => rfl
  have F_Heap_lift_last := fun_mk (st := s_Heap_lift_last) l_Heap_lift_last c_Heap_lift_last k_Heap_lift_last
  have B_Heap_lift_last := F_Heap_lift_last.binds (ps := ["self"]) fun _ _ _ _ _ _ us hl => match us, hl with | [_], _ => rfl
  have F_Heap_sink_first := fun_mk (st := s_Heap_sink_first) l_Heap_sink_first c_Heap_sink_first k_Heap_sink_first
  have B_Heap_sink_first := F_Heap_sink_first.binds (ps := ["self"]) fun _ _ _ _ _ _ us hl => match us, hl with | [_], _ => rfl
  have F_Heap_lesser_below := fun_mk (st := s_Heap_lesser_below) l_Heap_lesser_below c_Heap_lesser_below k_Heap_lesser_below
  have B_Heap_lesser_below := F_Heap_lesser_below.binds (ps := ["self", "place"]) fun _ _ _ _ _ _ us hl => match us, hl with | [_, _], _ => rfl
  have F_Heap_swap := fun_mk (st := s_Heap_swap) l_Heap_swap c_Heap_swap k_Heap_swap
  have B_Heap_swap := F_Heap_swap.binds (ps := ["self", "place", "other"]) fun _ _ _ _ _ _ us hl => match us, hl with | [_, _, _], _ => rfl
  have F_Lat := fun_mk (st := s_Lat) l_Lat c_Lat k_Lat
  have B_Lat := F_Lat.binds (ps := ["_law_script", "_law_k"]) fun _ _ _ _ _ _ us hl => match us, hl with | [_, _], _ => rfl
  have F_Lmixed := fun_mk (st := s_Lmixed) l_Lmixed c_Lmixed k_Lmixed
  have B_Lmixed := F_Lmixed.binds (ps := ["_law_cell", "_law_k"]) fun _ _ _ _ _ _ us hl => match us, hl with | [_, _], _ => rfl
  have F_Lwhole := fun_mk (st := s_Lwhole) l_Lwhole c_Lwhole k_Lwhole
  have B_Lwhole := F_Lwhole.binds (ps := ["_law_thing_here"]) fun _ _ _ _ _ _ us hl => match us, hl with | [_], _ => rfl
  have F_Lword := fun_mk (st := s_Lword) l_Lword c_Lword k_Lword
  have B_Lword := F_Lword.binds (ps := ["_law_error"]) fun _ _ _ _ _ _ us hl => match us, hl with | [_], _ => rfl
  have F_Lthing := fun_mk (st := s_Lthing) l_Lthing c_Lthing k_Lthing
  have B_Lthing := F_Lthing.binds (ps := ["_law_cell", "_law_rows"]) fun _ _ _ _ _ _ us hl => match us, hl with | [_, _], _ => rfl
  have F_Ltold := fun_mk (st := s_Ltold) l_Ltold c_Ltold k_Ltold
  have B_Ltold := F_Ltold.binds (ps := ["_law_heap", "_law_way"]) fun _ _ _ _ _ _ us hl => match us, hl with | [_, _], _ => rfl
  have F_Lis_heap := fun_mk (st := s_Lis_heap) l_Lis_heap c_Lis_heap k_Lis_heap
  have B_Lis_heap := F_Lis_heap.binds (ps := ["_law_found", "_law_rows"]) fun _ _ _ _ _ _ us hl => match us, hl with | [_, _], _ => rfl
  have F_Lstands := fun_mk (st := s_Lstands) l_Lstands c_Lstands k_Lstands
  have B_Lstands := F_Lstands.binds (ps := ["_law_heap", "_law_rows", "_law_cell", "_law_kept"]) fun _ _ _ _ _ _ us hl => match us, hl with | [_, _, _, _], _ => rfl
  have F_Ldone := fun_mk (st := s_Ldone) l_Ldone c_Ldone k_Ldone
  have B_Ldone := F_Ldone.binds (ps := ["_law_heap", "_law_rows", "_law_cell"]) fun _ _ _ _ _ _ us hl => match us, hl with | [_, _, _], _ => rfl
  have F_law := fun_mk (st := s_law) l_law c_law k_law
  refine ⟨PySem.W.fnOf "law" "law" (defArgs s_law) (defBody s_law) (defScope s_law) .none kV_law dc_law pm_law an_law cd_law ct_law, ?bd, fun base _ _ => ?fn⟩
  case fn =>
    have G_Heap_init : FnOk l.prog w K mg base CX0 1 f_Heap_init _ ["self"] (spHInit (⟨f_Heap_init, f_Heap_put, f_Heap_least, f_Heap_take, f_Heap_size, f_Heap_lying, f_Heap_lift_last, f_Heap_sink_first, f_Heap_lesser_below, f_Heap_swap, f_Lat, f_Lmixed, f_Lwhole, f_Lword, f_Lthing, f_Ltold, f_Lis_heap, f_Lstands, f_Ldone, f_law, C_Heap, C_Empty, C_FloorError, C_BadFloor, C_BadKind, C_BadCell, C_BadCharge, C_BadStops, C_BadWay, C_NoCarrier, C_NoTask, C_Meets, C_Taken, C_Busy, C_NoReserve, C_Closed, C_Jammed⟩ : Ad)) := ok_Heap_init (ad := ⟨f_Heap_init, f_Heap_put, f_Heap_least, f_Heap_take, f_Heap_size, f_Heap_lying, f_Heap_lift_last, f_Heap_sink_first, f_Heap_lesser_below, f_Heap_swap, f_Lat, f_Lmixed, f_Lwhole, f_Lword, f_Lthing, f_Ltold, f_Lis_heap, f_Lstands, f_Ldone, f_law, C_Heap, C_Empty, C_FloorError, C_BadFloor, C_BadKind, C_BadCell, C_BadCharge, C_BadStops, C_BadWay, C_NoCarrier, C_NoTask, C_Meets, C_Taken, C_Busy, C_NoReserve, C_Closed, C_Jammed⟩) F_Heap_init T
    have G_Heap_swap : FnOk l.prog w K mg base CX0 1 f_Heap_swap _ ["self", "place", "other"] (spSwap (⟨f_Heap_init, f_Heap_put, f_Heap_least, f_Heap_take, f_Heap_size, f_Heap_lying, f_Heap_lift_last, f_Heap_sink_first, f_Heap_lesser_below, f_Heap_swap, f_Lat, f_Lmixed, f_Lwhole, f_Lword, f_Lthing, f_Ltold, f_Lis_heap, f_Lstands, f_Ldone, f_law, C_Heap, C_Empty, C_FloorError, C_BadFloor, C_BadKind, C_BadCell, C_BadCharge, C_BadStops, C_BadWay, C_NoCarrier, C_NoTask, C_Meets, C_Taken, C_Busy, C_NoReserve, C_Closed, C_Jammed⟩ : Ad)) := ok_Heap_swap (ad := ⟨f_Heap_init, f_Heap_put, f_Heap_least, f_Heap_take, f_Heap_size, f_Heap_lying, f_Heap_lift_last, f_Heap_sink_first, f_Heap_lesser_below, f_Heap_swap, f_Lat, f_Lmixed, f_Lwhole, f_Lword, f_Lthing, f_Ltold, f_Lis_heap, f_Lstands, f_Ldone, f_law, C_Heap, C_Empty, C_FloorError, C_BadFloor, C_BadKind, C_BadCell, C_BadCharge, C_BadStops, C_BadWay, C_NoCarrier, C_NoTask, C_Meets, C_Taken, C_Busy, C_NoReserve, C_Closed, C_Jammed⟩) F_Heap_swap T
    have G_Heap_lesser_below : FnOk l.prog w K mg base CX0 1 f_Heap_lesser_below _ ["self", "place"] (spLesser (⟨f_Heap_init, f_Heap_put, f_Heap_least, f_Heap_take, f_Heap_size, f_Heap_lying, f_Heap_lift_last, f_Heap_sink_first, f_Heap_lesser_below, f_Heap_swap, f_Lat, f_Lmixed, f_Lwhole, f_Lword, f_Lthing, f_Ltold, f_Lis_heap, f_Lstands, f_Ldone, f_law, C_Heap, C_Empty, C_FloorError, C_BadFloor, C_BadKind, C_BadCell, C_BadCharge, C_BadStops, C_BadWay, C_NoCarrier, C_NoTask, C_Meets, C_Taken, C_Busy, C_NoReserve, C_Closed, C_Jammed⟩ : Ad)) := ok_Heap_lesser_below (ad := ⟨f_Heap_init, f_Heap_put, f_Heap_least, f_Heap_take, f_Heap_size, f_Heap_lying, f_Heap_lift_last, f_Heap_sink_first, f_Heap_lesser_below, f_Heap_swap, f_Lat, f_Lmixed, f_Lwhole, f_Lword, f_Lthing, f_Ltold, f_Lis_heap, f_Lstands, f_Ldone, f_law, C_Heap, C_Empty, C_FloorError, C_BadFloor, C_BadKind, C_BadCell, C_BadCharge, C_BadStops, C_BadWay, C_NoCarrier, C_NoTask, C_Meets, C_Taken, C_Busy, C_NoReserve, C_Closed, C_Jammed⟩) F_Heap_lesser_below T
    have G_Heap_lift_last : FnOk l.prog w K mg base CX0 2 f_Heap_lift_last _ ["self"] (spLift (⟨f_Heap_init, f_Heap_put, f_Heap_least, f_Heap_take, f_Heap_size, f_Heap_lying, f_Heap_lift_last, f_Heap_sink_first, f_Heap_lesser_below, f_Heap_swap, f_Lat, f_Lmixed, f_Lwhole, f_Lword, f_Lthing, f_Ltold, f_Lis_heap, f_Lstands, f_Ldone, f_law, C_Heap, C_Empty, C_FloorError, C_BadFloor, C_BadKind, C_BadCell, C_BadCharge, C_BadStops, C_BadWay, C_NoCarrier, C_NoTask, C_Meets, C_Taken, C_Busy, C_NoReserve, C_Closed, C_Jammed⟩ : Ad)) := ok_Heap_lift_last (ad := ⟨f_Heap_init, f_Heap_put, f_Heap_least, f_Heap_take, f_Heap_size, f_Heap_lying, f_Heap_lift_last, f_Heap_sink_first, f_Heap_lesser_below, f_Heap_swap, f_Lat, f_Lmixed, f_Lwhole, f_Lword, f_Lthing, f_Ltold, f_Lis_heap, f_Lstands, f_Ldone, f_law, C_Heap, C_Empty, C_FloorError, C_BadFloor, C_BadKind, C_BadCell, C_BadCharge, C_BadStops, C_BadWay, C_NoCarrier, C_NoTask, C_Meets, C_Taken, C_Busy, C_NoReserve, C_Closed, C_Jammed⟩) F_Heap_lift_last T B_Heap_swap G_Heap_swap
    have G_Heap_sink_first : FnOk l.prog w K mg base CX0 2 f_Heap_sink_first _ ["self"] (spSink (⟨f_Heap_init, f_Heap_put, f_Heap_least, f_Heap_take, f_Heap_size, f_Heap_lying, f_Heap_lift_last, f_Heap_sink_first, f_Heap_lesser_below, f_Heap_swap, f_Lat, f_Lmixed, f_Lwhole, f_Lword, f_Lthing, f_Ltold, f_Lis_heap, f_Lstands, f_Ldone, f_law, C_Heap, C_Empty, C_FloorError, C_BadFloor, C_BadKind, C_BadCell, C_BadCharge, C_BadStops, C_BadWay, C_NoCarrier, C_NoTask, C_Meets, C_Taken, C_Busy, C_NoReserve, C_Closed, C_Jammed⟩ : Ad)) := ok_Heap_sink_first (ad := ⟨f_Heap_init, f_Heap_put, f_Heap_least, f_Heap_take, f_Heap_size, f_Heap_lying, f_Heap_lift_last, f_Heap_sink_first, f_Heap_lesser_below, f_Heap_swap, f_Lat, f_Lmixed, f_Lwhole, f_Lword, f_Lthing, f_Ltold, f_Lis_heap, f_Lstands, f_Ldone, f_law, C_Heap, C_Empty, C_FloorError, C_BadFloor, C_BadKind, C_BadCell, C_BadCharge, C_BadStops, C_BadWay, C_NoCarrier, C_NoTask, C_Meets, C_Taken, C_Busy, C_NoReserve, C_Closed, C_Jammed⟩) F_Heap_sink_first T B_Heap_swap G_Heap_swap B_Heap_lesser_below G_Heap_lesser_below
    have G_Heap_least : FnOk l.prog w K mg base (CXE l.prog w) 1 f_Heap_least _ ["self"] (spLeast (⟨f_Heap_init, f_Heap_put, f_Heap_least, f_Heap_take, f_Heap_size, f_Heap_lying, f_Heap_lift_last, f_Heap_sink_first, f_Heap_lesser_below, f_Heap_swap, f_Lat, f_Lmixed, f_Lwhole, f_Lword, f_Lthing, f_Ltold, f_Lis_heap, f_Lstands, f_Ldone, f_law, C_Heap, C_Empty, C_FloorError, C_BadFloor, C_BadKind, C_BadCell, C_BadCharge, C_BadStops, C_BadWay, C_NoCarrier, C_NoTask, C_Meets, C_Taken, C_Busy, C_NoReserve, C_Closed, C_Jammed⟩ : Ad)) := ok_Heap_least (ad := ⟨f_Heap_init, f_Heap_put, f_Heap_least, f_Heap_take, f_Heap_size, f_Heap_lying, f_Heap_lift_last, f_Heap_sink_first, f_Heap_lesser_below, f_Heap_swap, f_Lat, f_Lmixed, f_Lwhole, f_Lword, f_Lthing, f_Ltold, f_Lis_heap, f_Lstands, f_Ldone, f_law, C_Heap, C_Empty, C_FloorError, C_BadFloor, C_BadKind, C_BadCell, C_BadCharge, C_BadStops, C_BadWay, C_NoCarrier, C_NoTask, C_Meets, C_Taken, C_Busy, C_NoReserve, C_Closed, C_Jammed⟩) F_Heap_least T
    have G_Heap_put : FnOk l.prog w K mg base CX0 3 f_Heap_put _ ["self", "thing"] (spHPut (⟨f_Heap_init, f_Heap_put, f_Heap_least, f_Heap_take, f_Heap_size, f_Heap_lying, f_Heap_lift_last, f_Heap_sink_first, f_Heap_lesser_below, f_Heap_swap, f_Lat, f_Lmixed, f_Lwhole, f_Lword, f_Lthing, f_Ltold, f_Lis_heap, f_Lstands, f_Ldone, f_law, C_Heap, C_Empty, C_FloorError, C_BadFloor, C_BadKind, C_BadCell, C_BadCharge, C_BadStops, C_BadWay, C_NoCarrier, C_NoTask, C_Meets, C_Taken, C_Busy, C_NoReserve, C_Closed, C_Jammed⟩ : Ad)) := ok_Heap_put (ad := ⟨f_Heap_init, f_Heap_put, f_Heap_least, f_Heap_take, f_Heap_size, f_Heap_lying, f_Heap_lift_last, f_Heap_sink_first, f_Heap_lesser_below, f_Heap_swap, f_Lat, f_Lmixed, f_Lwhole, f_Lword, f_Lthing, f_Ltold, f_Lis_heap, f_Lstands, f_Ldone, f_law, C_Heap, C_Empty, C_FloorError, C_BadFloor, C_BadKind, C_BadCell, C_BadCharge, C_BadStops, C_BadWay, C_NoCarrier, C_NoTask, C_Meets, C_Taken, C_Busy, C_NoReserve, C_Closed, C_Jammed⟩) F_Heap_put T B_Heap_lift_last G_Heap_lift_last
    have G_Heap_take : FnOk l.prog w K mg base (CXE l.prog w) 3 f_Heap_take _ ["self"] (spTake (⟨f_Heap_init, f_Heap_put, f_Heap_least, f_Heap_take, f_Heap_size, f_Heap_lying, f_Heap_lift_last, f_Heap_sink_first, f_Heap_lesser_below, f_Heap_swap, f_Lat, f_Lmixed, f_Lwhole, f_Lword, f_Lthing, f_Ltold, f_Lis_heap, f_Lstands, f_Ldone, f_law, C_Heap, C_Empty, C_FloorError, C_BadFloor, C_BadKind, C_BadCell, C_BadCharge, C_BadStops, C_BadWay, C_NoCarrier, C_NoTask, C_Meets, C_Taken, C_Busy, C_NoReserve, C_Closed, C_Jammed⟩ : Ad)) := ok_Heap_take (ad := ⟨f_Heap_init, f_Heap_put, f_Heap_least, f_Heap_take, f_Heap_size, f_Heap_lying, f_Heap_lift_last, f_Heap_sink_first, f_Heap_lesser_below, f_Heap_swap, f_Lat, f_Lmixed, f_Lwhole, f_Lword, f_Lthing, f_Ltold, f_Lis_heap, f_Lstands, f_Ldone, f_law, C_Heap, C_Empty, C_FloorError, C_BadFloor, C_BadKind, C_BadCell, C_BadCharge, C_BadStops, C_BadWay, C_NoCarrier, C_NoTask, C_Meets, C_Taken, C_Busy, C_NoReserve, C_Closed, C_Jammed⟩) F_Heap_take T B_Heap_least G_Heap_least B_Heap_sink_first G_Heap_sink_first
    have G_Heap_size : FnOk l.prog w K mg base CX0 1 f_Heap_size _ ["self"] (spSize (⟨f_Heap_init, f_Heap_put, f_Heap_least, f_Heap_take, f_Heap_size, f_Heap_lying, f_Heap_lift_last, f_Heap_sink_first, f_Heap_lesser_below, f_Heap_swap, f_Lat, f_Lmixed, f_Lwhole, f_Lword, f_Lthing, f_Ltold, f_Lis_heap, f_Lstands, f_Ldone, f_law, C_Heap, C_Empty, C_FloorError, C_BadFloor, C_BadKind, C_BadCell, C_BadCharge, C_BadStops, C_BadWay, C_NoCarrier, C_NoTask, C_Meets, C_Taken, C_Busy, C_NoReserve, C_Closed, C_Jammed⟩ : Ad)) := ok_Heap_size (ad := ⟨f_Heap_init, f_Heap_put, f_Heap_least, f_Heap_take, f_Heap_size, f_Heap_lying, f_Heap_lift_last, f_Heap_sink_first, f_Heap_lesser_below, f_Heap_swap, f_Lat, f_Lmixed, f_Lwhole, f_Lword, f_Lthing, f_Ltold, f_Lis_heap, f_Lstands, f_Ldone, f_law, C_Heap, C_Empty, C_FloorError, C_BadFloor, C_BadKind, C_BadCell, C_BadCharge, C_BadStops, C_BadWay, C_NoCarrier, C_NoTask, C_Meets, C_Taken, C_Busy, C_NoReserve, C_Closed, C_Jammed⟩) F_Heap_size T
    have G_Heap_lying : FnOk l.prog w K mg base CX0 1 f_Heap_lying _ ["self"] (spLying (⟨f_Heap_init, f_Heap_put, f_Heap_least, f_Heap_take, f_Heap_size, f_Heap_lying, f_Heap_lift_last, f_Heap_sink_first, f_Heap_lesser_below, f_Heap_swap, f_Lat, f_Lmixed, f_Lwhole, f_Lword, f_Lthing, f_Ltold, f_Lis_heap, f_Lstands, f_Ldone, f_law, C_Heap, C_Empty, C_FloorError, C_BadFloor, C_BadKind, C_BadCell, C_BadCharge, C_BadStops, C_BadWay, C_NoCarrier, C_NoTask, C_Meets, C_Taken, C_Busy, C_NoReserve, C_Closed, C_Jammed⟩ : Ad)) := ok_Heap_lying (ad := ⟨f_Heap_init, f_Heap_put, f_Heap_least, f_Heap_take, f_Heap_size, f_Heap_lying, f_Heap_lift_last, f_Heap_sink_first, f_Heap_lesser_below, f_Heap_swap, f_Lat, f_Lmixed, f_Lwhole, f_Lword, f_Lthing, f_Ltold, f_Lis_heap, f_Lstands, f_Ldone, f_law, C_Heap, C_Empty, C_FloorError, C_BadFloor, C_BadKind, C_BadCell, C_BadCharge, C_BadStops, C_BadWay, C_NoCarrier, C_NoTask, C_Meets, C_Taken, C_Busy, C_NoReserve, C_Closed, C_Jammed⟩) F_Heap_lying T
    have G_Lat : FnOk l.prog w K mg base CX0 1 f_Lat _ ["_law_script", "_law_k"] (spAt K) := ok_Lat (ad := ⟨f_Heap_init, f_Heap_put, f_Heap_least, f_Heap_take, f_Heap_size, f_Heap_lying, f_Heap_lift_last, f_Heap_sink_first, f_Heap_lesser_below, f_Heap_swap, f_Lat, f_Lmixed, f_Lwhole, f_Lword, f_Lthing, f_Ltold, f_Lis_heap, f_Lstands, f_Ldone, f_law, C_Heap, C_Empty, C_FloorError, C_BadFloor, C_BadKind, C_BadCell, C_BadCharge, C_BadStops, C_BadWay, C_NoCarrier, C_NoTask, C_Meets, C_Taken, C_Busy, C_NoReserve, C_Closed, C_Jammed⟩) F_Lat T
    have G_Lmixed : FnOk l.prog w K mg base CX0 1 f_Lmixed _ ["_law_cell", "_law_k"] (spMixed) := ok_Lmixed (ad := ⟨f_Heap_init, f_Heap_put, f_Heap_least, f_Heap_take, f_Heap_size, f_Heap_lying, f_Heap_lift_last, f_Heap_sink_first, f_Heap_lesser_below, f_Heap_swap, f_Lat, f_Lmixed, f_Lwhole, f_Lword, f_Lthing, f_Ltold, f_Lis_heap, f_Lstands, f_Ldone, f_law, C_Heap, C_Empty, C_FloorError, C_BadFloor, C_BadKind, C_BadCell, C_BadCharge, C_BadStops, C_BadWay, C_NoCarrier, C_NoTask, C_Meets, C_Taken, C_Busy, C_NoReserve, C_Closed, C_Jammed⟩) F_Lmixed T
    have G_Lwhole : FnOk l.prog w K mg base CX0 1 f_Lwhole _ ["_law_thing_here"] (spWhole K) := ok_Lwhole (ad := ⟨f_Heap_init, f_Heap_put, f_Heap_least, f_Heap_take, f_Heap_size, f_Heap_lying, f_Heap_lift_last, f_Heap_sink_first, f_Heap_lesser_below, f_Heap_swap, f_Lat, f_Lmixed, f_Lwhole, f_Lword, f_Lthing, f_Ltold, f_Lis_heap, f_Lstands, f_Ldone, f_law, C_Heap, C_Empty, C_FloorError, C_BadFloor, C_BadKind, C_BadCell, C_BadCharge, C_BadStops, C_BadWay, C_NoCarrier, C_NoTask, C_Meets, C_Taken, C_Busy, C_NoReserve, C_Closed, C_Jammed⟩) F_Lwhole T
    have GM_Lword : ∀ {ea C : Addr} {dx : Option Addr} {ob : Obj}, MkO C dx ob → FnOkM l.prog w K mg base ea ob 1 f_Lword _ ["_law_error"] (spWord (⟨f_Heap_init, f_Heap_put, f_Heap_least, f_Heap_take, f_Heap_size, f_Heap_lying, f_Heap_lift_last, f_Heap_sink_first, f_Heap_lesser_below, f_Heap_swap, f_Lat, f_Lmixed, f_Lwhole, f_Lword, f_Lthing, f_Ltold, f_Lis_heap, f_Lstands, f_Ldone, f_law, C_Heap, C_Empty, C_FloorError, C_BadFloor, C_BadKind, C_BadCell, C_BadCharge, C_BadStops, C_BadWay, C_NoCarrier, C_NoTask, C_Meets, C_Taken, C_Busy, C_NoReserve, C_Closed, C_Jammed⟩ : Ad) K ea C dx) := fun mk => okM_Lword (ad := ⟨f_Heap_init, f_Heap_put, f_Heap_least, f_Heap_take, f_Heap_size, f_Heap_lying, f_Heap_lift_last, f_Heap_sink_first, f_Heap_lesser_below, f_Heap_swap, f_Lat, f_Lmixed, f_Lwhole, f_Lword, f_Lthing, f_Ltold, f_Lis_heap, f_Lstands, f_Ldone, f_law, C_Heap, C_Empty, C_FloorError, C_BadFloor, C_BadKind, C_BadCell, C_BadCharge, C_BadStops, C_BadWay, C_NoCarrier, C_NoTask, C_Meets, C_Taken, C_Busy, C_NoReserve, C_Closed, C_Jammed⟩) F_Lword T mk
    have G_Lthing : FnOk l.prog w K mg base CX0 2 f_Lthing _ ["_law_cell", "_law_rows"] (spThing) := ok_Lthing (ad := ⟨f_Heap_init, f_Heap_put, f_Heap_least, f_Heap_take, f_Heap_size, f_Heap_lying, f_Heap_lift_last, f_Heap_sink_first, f_Heap_lesser_below, f_Heap_swap, f_Lat, f_Lmixed, f_Lwhole, f_Lword, f_Lthing, f_Ltold, f_Lis_heap, f_Lstands, f_Ldone, f_law, C_Heap, C_Empty, C_FloorError, C_BadFloor, C_BadKind, C_BadCell, C_BadCharge, C_BadStops, C_BadWay, C_NoCarrier, C_NoTask, C_Meets, C_Taken, C_Busy, C_NoReserve, C_Closed, C_Jammed⟩) F_Lthing T B_Lmixed G_Lmixed
    have G_Ltold : FnOk l.prog w K mg base CX0 5 f_Ltold _ ["_law_heap", "_law_way"] (spTold (⟨f_Heap_init, f_Heap_put, f_Heap_least, f_Heap_take, f_Heap_size, f_Heap_lying, f_Heap_lift_last, f_Heap_sink_first, f_Heap_lesser_below, f_Heap_swap, f_Lat, f_Lmixed, f_Lwhole, f_Lword, f_Lthing, f_Ltold, f_Lis_heap, f_Lstands, f_Ldone, f_law, C_Heap, C_Empty, C_FloorError, C_BadFloor, C_BadKind, C_BadCell, C_BadCharge, C_BadStops, C_BadWay, C_NoCarrier, C_NoTask, C_Meets, C_Taken, C_Busy, C_NoReserve, C_Closed, C_Jammed⟩ : Ad)) := ok_Ltold (ad := ⟨f_Heap_init, f_Heap_put, f_Heap_least, f_Heap_take, f_Heap_size, f_Heap_lying, f_Heap_lift_last, f_Heap_sink_first, f_Heap_lesser_below, f_Heap_swap, f_Lat, f_Lmixed, f_Lwhole, f_Lword, f_Lthing, f_Ltold, f_Lis_heap, f_Lstands, f_Ldone, f_law, C_Heap, C_Empty, C_FloorError, C_BadFloor, C_BadKind, C_BadCell, C_BadCharge, C_BadStops, C_BadWay, C_NoCarrier, C_NoTask, C_Meets, C_Taken, C_Busy, C_NoReserve, C_Closed, C_Jammed⟩) F_Ltold T B_Heap_least G_Heap_least B_Heap_take G_Heap_take B_Lword GM_Lword
    have G_Lis_heap : FnOk l.prog w K mg base CX0 2 f_Lis_heap _ ["_law_found", "_law_rows"] (spIsHeap K) := ok_Lis_heap (ad := ⟨f_Heap_init, f_Heap_put, f_Heap_least, f_Heap_take, f_Heap_size, f_Heap_lying, f_Heap_lift_last, f_Heap_sink_first, f_Heap_lesser_below, f_Heap_swap, f_Lat, f_Lmixed, f_Lwhole, f_Lword, f_Lthing, f_Ltold, f_Lis_heap, f_Lstands, f_Ldone, f_law, C_Heap, C_Empty, C_FloorError, C_BadFloor, C_BadKind, C_BadCell, C_BadCharge, C_BadStops, C_BadWay, C_NoCarrier, C_NoTask, C_Meets, C_Taken, C_Busy, C_NoReserve, C_Closed, C_Jammed⟩) F_Lis_heap T B_Lwhole G_Lwhole
    have G_Lstands : FnOk l.prog w K mg base CX0 6 f_Lstands _ ["_law_heap", "_law_rows", "_law_cell", "_law_kept"] (spStands (⟨f_Heap_init, f_Heap_put, f_Heap_least, f_Heap_take, f_Heap_size, f_Heap_lying, f_Heap_lift_last, f_Heap_sink_first, f_Heap_lesser_below, f_Heap_swap, f_Lat, f_Lmixed, f_Lwhole, f_Lword, f_Lthing, f_Ltold, f_Lis_heap, f_Lstands, f_Ldone, f_law, C_Heap, C_Empty, C_FloorError, C_BadFloor, C_BadKind, C_BadCell, C_BadCharge, C_BadStops, C_BadWay, C_NoCarrier, C_NoTask, C_Meets, C_Taken, C_Busy, C_NoReserve, C_Closed, C_Jammed⟩ : Ad) K) := ok_Lstands (ad := ⟨f_Heap_init, f_Heap_put, f_Heap_least, f_Heap_take, f_Heap_size, f_Heap_lying, f_Heap_lift_last, f_Heap_sink_first, f_Heap_lesser_below, f_Heap_swap, f_Lat, f_Lmixed, f_Lwhole, f_Lword, f_Lthing, f_Ltold, f_Lis_heap, f_Lstands, f_Ldone, f_law, C_Heap, C_Empty, C_FloorError, C_BadFloor, C_BadKind, C_BadCell, C_BadCharge, C_BadStops, C_BadWay, C_NoCarrier, C_NoTask, C_Meets, C_Taken, C_Busy, C_NoReserve, C_Closed, C_Jammed⟩) F_Lstands T B_Lwhole G_Lwhole B_Heap_size G_Heap_size B_Heap_lying G_Heap_lying B_Lis_heap G_Lis_heap B_Ltold G_Ltold
    have G_Ldone : FnOk l.prog w K mg base CX0 6 f_Ldone _ ["_law_heap", "_law_rows", "_law_cell"] (spDone (⟨f_Heap_init, f_Heap_put, f_Heap_least, f_Heap_take, f_Heap_size, f_Heap_lying, f_Heap_lift_last, f_Heap_sink_first, f_Heap_lesser_below, f_Heap_swap, f_Lat, f_Lmixed, f_Lwhole, f_Lword, f_Lthing, f_Ltold, f_Lis_heap, f_Lstands, f_Ldone, f_law, C_Heap, C_Empty, C_FloorError, C_BadFloor, C_BadKind, C_BadCell, C_BadCharge, C_BadStops, C_BadWay, C_NoCarrier, C_NoTask, C_Meets, C_Taken, C_Busy, C_NoReserve, C_Closed, C_Jammed⟩ : Ad) K) := ok_Ldone (ad := ⟨f_Heap_init, f_Heap_put, f_Heap_least, f_Heap_take, f_Heap_size, f_Heap_lying, f_Heap_lift_last, f_Heap_sink_first, f_Heap_lesser_below, f_Heap_swap, f_Lat, f_Lmixed, f_Lwhole, f_Lword, f_Lthing, f_Ltold, f_Lis_heap, f_Lstands, f_Ldone, f_law, C_Heap, C_Empty, C_FloorError, C_BadFloor, C_BadKind, C_BadCell, C_BadCharge, C_BadStops, C_BadWay, C_NoCarrier, C_NoTask, C_Meets, C_Taken, C_Busy, C_NoReserve, C_Closed, C_Jammed⟩) F_Ldone T B_Ltold G_Ltold B_Lthing G_Lthing B_Heap_put G_Heap_put
    exact ok_law F_law T B_Heap_init G_Heap_init B_Lat G_Lat B_Lmixed G_Lmixed B_Ldone G_Ldone B_Lstands G_Lstands
  case bd => exact fun s v => .of_eq rfl
theorem walk {l : PySem.W.OpenLaw} {q : Program} {loose : List Str} {XP : (Str → Option Value) → Heap → Prop} {YP : World → Heap → Prop} {d : DefRec} {K : Params → PySem.W.Frag} (hn : l.most = some 63) (hdf : d.params.defaults = [])
    (hY : ∀ (w : World) (h : Heap), YP w h → (K w.params).In h)
    (F : ∀ (w : World) (mg : Str → Option Value) (fa : Addr) (h : Heap), (K w.params).In h → h.Ns mainGlobals mg → mg d.name = some (.ref fa) →
      ∃ fd : FuncData, (∀ (s : Shared) (u : Value), BindsTo s fd ⟨[u], []⟩ [("_law_script", u)]) ∧ ∀ base : Heap, (K w.params).In base → base.Ns mainGlobals mg → FnOk l.prog w (K w.params) mg base CX0 7 fa fd ["_law_script"] (spLaw (K w.params))) :
    PySem.W.WalkO q loose XP YP l.row.toRowW d [] (fun f vs => PySem.call f vs) :=
  L2.walk_of (n := 63) (k := 7) (x := "_law_script") (CX := fun _ => CX0) (sp := fun w => spLaw (K w.params)) hn (by decide) hdf ⟨rfl, by decide, by decide⟩ hY F (fun _ _ a ns hl _ hS => ⟨a, ns, rfl, hS, hl, fun _ => rfl⟩) fun _ _ _ _ _ z => z
end Pf
open PySem PySem.W PyProof.Rows
set_option maxRecDepth 100000 in
set_option maxHeartbeats 0 in
theorem PySem.Challenge.cw_floorways_k02_heaps_holds : PySem.Challenge.rw_floorways_k02_heaps.Holds := by
  w_on; o_law; k_head; (case hw => w_witness2)
  k_fill
  refine Pf.walk (l := PySem.Challenge.rw_floorways_k02_heaps) rfl rfl (fun w h Y => PySem.W.kIn_of Y) ?F
  case F =>
    intro w mg fa h KX G hmg
    refine' Pf.all_mk KX G hmg ?aC_Heap ?pg_Heap ?hd_Heap ?po_Heap ?sa_Heap ?kc_Heap ?mk_Heap ?n_Heap_things ?aC_Empty ?er_Empty ?aC_FloorError ?aC_BadFloor ?aC_BadKind ?aC_BadCell ?aC_BadCharge ?aC_BadStops ?aC_BadWay ?aC_NoCarrier ?aC_NoTask ?aC_Meets ?aC_Taken ?aC_Busy ?aC_NoReserve ?aC_Closed ?aC_Jammed ?xm_Empty_FloorError ?is_Empty_BadFloor ?is_Empty_BadKind ?is_Empty_BadCell ?is_Empty_BadCharge ?is_Empty_BadStops ?is_Empty_BadWay ?is_Empty_Empty ?is_Empty_NoCarrier ?is_Empty_NoTask ?is_Empty_Meets ?is_Empty_Taken ?is_Empty_Busy ?is_Empty_NoReserve ?is_Empty_Closed ?is_Empty_Jammed ?is_Empty_FloorError ?is_Empty_ValueError ?ga_Empty ?gn_Empty ?bx_Empty ?cl_Empty ?ca_Empty ?cm_Empty ?cgx ?ctx ?a_Heap_init ?i_Heap_init ?l_Heap_init ?c_Heap_init ?k_Heap_init ?a_Heap_put ?i_Heap_put ?l_Heap_put ?c_Heap_put ?k_Heap_put ?a_Heap_least ?i_Heap_least ?l_Heap_least ?c_Heap_least ?k_Heap_least ?a_Heap_take ?i_Heap_take ?l_Heap_take ?c_Heap_take ?k_Heap_take ?a_Heap_size ?i_Heap_size ?l_Heap_size ?c_Heap_size ?k_Heap_size ?a_Heap_lying ?i_Heap_lying ?l_Heap_lying ?c_Heap_lying ?k_Heap_lying ?a_Heap_lift_last ?i_Heap_lift_last ?l_Heap_lift_last ?c_Heap_lift_last ?k_Heap_lift_last ?a_Heap_sink_first ?i_Heap_sink_first ?l_Heap_sink_first ?c_Heap_sink_first ?k_Heap_sink_first ?a_Heap_lesser_below ?i_Heap_lesser_below ?l_Heap_lesser_below ?c_Heap_lesser_below ?k_Heap_lesser_below ?a_Heap_swap ?i_Heap_swap ?l_Heap_swap ?c_Heap_swap ?k_Heap_swap ?a_Lat ?l_Lat ?c_Lat ?k_Lat ?a_Lmixed ?l_Lmixed ?c_Lmixed ?k_Lmixed ?a_Lwhole ?l_Lwhole ?c_Lwhole ?k_Lwhole ?a_Lword ?l_Lword ?c_Lword ?k_Lword ?a_Lthing ?l_Lthing ?c_Lthing ?k_Lthing ?a_Ltold ?l_Ltold ?c_Ltold ?k_Ltold ?a_Lis_heap ?l_Lis_heap ?c_Lis_heap ?k_Lis_heap ?a_Lstands ?l_Lstands ?c_Lstands ?k_Lstands ?a_Ldone ?l_Ldone ?c_Ldone ?k_Ldone ?a_law ?l_law ?c_law ?k_law ?z_len ?z_range ?z_sorted ?z_min ?z_tuple ?z_list ?z_isinstance ?z_int ?z_bool ?z_ValueError
    (case aC_Heap => k_is)
    (case pg_Heap => k_is)
    (case hd_Heap => k_is)
    (case po_Heap => k_is)
    (case sa_Heap => k_is)
    (case kc_Heap => k_is)
    (case mk_Heap => k_is)
    (case n_Heap_things => k_is)
    (case aC_Empty => k_is)
    (case er_Empty => first | k_is | kit_is | kernel_rfl)
    (case aC_FloorError => k_is)
    (case aC_BadFloor => k_is)
    (case aC_BadKind => k_is)
    (case aC_BadCell => k_is)
    (case aC_BadCharge => k_is)
    (case aC_BadStops => k_is)
    (case aC_BadWay => k_is)
    (case aC_NoCarrier => k_is)
    (case aC_NoTask => k_is)
    (case aC_Meets => k_is)
    (case aC_Taken => k_is)
    (case aC_Busy => k_is)
    (case aC_NoReserve => k_is)
    (case aC_Closed => k_is)
    (case aC_Jammed => k_is)
    (case xm_Empty_FloorError => first | k_is | kit_is | kernel_rfl)
    (case is_Empty_BadFloor => first | k_is | kit_is | kernel_rfl)
    (case is_Empty_BadKind => first | k_is | kit_is | kernel_rfl)
    (case is_Empty_BadCell => first | k_is | kit_is | kernel_rfl)
    (case is_Empty_BadCharge => first | k_is | kit_is | kernel_rfl)
    (case is_Empty_BadStops => first | k_is | kit_is | kernel_rfl)
    (case is_Empty_BadWay => first | k_is | kit_is | kernel_rfl)
    (case is_Empty_Empty => first | k_is | kit_is | kernel_rfl)
    (case is_Empty_NoCarrier => first | k_is | kit_is | kernel_rfl)
    (case is_Empty_NoTask => first | k_is | kit_is | kernel_rfl)
    (case is_Empty_Meets => first | k_is | kit_is | kernel_rfl)
    (case is_Empty_Taken => first | k_is | kit_is | kernel_rfl)
    (case is_Empty_Busy => first | k_is | kit_is | kernel_rfl)
    (case is_Empty_NoReserve => first | k_is | kit_is | kernel_rfl)
    (case is_Empty_Closed => first | k_is | kit_is | kernel_rfl)
    (case is_Empty_Jammed => first | k_is | kit_is | kernel_rfl)
    (case is_Empty_FloorError => first | k_is | kit_is | kernel_rfl)
    (case is_Empty_ValueError => first | k_is | kit_is | kernel_rfl)
    (case ga_Empty => k_is)
    (case gn_Empty => k_is)
    (case bx_Empty => k_is)
    (case cl_Empty => first | k_is | kit_is | kernel_rfl)
    (case ca_Empty => k_is)
    (case cm_Empty => k_is)
    (case cgx => k_is)
    (case ctx => k_is)
    (case a_Heap_init => k_is)
    (case i_Heap_init => k_is)
    (case l_Heap_init => k_is)
    (case c_Heap_init => k_is)
    (case k_Heap_init => k_is)
    (case a_Heap_put => k_is)
    (case i_Heap_put => k_is)
    (case l_Heap_put => k_is)
    (case c_Heap_put => k_is)
    (case k_Heap_put => k_is)
    (case a_Heap_least => k_is)
    (case i_Heap_least => k_is)
    (case l_Heap_least => k_is)
    (case c_Heap_least => k_is)
    (case k_Heap_least => k_is)
    (case a_Heap_take => k_is)
    (case i_Heap_take => k_is)
    (case l_Heap_take => k_is)
    (case c_Heap_take => k_is)
    (case k_Heap_take => k_is)
    (case a_Heap_size => k_is)
    (case i_Heap_size => k_is)
    (case l_Heap_size => k_is)
    (case c_Heap_size => k_is)
    (case k_Heap_size => k_is)
    (case a_Heap_lying => k_is)
    (case i_Heap_lying => k_is)
    (case l_Heap_lying => k_is)
    (case c_Heap_lying => k_is)
    (case k_Heap_lying => k_is)
    (case a_Heap_lift_last => k_is)
    (case i_Heap_lift_last => k_is)
    (case l_Heap_lift_last => k_is)
    (case c_Heap_lift_last => k_is)
    (case k_Heap_lift_last => k_is)
    (case a_Heap_sink_first => k_is)
    (case i_Heap_sink_first => k_is)
    (case l_Heap_sink_first => k_is)
    (case c_Heap_sink_first => k_is)
    (case k_Heap_sink_first => k_is)
    (case a_Heap_lesser_below => k_is)
    (case i_Heap_lesser_below => k_is)
    (case l_Heap_lesser_below => k_is)
    (case c_Heap_lesser_below => k_is)
    (case k_Heap_lesser_below => k_is)
    (case a_Heap_swap => k_is)
    (case i_Heap_swap => k_is)
    (case l_Heap_swap => k_is)
    (case c_Heap_swap => k_is)
    (case k_Heap_swap => k_is)
    (case a_Lat => k_is)
    (case l_Lat => k_is)
    (case c_Lat => k_is)
    (case k_Lat => k_is)
    (case a_Lmixed => k_is)
    (case l_Lmixed => k_is)
    (case c_Lmixed => k_is)
    (case k_Lmixed => k_is)
    (case a_Lwhole => k_is)
    (case l_Lwhole => k_is)
    (case c_Lwhole => k_is)
    (case k_Lwhole => k_is)
    (case a_Lword => k_is)
    (case l_Lword => k_is)
    (case c_Lword => k_is)
    (case k_Lword => k_is)
    (case a_Lthing => k_is)
    (case l_Lthing => k_is)
    (case c_Lthing => k_is)
    (case k_Lthing => k_is)
    (case a_Ltold => k_is)
    (case l_Ltold => k_is)
    (case c_Ltold => k_is)
    (case k_Ltold => k_is)
    (case a_Lis_heap => k_is)
    (case l_Lis_heap => k_is)
    (case c_Lis_heap => k_is)
    (case k_Lis_heap => k_is)
    (case a_Lstands => k_is)
    (case l_Lstands => k_is)
    (case c_Lstands => k_is)
    (case k_Lstands => k_is)
    (case a_Ldone => k_is)
    (case l_Ldone => k_is)
    (case c_Ldone => k_is)
    (case k_Ldone => k_is)
    (case a_law => k_is)
    (case l_law => k_is)
    (case c_law => k_is)
    (case k_law => k_is)
    (case z_len => k_is)
    (case z_range => k_is)
    (case z_sorted => k_is)
    (case z_min => k_is)
    (case z_tuple => k_is)
    (case z_list => k_is)
    (case z_isinstance => k_is)
    (case z_int => k_is)
    (case z_bool => k_is)
    (case z_ValueError => k_is)
