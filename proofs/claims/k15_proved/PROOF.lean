import PyProof.Rows.All
import PyProof.StrLoop
import PyProof.TupleIter
import PyProof.RangeIter
import Wide.All
import OpenK.AllK
import Wide.FinOn
import Lean
import PyProof.EqAt
import PyProof.EqKinds
import PyProof.TupleCall
import KE.KRevIter
import PyProof.CollectIter
import PyProof.ListRange
import PyProof.StationsW
import KE.KTryMore
import PyProof.RulesAs
import PyProof.Rows.TupDisplay
import KE.KEqDict
import PyProof.SeqI3
import KE.KDictOf
import PyProof.AttrMissHeap
import PyProof.AttrMissSeq
import PyProof.CollectWalk
import PyProof.ListStr
import KE.KDictList
import PyProof.Rows.SortShell
import PyProof.Rows.SortWalk
import PyProof.NeKinds
import KE.KSortTup
import PyProof.ZipIter
import PyProof.Rows.ZipGen
import PyProof.ExcClass2
import PyProof.ExcInit
import PyProof.Draws
import PyProof.EnumMake
import PyProof.DictValues
import PyProof.DictWalks
import PyProof.Rows.CallKwBuiltin
import PyProof.Rows.SetFrom
import PySem.Challenge.RW_floorways_k15_whole_books_never_meet
def PySem.W.Fast.tw14532498470554993808:Unit:=()
def PySem.W.Fast.tw9823668929124167758:Unit:=()
def PySem.W.Fast.tw3207573746780342211:Unit:=()
def PySem.W.Fast.tw14774679147480249339:Unit:=()
def PySem.W.Fast.tw9783274805757492022:Unit:=()
def PySem.W.Fast.tw5319056413322347414:Unit:=()
def PySem.W.Fast.tw3522026632916391481:Unit:=()
def PySem.W.Fast.tw11055189114642886780:Unit:=()
def PySem.W.Fast.tw5665079369486236803:Unit:=()
def PySem.W.Fast.tw7575262144365530010:Unit:=()
def PySem.W.Fast.tw18415273432162166322:Unit:=()
def PySem.W.Fast.tw17117068361781126959:Unit:=()
def PySem.W.Fast.tw3265875077131607599:Unit:=()
def PySem.W.Fast.tw10328876282417614510:Unit:=()
def PySem.W.Fast.tw1172894126348341953:Unit:=()
def PySem.W.Fast.tw5495222752768710654:Unit:=()
def PySem.W.Fast.tw3683753826448830519:Unit:=()
def PySem.W.Fast.tw369601062138894479:Unit:=()
def PySem.W.Fast.tw12678492738515087433:Unit:=()
def PySem.W.Fast.tw15249446740395163832:Unit:=()
def PySem.W.Fast.tw2144746324801958508:Unit:=()
def PySem.W.Fast.tw3986087981593207978:Unit:=()
def PySem.W.Fast.tw8625760721159035599:Unit:=()
def PySem.W.Fast.tw9003639244135383874:Unit:=()
def PySem.W.Fast.tw9184123113100862973:Unit:=()
def PySem.W.Fast.tw9765647044165131954:Unit:=()
def PySem.W.Fast.tw13246190856817632319:Unit:=()
def PySem.W.Fast.tw9028963955421392359:Unit:=()
def PySem.W.Fast.tw15152636855692764660:Unit:=()
def PySem.W.Fast.tw6642176415802417575:Unit:=()
def PySem.W.Fast.tw7448513664960701236:Unit:=()
def PySem.W.Fast.tw2343507278002052736:Unit:=()
def PySem.W.Fast.tw8217085431331699171:Unit:=()
def PySem.W.Fast.tw13635052411727031724:Unit:=()
def PySem.W.Fast.tw12305469949662398512:Unit:=()
def PySem.W.Fast.tw8213730865902956022:Unit:=()
def PySem.W.Fast.tw254046311392789569:Unit:=()
def PySem.W.Fast.tw5343531785264611477:Unit:=()
def PySem.W.Fast.tw14826954816123475248:Unit:=()
def PySem.W.Fast.tw9927550391296942336:Unit:=()
def PySem.W.Fast.tw1896983561266780448:Unit:=()
def PySem.W.Fast.tw4464514762717289770:Unit:=()
def PySem.W.Fast.tw12381225785475902670:Unit:=()
def PySem.W.Fast.tw16644950946912466752:Unit:=()
def PySem.W.Fast.tw15452544708892836902:Unit:=()
def PySem.W.Fast.tw2589409905860225104:Unit:=()
def PySem.W.Fast.tw57182383196541615:Unit:=()
def PySem.W.Fast.tw6530329011997173757:Unit:=()
def PySem.W.Fast.tw17379637909626341965:Unit:=()
def PySem.W.Fast.tw8222041962528768305:Unit:=()
def PySem.W.Fast.tw14686173570944264655:Unit:=()
def PySem.W.Fast.tw6649900252444971390:Unit:=()
def PySem.W.Fast.tw1033286289240639317:Unit:=()
def PySem.W.Fast.tw10986124802873427058:Unit:=()
def PySem.W.Fast.tw7307781002979637783:Unit:=()
def PySem.W.Fast.tw11186916652430742684:Unit:=()
def PySem.W.Fast.tw11866293560280642244:Unit:=()
def PySem.W.Fast.tw11131037000366413005:Unit:=()
def PySem.W.Fast.tw8270973569815408052:Unit:=()
def PySem.W.Fast.tw4046535692757202134:Unit:=()
def PySem.W.Fast.tw18078480496439161779:Unit:=()
def PySem.W.Fast.tw18146928406379874545:Unit:=()
def PySem.W.Fast.tw5835858075409087647:Unit:=()
def PySem.W.Fast.tw8539181103665108903:Unit:=()
def PySem.W.Fast.tw5605219841724435310:Unit:=()
def PySem.W.Fast.tw865747443321155555:Unit:=()
def PySem.W.Fast.tw16874458802300285765:Unit:=()
def PySem.W.Fast.tw5616328018112003074:Unit:=()
def PySem.W.Fast.tw7444578795643069785:Unit:=()
def PySem.W.Fast.tw2322277063542799817:Unit:=()
def PySem.W.Fast.tw13786150571579793731:Unit:=()
def PySem.W.Fast.tw9909463163866484745:Unit:=()
def PySem.W.Fast.tw17058454644014973432:Unit:=()
def PySem.W.Fast.tw13954551521977642503:Unit:=()
def PySem.W.Fast.tw7721322406907676911:Unit:=()
def PySem.W.Fast.tw1771517897952190532:Unit:=()
def PySem.W.Fast.tw11972993809674687727:Unit:=()
def PySem.W.Fast.tw9924601565515879994:Unit:=()
def PySem.W.Fast.tw5007567246774765743:Unit:=()
def PySem.W.Fast.tw1460001424917228343:Unit:=()
def PySem.W.Fast.tw4824519444415866940:Unit:=()
def PySem.W.Fast.tw7629801062949704226:Unit:=()
def PySem.W.Fast.tw10029249601516520280:Unit:=()
def PySem.W.Fast.tw16798754220809626377:Unit:=()
def PySem.W.Fast.tw6516972622103001195:Unit:=()
def PySem.W.Fast.tw11949230297195096523:Unit:=()
def PySem.W.Fast.tw7106723867181662653:Unit:=()
def PySem.W.Fast.tw7269399720428507834:Unit:=()
def PySem.W.Fast.tw10668416540456306184:Unit:=()
def PySem.W.Fast.tw8288084054016935582:Unit:=()
def PySem.W.Fast.tw13953448964508092479:Unit:=()
def PySem.W.Fast.tw850032520862309507:Unit:=()
def PySem.W.Fast.tw15298150280136953563:Unit:=()
def PySem.W.Fast.tw15623541573533961662:Unit:=()
def PySem.W.Fast.tw1462062605258202366:Unit:=()
def PySem.W.Fast.tw9491718225204226351:Unit:=()
def PySem.W.Fast.tw1368869634670807560:Unit:=()
def PySem.W.Fast.tw14876570656900307480:Unit:=()
def PySem.W.Fast.tw4614858972892613499:Unit:=()
set_option Elab.async false
set_option linter.all false
set_option maxRecDepth 100000
namespace L2
open PySem PyProof.Rows PySem.Calls
def Hd (A:Around) (h:Heap):Prop:=
 A.handled=none∨∃ (ea C:Addr) (dx:Option Addr) (vs:Array Value) (sl:Array (Option Value)),A.handled=some (.ref ea)∧h.get? ea=some ⟨.ref C,dx,.fields vs,sl⟩∧vs[2]?=some Value.none
theorem Hd.keeps {A:Around}{h h':Heap}(d:Hd A h) (k:∀ b o,h.get? b=some o→h'.get? b=some o):Hd A h':=by
 rcases d with d | ⟨ea,C,dx,vs,sl,d1,d2,d3⟩
 ·exact .inl d
 ·exact .inr ⟨ea,C,dx,vs,sl,d1,k _ _ d2,d3⟩
theorem Hd.update {A:Around}{h:Heap}(d:Hd A h){it:Addr}{o:Obj}{n:String}(ho:h.get? it=some o) (hc:o.cls=.type n) (f:Obj→Obj):Hd A (h.update it f):=by
 rcases d with d | ⟨ea,C,dx,vs,sl,d1,d2,d3⟩
 ·exact .inl d
 ·refine .inr ⟨ea,C,dx,vs,sl,d1,?_,d3⟩
  rw [Heap.get?_update_other h f (fun z=>?_)]
  ·exact d2
  ·subst z
   rw [ho] at d2
   cases d2
   cases hc
section
variable {prog:Program}{w:World}{A:Around}{E:Value→Shared→Prop}{s:Shared}
theorem z310:entryFor table "proto.unchain"=some Builtin.«proto.unchain»:=entryFor_of_tree (by kernel_rfl)
theorem z493 {α:Type}{Q:α→Shared→Prop}{e:Addr}{c:Value}{d:Option Addr}{ws:Array Value}{sl:Array (Option Value)} (hd:Hd A s.heap) (hn:∀ ea,A.handled=some (.ref ea)→ea≠e) (he:s.heap.get? e=some ⟨c,d,.fields ws,sl⟩) (hz:2 < ws.size)
  (k:∀ h',(∀ b o,b≠e→s.heap.get? b=some o→h'.get? b=some o)→(∃ o,h'.get? e=some o∧o.cls=c)→E (.ref e) { s with heap:=h' }):wpAny (model prog w) A (raiseNew (.ref e):Sem α) Q E s:=by
 rcases hd with hd | ⟨ea,C,dx,vs,sl2,d1,d2,d3⟩
 ·unfold raiseNew
  refine wpAny_bind (wpAny_handled ?_)
  rw [hd]
  exact wpAny_bind (wpAny_pure (wpAny_throw (k _ (fun _ _ _ z=>z) ⟨_,he,rfl⟩)))
 ·have ne:=hn ea d1
  unfold raiseNew
  refine wpAny_bind (wpAny_handled ?_)
  rw [d1]
  have hb:(Value.ref ea != Value.ref e)=true:=by simp [ne]
  dsimp only
  rw [if_pos hb]
  refine wpAny_bind (wpAny_holding (wpAny_runValue (codeAny_builtin z310 ?_)))
  show wpAny _ _ (field (.ref ea) 2 >>= _) _ _ s
  refine wpAny_bind (wpAny_field d2 rfl d3 ?_)
  rw [if_pos (by decide)]
  refine wpAny_bind (wpAny_pure (wpAny_pure ?_))
  unfold updateField
  refine wpAny_bind (wpAny_bind (wpAny_load he ?_))
  show wpAny _ _ (if 2 < ws.size then _ else _) _ _ s
  rw [if_pos hz]
  refine wpAny_update he (wpAny_throw (k _ (fun b o hb z=>?_) ⟨_,Heap.get?_update_self _ he rfl,rfl⟩))
  rw [Heap.get?_update_other _ _ (Ne.symm hb)]
  exact z
theorem z125 {α:Type}{Q:α→Shared→Prop}(hd:Hd A s.heap) (k:∀ h' e,(∀ b o,s.heap.get? b=some o→h'.get? b=some o)→(∃ o,h'.get? e=some o∧o.cls=.type "StopIteration")→E (.ref e) { s with heap:=h' }):
  wpAny (model prog w) A (newExc (.type "StopIteration") [] >>= fun e=>(raiseNew e:Sem α)) Q E s:=by
 refine wpAny_bind ?_
 simp only [newExc,newTuple]
 refine wpAny_bind (wpAny_newObj_type ?_ (by size_fits))
 refine wpAny_bind (m:=firstArgMember _ _) (wpAny_of_eq (a:=Value.none) (by first | rfl | (simp only [firstArgMember];rfl)) ?_)
 refine wpAny_newObj_type ?_ (by size_fits)
 have up:∀ b o,s.heap.get? b=some o→((s.heap.push { cls:=.type "tuple",data:=.seq #[] }).push { cls:=.type "StopIteration",data:=.fields (#[Value.ref s.heap.objs.size,.none,.none,.none,.bool false,.none]++ownMembersOf (.type "StopIteration") []) }).get? b=some o:=
  fun b o z=>Heap.get?_push_of_some _ (Heap.get?_push_of_some _ z)
 have lt:∀ b o,s.heap.get? b=some o→b≠(s.heap.push { cls:=.type "tuple",data:=.seq #[] }).objs.size:=fun b o z=>Nat.ne_of_lt (Heap.lt_size (Heap.get?_push_of_some _ z))
 refine z493 (hd.keeps up) (fun ea z=>?_) (Heap.get?_push_size _ rfl) (by rw [Array.size_append];exact Nat.lt_of_lt_of_le (show 2 < 6 by decide) (Nat.le_add_right 6 _)) fun h' k1 k2=>k h' _ (fun b o z=>k1 b o (lt b o z) (up b o z)) k2
 rcases hd with hd | ⟨eb,C,dx,vs,sl,d1,d2,d3⟩
 ·rw [hd] at z
  cases z
 ·rw [d1] at z
  cases z
  exact lt _ _ d2
theorem z128 {Q:Option Value→Shared→Prop}{e:Addr}(he:∃ o,s.heap.get? e=some o∧o.cls=.type "StopIteration") (h:Q none s):
  wpAny (model prog w) A (do if ← isInstance (.ref e) (.type "StopIteration") then pure none else throw (.ref e)) Q E s:=
 wpAny_bind (wpAny_isInstance (T:="StopIteration") (b:=true) he isSubtype_stop (wpAny_pure h))
theorem z579 {it l:Addr}{i:Nat}{items:Array Value}{Q:Option Value→Shared→Prop}(hh:Hd A s.heap) (hit:s.heap.IsListIter it l i) (hl:s.heap.IsList l items) (hx:items[i]?=none)
  (hQ:∀ h',Heap.ExtBut it s.heap h'→Q none { s with heap:=h' }):wpAny (model prog w) A (pyNext (.ref it)) Q E s:=by
 obtain⟨o,ho,hc,hd⟩:=id hit
 obtain⟨_,hol,_,_,hdl⟩:=hl
 unfold pyNext
 refine wpAny_bind (wpAny_attempt (wpAny_callSpecial?_slot (name:=Str.ofString "__next__") hit.typeIs slot_listiter_next (wpAny_call_entry slot_listiter_next hit.typeIs entry_listiter_next ?_ (args_listiter_next _))))
 show wpAny _ _ (field (.ref it) 0 >>= _) _ _ s
 refine wpAny_bind (wpAny_field ho hd (x:=.ref l) rfl ?_)
 rw [if_neg (fun z:(Value.ref l == Value.none)=true=>nomatch z)]
 show wpAny _ _ (field (.ref it) 1 >>= _) _ _ s
 refine wpAny_bind (wpAny_field ho hd (x:=.int i 0) rfl ?_)
 show wpAny _ _ (seqItems? (.ref l) >>= _) _ _ s
 refine wpAny_bind (wpAny_seqItems hol hdl ?_)
 simp only [Int.toNat_natCast,hx]
 refine wpAny_bind (wpAny_rule (wpAny_bind (wpAny_setField ho hd (by simp) ?_)))
 refine z125 (hh.update (A:=A) ho hc _) fun h' e k1 k2=>z128 k2 (hQ h' fun b o hb z=>k1 b o ?_)
 rw [Heap.get?_update_other _ _ (Ne.symm hb)]
 exact z
theorem z395 {it t:Addr}{i:Nat}{items:Array Value}{Q:Option Value→Shared→Prop}(hh:Hd A s.heap) (hit:s.heap.IsTupleIter it t i) (ht:s.heap.IsTuple t items) (hx:items[i]?=none)
  (hQ:∀ h',Heap.ExtBut it s.heap h'→Q none { s with heap:=h' }):wpAny (model prog w) A (pyNext (.ref it)) Q E s:=by
 obtain⟨o,ho,hc,hd⟩:=id hit
 obtain⟨_,hol,_,_,hdl⟩:=ht
 unfold pyNext
 refine wpAny_bind (wpAny_attempt (wpAny_callSpecial?_slot (name:=Str.ofString "__next__") hit.typeIs F.slot_tuple_iterator_next (wpAny_call_entry F.slot_tuple_iterator_next hit.typeIs F.entry_tuple_iterator_next ?_ (F.args_tuple_iterator_next_1 _))))
 show wpAny _ _ (field (.ref it) 0 >>= _) _ _ s
 refine wpAny_bind (wpAny_field ho hd (x:=.ref t) rfl ?_)
 rw [if_neg (fun z:(Value.ref t == Value.none)=true=>nomatch z)]
 show wpAny _ _ (field (.ref it) 1 >>= _) _ _ s
 refine wpAny_bind (wpAny_field ho hd (x:=.int i 0) rfl ?_)
 show wpAny _ _ (seqItems? (.ref t) >>= _) _ _ s
 refine wpAny_bind (wpAny_seqItems hol hdl ?_)
 simp only [Int.toNat_natCast,hx]
 refine wpAny_bind (wpAny_rule (wpAny_bind (wpAny_setField ho hd (by simp) ?_)))
 refine z125 (hh.update (A:=A) ho hc _) fun h' e k1 k2=>z128 k2 (hQ h' fun b o hb z=>k1 b o ?_)
 rw [Heap.get?_update_other _ _ (Ne.symm hb)]
 exact z
theorem z508 {it:Addr}{x left step:Int}{Q:Option Value→Shared→Prop}(hh:Hd A s.heap) (hit:IsRangeIter s.heap it x left step) (hleft:left≤0)
  (hQ:∀ h',Heap.ExtBut it s.heap h'→Q none { s with heap:=h' }):wpAny (model prog w) A (pyNext (.ref it)) Q E s:=by
 have hT:s.TypeIs (.ref it) "range_iterator":=⟨_,hit,rfl⟩
 unfold pyNext
 refine wpAny_bind (wpAny_attempt (wpAny_callSpecial?_slot (name:=Str.ofString "__next__") hT F.slot_range_iterator_next (wpAny_call_entry F.slot_range_iterator_next hT F.entry_range_iterator_next ?_ (F.args_range_iterator_next_1 _))))
 show wpAny _ _ (field (.ref it) 0 >>= _) _ _ s
 refine wpAny_bind (wpAny_field hit rfl (x:=rawInt x) rfl ?_)
 show wpAny _ _ (field (.ref it) 1 >>= _) _ _ s
 refine wpAny_bind (wpAny_field hit rfl (x:=rawInt left) rfl ?_)
 show wpAny _ _ (field (.ref it) 2 >>= _) _ _ s
 refine wpAny_bind (wpAny_field hit rfl (x:=rawInt step) rfl ?_)
 show wpAny _ _ (if left≤0 then _ else _) _ _ s
 rw [if_pos hleft]
 refine wpAny_bind (wpAny_rule (wpAny_bind ?_))
 exact z125 (A:=A.in1) hh fun h' e k1 k2=>z128 k2 (hQ h' fun b o hb z=>k1 b o z)
theorem z355 {env:Env}{elts:List Expr}{x1}{pos:Pos}{t:Addr}{items:Array Value}{Q:Unit→Shared→Prop}(hh:Hd A s.heap) (ht:IsTup s.heap t items) (hn:(assignEach elts env).length=items.size) (hstar:(assignEach elts env).findIdx? (·.1)=none)
  (h:∀ h',Heap.ExtBut s.heap.objs.size s.heap h'→wpAny (model prog w) A (assignInOrder ((assignEach elts env).map (·.2)) items.toList) Q E { s with heap:=h' }):wpAny (model prog w) A (assign (.Tuple elts x1 pos) env (.ref t)) Q E s:=by
 have ne:t≠s.heap.objs.size:=by obtain⟨o,ho,_⟩:=ht;exact Nat.ne_of_lt (Heap.lt_size ho)
 rw [assign_Tuple]
 refine wpAny_bind (wpAny_standAt ?_)
 unfold unpack
 rw [hn,hstar]
 refine wpAny_bind (wpAny_holding ?_)
 unfold unpackItems
 refine wpAny_bind ?_
 unfold notIterableAtAll
 refine wpAny_bind (wpAny_specialOf ht.typeIs slot_tuple_iter.lookup (wpAny_pure ?_))
 simp only [Bool.false_eq_true,if_false]
 refine wpAny_bind (wpAny_holding (iter_tuple ht ?_))
 refine wpAny_bind (wpAny_holding (draw_tuple ne items.size 0 _ _ ⟨_,Heap.get?_push_size _ rfl,rfl,rfl⟩ (ht.push _) (by omega) fun h₁ hit₁ hs₁=>?_))
 rw [List.drop_zero,List.take_of_length_le (by simp)]
 rw [if_neg (by simp)]
 have k1:∀ b o,s.heap.get? b=some o→h₁.get? b=some o:=fun b o z=>(hs₁.2 b (Nat.ne_of_lt (Heap.lt_size z))).trans (Heap.get?_push_of_some _ z)
 have ht₁:IsTup h₁ t items:=(ht.push _).extBut hs₁.extBut ne
 refine wpAny_bind (wpAny_holding (z395 (s:={ s with heap:=h₁ }) (hh.keeps k1) hit₁ ht₁ (by simp) fun h₂ he₂=>?_))
 simp only [Option.isSome_none,Bool.false_eq_true,if_false]
 exact wpAny_pure (h h₂ fun b o hb z=>he₂ b o hb (k1 b o z))
end
end L2
set_option Elab.async false
set_option linter.all false
set_option maxRecDepth 100000
namespace L2
open PySem PySem.Spec PyProof.Rows
abbrev Key:=Sum Int Str
def keyIs:Key→Value→Bool
 | .inl k,v=>Value.isInt k v
 | .inr x,v=>Value.isStrOf x v
def keyH (w:World):Key→Int
 | .inl k=>hashInt k
 | .inr x=>hashStr w x
theorem keyIs_shape:∀ {k:Key}{v:Value},keyIs k v=true→(∃ i t,k=Sum.inl i∧v=Value.int i t)∨(∃ x t,k=Sum.inr x∧v=Value.str x t)
 | .inl i,v,h=>by
  obtain⟨t,e⟩:=Value.isInt_shape (k:=i) (v:=v) h
  exact .inl ⟨i,t,rfl,e⟩
 | .inr x,v,h=>by
  obtain⟨t,e⟩:=Value.isStrOf_shape (x:=x) (v:=v) h
  exact .inr ⟨x,t,rfl,e⟩
theorem keyIs_int (i:Int) (t:Tok):keyIs (.inl i) (.int i t)=true:=by simp [keyIs,Value.isInt]
theorem keyIs_str (x:Str) (t:Tok):keyIs (.inr x) (.str x t)=true:=by simp [keyIs,Value.isStrOf]
theorem key_ll (a b:Int):decide ((Sum.inl a:Key)=Sum.inl b)=(a == b):=by
 by_cases e:a=b
 ·subst e;simp
 ·have h:¬ (Sum.inl a:Key)=Sum.inl b:=fun q=>e (Sum.inl.inj q)
  rw [decide_eq_false h]
  exact(beq_eq_false_iff_ne.mpr e).symm
theorem key_rr (a b:Str):decide ((Sum.inr a:Key)=Sum.inr b)=decide (a=b):=by
 by_cases e:a=b
 ·subst e;simp
 ·have h:¬ (Sum.inr a:Key)=Sum.inr b:=fun q=>e (Sum.inr.inj q)
  rw [decide_eq_false h,decide_eq_false e]
theorem key_lr (a:Int) (b:Str):decide ((Sum.inl a:Key)=Sum.inr b)=false:=decide_eq_false (fun q=>nomatch q)
theorem key_rl (a:Str) (b:Int):decide ((Sum.inr a:Key)=Sum.inl b)=false:=decide_eq_false (fun q=>nomatch q)
def mixKind (prog:Program) (w:World):PySem.KeyKind prog w Key where
 is:=keyIs
 hash:=keyH w
 inj:=fun v a b ha hb=>by
  rcases keyIs_shape ha with ⟨i,t,rfl,rfl⟩ | ⟨x,t,rfl,rfl⟩
  ·rcases keyIs_shape hb with ⟨j,u,rfl,e⟩ | ⟨y,u,rfl,e⟩
   ·injection e with e1 _;rw [e1]
   ·exact nomatch e
  ·rcases keyIs_shape hb with ⟨j,u,rfl,e⟩ | ⟨y,u,rfl,e⟩
   ·exact nomatch e
   ·injection e with e1 _;rw [e1]
 byValue:=fun k v h=>by
  rcases keyIs_shape h with ⟨i,t,rfl,rfl⟩ | ⟨x,t,rfl,rfl⟩ <;> rfl
 pyHash:=fun hv h=>by
  rcases keyIs_shape hv with ⟨i,t,rfl,rfl⟩ | ⟨x,t,rfl,rfl⟩
  ·exact wpAny_pyHash_int h
  ·exact wpAny_pyHash_str h
 eqBool:=fun hu hv h=>by
  rcases keyIs_shape hu with ⟨i,t,rfl,rfl⟩ | ⟨x,t,rfl,rfl⟩
  ·rcases keyIs_shape hv with ⟨j,u,rfl,rfl⟩ | ⟨y,u,rfl,rfl⟩
   ·rw [key_ll] at h;exact wpAny_eqBool_int h
   ·rw [key_lr] at h;exact SeqAt.EqAt.int_str i t y u _ _ _ _ h
  ·rcases keyIs_shape hv with ⟨j,u,rfl,rfl⟩ | ⟨y,u,rfl,rfl⟩
   ·rw [key_rl] at h;exact SeqAt.EqAt.str_int x t j u _ _ _ _ h
   ·rw [key_rr] at h;exact wpAny_eqBool_str h
 «strs»:=fun k x t v h=>by
  rcases keyIs_shape h with ⟨i,u,rfl,e⟩ | ⟨y,u,rfl,e⟩
  ·exact nomatch e
  ·injection e with e1 _
   subst e1
   cases v <;> rfl
theorem mixKind_int (prog:Program) (w:World) (i:Int) (t:Tok):(mixKind prog w).is (.inl i) (.int i t)=true:=keyIs_int i t
theorem mixKind_str (prog:Program) (w:World) (x:Str) (t:Tok):(mixKind prog w).is (.inr x) (.str x t)=true:=keyIs_str x t
end L2
namespace L2
open PySem PySem.Spec PyProof.Rows
inductive V where
 | non | bl (b:Bool) | int (i:Int) | str (x:Str) | byt (b:Array UInt8) | flt (b:UInt64) | ref (a:Addr) | ty (n:String)
 deriving DecidableEq
def RelV:V→Value→Prop
 | .non,u=>u=Value.none
 | .bl b,u=>u=Value.bool b
 | .int i,u=>∃ t,u=Value.int i t
 | .str x,u=>∃ t,u=Value.str x t
 | .byt b,u=>∃ t,u=Value.bytes b t
 | .flt b,u=>∃ t,u=Value.float b t
 | .ref a,u=>u=Value.ref a
 | .ty n,u=>u=Value.type n
abbrev Vals:List V→List Value→Prop:=Paired RelV
theorem Vals.length {xs:List V}{us:List Value}(r:Vals xs us):xs.length=us.length:=Paired.length r
theorem Vals.get:∀ {xs:List V}{us:List Value}{i:Nat}{x:V},Vals xs us→xs[i]?=some x→∃ u,us[i]?=some u∧RelV x u
 | _,_,_,_,.nil,e=>by simp at e
 | _,_,0,_,.cons r _,e=>by simp at e;subst e;exact⟨_,rfl,r⟩
 | _,_,i + 1,x,.cons _ t,e=>by
  obtain⟨u,h1,h2⟩:=Vals.get (i:=i) (x:=x) t (by simpa using e)
  exact⟨u,by simpa using h1,h2⟩
theorem Vals.append:∀ {xs ys:List V}{us ws:List Value},Vals xs us→Vals ys ws→Vals (xs++ys) (us++ws)
 | _,_,_,_,.nil,s=>s
 | _,_,_,_,.cons r t,s=>.cons r (Vals.append t s)
theorem Vals.take:∀ {xs:List V}{us:List Value}(n:Nat),Vals xs us→Vals (xs.take n) (us.take n)
 | _,_,0,_=>.nil
 | _,_,_ + 1,.nil=>.nil
 | _,_,n + 1,.cons r t=>.cons r (Vals.take n t)
theorem Vals.drop:∀ {xs:List V}{us:List Value}(n:Nat),Vals xs us→Vals (xs.drop n) (us.drop n)
 | _,_,0,r=>r
 | _,_,_ + 1,.nil=>.nil
 | _,_,n + 1,.cons _ t=>Vals.drop n t
def RelO:Option V→Option Value→Prop
 | some v,some u=>RelV v u
 | none,none=>True
 | _,_=>False
def KV {κ:Type}:List (κ × V)→List (κ × Value)→Prop:=Paired fun(p:κ × V) (q:κ × Value)=>p.1=q.1∧RelV p.2 q.2
def kV:Key→V
 | .inl i=>.int i
 | .inr x=>.str x
inductive HO where
 | lst (xs:List V)
 | tup (xs:List V)
 | dK (kvs:List (Key × V)) | dT (kvs:List (List Key × V))
 | set (S:Int→Bool) (n:Nat)
 | ins (C dx:Addr) (fs:List (Str × V))
 | own (x:Addr)
 | xd (fs:List (Str × V))
 | met (f x:Addr)
 | rng (lo hi:Int)
 | frz (o:Obj) (u:HO)
 | tbl (ps:Array Value)
 | ext (φ:Heap→Prop)
abbrev Hp:=Addr→Option HO
def upd (H:Hp) (a:Addr) (o:HO):Hp:=fun b=>if b=a then some o else H b
theorem upd_same {H:Hp}{a:Addr}{o:HO}:upd H a o a=some o:=by unfold upd;rw [if_pos rfl]
theorem upd_ne {H:Hp}{a b:Addr}{o:HO}(h:b≠a):upd H a o b=H b:=by unfold upd;rw [if_neg h]
theorem ne_of {H:Hp}{a b:Addr}{o u:HO}(h:H a=some o) (h':H b=some u) (d:o≠u):a≠b:=by
 intro e;subst e;rw [h] at h';exact d (Option.some.inj h')
theorem ne_of_none {H:Hp}{a b:Addr}{o:HO}(h:H a=some o) (h':H b=none):a≠b:=by
 intro e;subst e;rw [h] at h';cases h'
section
variable (P:Program) (w:World)
def ObjOk (H:Hp) (h:Heap) (a:Addr):HO→Prop
 | .lst xs=>xs.length≤sizeLine∧∃ (its:List Value) (n:Nat),Vals xs its∧h.get? a=some { cls:=.type "list",data:=.seq its.toArray n }
 | .tup xs=>xs.length≤sizeLine∧∃ its:List Value,Vals xs its∧IsTup h a its.toArray
 | .dK kvs=>kvs.length≤sizeLine∧(a == sysModules)=false∧∃ vs,KV kvs vs∧h.DictOf (mixKind P w) a vs
 | .dT kvs=>kvs.length≤sizeLine∧(a == sysModules)=false∧∃ xs:List (List Key × Addr × Value),
   Paired (fun(p:List Key × V) (q:List Key × Addr × Value)=>p.1=q.1∧H q.2.1=some (.tup (p.1.map kV))∧RelV p.2 q.2.2) kvs xs∧
   ∃ o es ep,h.get? a=some o∧o.ExactDict∧o.data=.dict es ep∧es.toList=xs.map (entryOfKey (tupleKind (mixKind P w)))∧(xs.map (·.1)).Nodup
 | .set S n=>h.SetOf (intKind P w) a S n
 | .ins C dx fs=>H dx=some (.own a)∧fs.length≤1000∧dx≠a∧h.get? a=some (PySem.W.instObj C dx)∧
   ∃ mA,h.Ns1 dx mA∧(∀ f,RelO (fs.lookup f) (mA f))∧PySem.Within mA (fs.map (·.1))
 | .own _=>∃ o,h.get? a=some o
 | .xd fs=>∃ mA,h.Ns1 a mA∧∀ f,RelO (fs.lookup f) (mA f)
 | .rng lo hi=>∃ t u v,h.get? a=some { cls:=.type "range",data:=.fields #[.int lo t,.int hi u,.int 1 v] }
 | .frz o u=>h.get? a=some o∧ObjOk H h a u
 | .tbl ps=>h.get? a=some { cls:=.none,data:=.fields ps }
 | .met f x=>h.get? a=some (PySem.W.methodObj (.ref f) (.ref x))
 | .ext φ=>φ h∧(∃ o,h.get? a=some o)∧∀ h1 h2:Heap,φ h1→(∀ o,h1.get? a=some o→h2.get? a=some o)→φ h2
def HOk (H:Hp) (h:Heap):Prop:=∀ a o,H a=some o→ObjOk P w H h a o
end
section
variable {P:Program}{w:World}{H H':Hp}{h h':Heap}{a:Addr}{o:HO}
theorem ObjOk.lt (x:ObjOk P w H h a o):a < h.objs.size:=by
 cases o with
 | lst xs=>obtain⟨_,_,_,_,e⟩:=x;exact Heap.lt_size e
 | tup xs=>obtain⟨_,_,_,p⟩:=x;exact p.lt
 | dK kvs=>obtain⟨_,_,_,_,o,_,_,e,_⟩:=x;exact Heap.lt_size e
 | dT kvs=>obtain⟨_,_,_,_,o,_,_,e,_⟩:=x;exact Heap.lt_size e
 | set S n=>obtain⟨o,_,_,_,e,_⟩:=x;exact Heap.lt_size e
 | ins C dx fs=>obtain⟨_,_,_,e,_⟩:=x;exact Heap.lt_size e
 | own y=>obtain⟨_,e⟩:=x;exact Heap.lt_size e
 | xd fs=>obtain⟨_,⟨_,_,_,e,_⟩,_⟩:=x;exact Heap.lt_size e
 | rng lo hi=>obtain⟨_,_,_,e⟩:=x;exact Heap.lt_size e
 | frz ob u=>obtain⟨e,_⟩:=x;exact Heap.lt_size e
 | tbl ps=>exact Heap.lt_size (show h.get? a=some _ from x)
 | met f y=>exact Heap.lt_size (show h.get? a=some _ from x)
 | ext φ=>obtain⟨_,⟨_,e⟩,_⟩:=x;exact Heap.lt_size e
theorem Paired.mapP {α β:Type}{F G:α→β→Prop}:∀ {l₁:List α}{l₂:List β},Paired F l₁ l₂→(∀ a b,F a b→G a b)→Paired G l₁ l₂
 | _,_,.nil,_=>.nil
 | _,_,.cons r t,f=>.cons (f _ _ r) (Paired.mapP t f)
theorem ObjOk.stay (x:ObjOk P w H h a o) (k:∀ b u,(b=a∨H b=some (.own a))→h.get? b=some u→h'.get? b=some u)
  (ho:∀ b,H b=some (.own a)→H' b=some (.own a)) (ht:∀ b xs,H b=some (.tup xs)→H' b=some (.tup xs)):ObjOk P w H' h' a o:=by
 induction o with
 | lst xs=>obtain⟨z,its,n,r,e⟩:=x;exact⟨z,its,n,r,k _ _ (.inl rfl) e⟩
 | tup xs=>obtain⟨z,its,r,ob,e,c⟩:=x;exact⟨z,its,r,ob,k _ _ (.inl rfl) e,c⟩
 | dK kvs=>obtain⟨z,y,vs,r,ob,es,ep,e,c⟩:=x;exact⟨z,y,vs,r,ob,es,ep,k _ _ (.inl rfl) e,c⟩
 | dT kvs=>
  obtain⟨z,y,xs,r,ob,es,ep,e,c⟩:=x
  exact⟨z,y,xs,Paired.mapP r fun p q z=>⟨z.1,ht _ _ z.2.1,z.2.2⟩,ob,es,ep,k _ _ (.inl rfl) e,c⟩
 | set S n=>obtain⟨ob,es,ep,t,e,c⟩:=x;exact⟨ob,es,ep,t,k _ _ (.inl rfl) e,c⟩
 | ins C dx fs=>
  obtain⟨d,z,ne,e,mA,⟨od,es,ep,e2,c⟩,r⟩:=x
  exact⟨ho _ d,z,ne,k _ _ (.inl rfl) e,mA,⟨od,es,ep,k _ _ (.inr d) e2,c⟩,r⟩
 | own y=>obtain⟨ob,e⟩:=x;exact⟨ob,k _ _ (.inl rfl) e⟩
 | xd fs=>obtain⟨mA,⟨od,es,ep,e,c⟩,r⟩:=x;exact⟨mA,⟨od,es,ep,k _ _ (.inl rfl) e,c⟩,r⟩
 | rng lo hi=>obtain⟨t,u,v,e⟩:=x;exact⟨t,u,v,k _ _ (.inl rfl) e⟩
 | frz ob u ih=>obtain⟨e,q⟩:=x;exact⟨k _ _ (.inl rfl) e,ih q⟩
 | tbl ps=>
  have e:h.get? a=some { cls:=.none,data:=.fields ps }:=x
  show h'.get? a=some { cls:=.none,data:=.fields ps }
  exact k a _ (.inl rfl) e
 | met f y=>
  have e:h.get? a=some (PySem.W.methodObj (.ref f) (.ref y)):=x
  show h'.get? a=some (PySem.W.methodObj (.ref f) (.ref y))
  exact k a _ (.inl rfl) e
 | ext φ=>obtain⟨p,⟨o,e⟩,st⟩:=x;exact⟨st _ _ p fun o q=>k _ _ (.inl rfl) q,⟨o,k _ _ (.inl rfl) e⟩,st⟩
theorem HOk.lt (x:HOk P w H h) (e:H a=some o):a < h.objs.size:=(x a o e).lt
theorem HOk.fresh (x:HOk P w H h) (e:h.objs.size≤a):H a=none:=by
 cases q:H a with
 | none=>rfl
 | some u=>exact absurd (Nat.lt_of_lt_of_le (x.lt q) e) (Nat.lt_irrefl _)
theorem HOk.kept (x:HOk P w H h) (k:∀ b u,h.get? b=some u→h'.get? b=some u):HOk P w H h':=fun a o e=>
 (x a o e).stay (fun b u _ q=>k b u q) (fun _ q=>q) fun _ _ q=>q
theorem HOk.laid (x:HOk P w H h) (k:∀ b u,h.get? b=some u→h'.get? b=some u) (hp:h.objs.size≤a) (new:ObjOk P w (upd H a o) h' a o):HOk P w (upd H a o) h':=fun b u e=>by
 have hn:=x.fresh hp
 by_cases hb:b=a
 ·subst hb;rw [upd_same] at e;cases e;exact new
 ·rw [upd_ne hb] at e
  exact(x b u e).stay (fun c v _ q=>k c v q) (fun c q=>by rw [upd_ne (ne_of_none q hn)];exact q) fun c xs q=>by rw [upd_ne (ne_of_none q hn)];exact q
end
def Rd (H:Hp) (a:Addr) (u:HO):Prop:=H a=some u∨∃ o,H a=some (.frz o u)
theorem Rd.ok {P:Program}{w:World}{H:Hp}{h:Heap}{a:Addr}{u:HO}(r:Rd H a u) (x:HOk P w H h):ObjOk P w H h a u:=by
 rcases r with r | ⟨o,r⟩
 ·exact x a u r
 ·obtain⟨_,q⟩:=x a _ r
  exact q
def Mut:Option HO→Prop
 | some (.lst _)=>True
 | some (.dK _)=>True
 | some (.dT _)=>True
 | some (.set _ _)=>True
 | some (.ins _ _ _)=>True
 | some (.ext _)=>True
 | _=>False
section
variable {P:Program}{w:World}{H:Hp}{h h':Heap}{x e:Addr}{o':HO}
theorem HOk.write (ok:HOk P w H h) (mu:Mut (H x)) (he:e=x∨H e=some (.own x)) (k:∀ b u,b≠e→h.get? b=some u→h'.get? b=some u) (heo:∃ u,h'.get? e=some u)
  (new:ObjOk P w (upd H x o') h' x o'):HOk P w (upd H x o') h':=fun b u q=>by
 have nown:∀ c y,H c=some (.own y)→c≠x:=fun c y r z=>by subst z;rw [r] at mu;exact mu
 have ntup:∀ c xs,H c=some (.tup xs)→c≠x:=fun c xs r z=>by subst z;rw [r] at mu;exact mu
 by_cases hb:b=x
 ·subst hb;rw [upd_same] at q;cases q;exact new
 ·rw [upd_ne hb] at q
  by_cases hbe:b=e
  ·have q':H b=some (.own x):=by
    rcases he with z | z
    ·exact absurd (hbe.trans z) hb
    ·rw [hbe];exact z
   rw [q] at q';cases q'
   obtain⟨v,hv⟩:=heo
   exact⟨v,by rw [hbe];exact hv⟩
  ·refine(ok b u q).stay (fun c v hc r=>k c v ?_ r) (fun c r=>by rw [upd_ne (nown c b r)];exact r) fun c xs r=>by rw [upd_ne (ntup c xs r)];exact r
   rcases hc with rfl | hc
   ·exact hbe
   ·rintro rfl
    rcases he with z | z
    ·exact nown c b hc z
    ·rw [hc] at z;cases z;exact hb rfl
end
structure Un (fs ex:List Addr) (H H':Hp) (h h':Heap):Prop where
 keep:∀ b o,h.get? b=some o→H b=none→b ∉ fs→b ∉ ex→h'.get? b=some o
 slot:∀ b o,h.get? b=some o→H b=none→b∈fs→b ∉ ex→∃ sl,h'.get? b=some { o with slots:=sl }
 free:∀ b o,h.get? b=some o→H b=none→b ∉ ex→H' b=none
 there:∀ b o,h.get? b=some o→b ∉ ex→∃ o',h'.get? b=some o'
 tups:∀ b xs,H b=some (.tup xs)→H' b=some (.tup xs)
 frzs:∀ b o u,H b=some (.frz o u)→H' b=some (.frz o u)
 tbls:∀ b ps,H b=some (.tbl ps)→∃ more,H' b=some (.tbl (ps++more))
section
variable {fs fs' ex ex':List Addr}{H H1 H2:Hp}{h h1 h2 h':Heap}{a x e:Addr}{o:HO}
theorem Un.any (u:Un fs ex H H1 h h1){b:Addr}{ob:Obj}(q:h.get? b=some ob) (n:H b=none) (hx:b ∉ ex):∃ sl,h1.get? b=some { ob with slots:=sl }:=by
 by_cases hb:b∈fs
 ·exact u.slot b ob q n hb hx
 ·exact⟨ob.slots,u.keep b ob q n hb hx⟩
theorem Un.kept (k:∀ b u,h.get? b=some u→h'.get? b=some u):Un fs ex H H h h':=
 ⟨fun b ob q _ _ _=>k b ob q,fun b ob q _ _ _=>⟨ob.slots,k b ob q⟩,fun _ _ _ n _=>n,fun b ob q _=>⟨ob,k b ob q⟩,fun _ _ q=>q,fun _ _ _ q=>q,fun _ ps q=>⟨#[],by rw [q];simp⟩⟩
theorem Un.refl:Un fs ex H H h h:=Un.kept fun _ _ q=>q
theorem Un.laid (k:∀ b u,h.get? b=some u→h'.get? b=some u) (hp:h.objs.size≤a) (hn:H a=none):Un fs ex H (upd H a o) h h' where
 keep:=fun b u q _ _ _=>k b u q
 slot:=fun b u q _ _ _=>⟨u.slots,k b u q⟩
 free:=fun b u q n _=>by rw [upd_ne (Nat.ne_of_lt (Nat.lt_of_lt_of_le (Heap.lt_size q) hp))];exact n
 there:=fun b u q _=>⟨u,k b u q⟩
 tups:=fun b xs q=>by rw [upd_ne (ne_of_none q hn)];exact q
 frzs:=fun b u xs q=>by rw [upd_ne (ne_of_none q hn)];exact q
 tbls:=fun b ps q=>⟨#[],by rw [upd_ne (ne_of_none q hn),q];simp⟩
theorem Un.write (mu:Mut (H x)) (he:e=x∨H e=some (.own x)) (k:∀ b u,b≠e→h.get? b=some u→h'.get? b=some u) (heo:∃ u,h'.get? e=some u):Un fs ex H (upd H x o) h h':=by
 have hx:∀ b,H b=none→b≠x:=fun b n z=>by subst z;rw [n] at mu;exact mu
 have hb:∀ b,H b=none→b≠e:=fun b n z=>by
  subst z
  rcases he with r | r
  ·exact hx b n r
  ·rw [n] at r;cases r
 have hm:∀ b u,H b=some u→¬ Mut (some u)→b≠x:=fun b u q nm z=>by subst z;rw [q] at mu;exact nm mu
 refine⟨fun b u q n _ _=>k b u (hb b n) q,fun b u q n _ _=>⟨u.slots,k b u (hb b n) q⟩,fun b u q n _=>by rw [upd_ne (hx b n)];exact n,fun b u q _=>?_,
  fun b xs q=>by rw [upd_ne (hm b _ q fun z=>z)];exact q,fun b u xs q=>by rw [upd_ne (hm b _ q fun z=>z)];exact q,fun b ps q=>⟨#[],by rw [upd_ne (hm b _ q fun z=>z),q];simp⟩⟩
 by_cases hbe:b=e
 ·subst hbe;exact heo
 ·exact⟨u,k b u hbe q⟩
end
def trk (h:Heap) (H:Hp):List Addr:=(List.range h.objs.size).filter fun a=>(H a).isSome
def hidT (h:Heap) (H:Hp):Heap:=PySem.W.hideAll h (trk h H)
theorem hidT_size (h:Heap) (H:Hp):(hidT h H).objs.size=h.objs.size:=PySem.W.hideAll_size _ _
theorem hidT_get {h:Heap}{H:Hp}{b:Addr}{o:Obj}(e:h.get? b=some o) (n:H b=none):(hidT h H).get? b=some o:=
 PySem.W.hideAll_get _ e fun hm=>by
  have q:(H b).isSome=true:=(List.mem_filter.mp hm).2
  rw [n] at q;simp at q
theorem of_hidT {h:Heap}{H:Hp}{b:Addr}{o:Obj}(e:(hidT h H).get? b=some o):h.get? b=some o∧H b=none:=by
 have e':h.get? b=some o:=PySem.W.of_hideAll (trk h H) e
 refine⟨e',?_⟩
 cases q:H b with
 | none=>rfl
 | some x=>
  have hm:b∈trk h H:=List.mem_filter.mpr ⟨List.mem_range.mpr (Heap.lt_size e'),by simp [q]⟩
  have z:(hidT h H).get? b=none:=PySem.W.hideAll_none (trk h H) hm
  rw [z] at e;cases e
def allNews (g h:Heap) (L:Addr):List (Addr × Obj):=(List.range h.objs.size).filterMap fun a=>if a=L∨(g.get? a).isSome=true then none else(h.get? a).map fun o=>(a,o)
def rest (g h:Heap) (L d:Addr):List (Addr × Obj):=(allNews g h L).filter fun p=>decide (p.1≠d)
end L2
namespace L2
open PySem PySem.Spec PyProof.Rows
structure Mod (K:PySem.W.Frag) (mg:Str→Option Value) (base:Heap):Prop where
 kin:K.In base
 glob:base.Ns mainGlobals mg
 blt:∃ mb,base.Ns builtinsNs mb∧∀ x:Str,x≠"__name__"→mb x=bootBuiltins x
 nolimit:base.NoLimit
structure Cx where
 prog:Program
 w:World
 K:PySem.W.Frag
 mg:Str→Option Value
 base:Heap
 A:Around
 N:List Str
 s₀:Shared
 H₀:Hp
 env:Env
 outer:List Env
 stack:List Env
 ex:List Addr
 fn:Str→Bool
 calm:Bool
 pn:List (Addr × Obj)
 xe:Value→Shared→Prop
def frs (l:List Env):List Addr:=l.filterMap (·.frame)
abbrev Cx.fs (X:Cx):List Addr:=frs X.outer
def Vis (sc:Scope) (x:Str):Prop:=sc.names.lookup x=some .local∨sc.names.lookup x=some .cell∨sc.names.lookup x=some .free
def Loc (sc:Scope) (x:Str):Prop:=sc.names.lookup x=some .local∨sc.names.lookup x=some .cell
def Look (env:Env) (h:Heap) (m:Str→Option Value) (x:Str) (u:Value):Prop:=
 (env.kindOf x=some .local∧m x=some u)∨((env.kindOf x=some .cell∨env.kindOf x=some .free)∧∃ c,env.cells.lookup x=some c∧h.IsCell c (some u))
structure Cx.Ok (X:Cx):Prop where
 mod:Mod X.K X.mg X.base
 kind:X.env.scope.kind=.function
 glob:X.env.globals=mainGlobals
 blt:X.env.builtins=builtinsNs
 above:X.s₀.heap.objs.size≤X.env.locals
 inj:∀ x y c,X.env.cells.lookup x=some c→X.env.cells.lookup y=some c→x=y
 has:∀ x,(X.env.kindOf x=some .cell∨X.env.kindOf x=some .free)→∃ c,X.env.cells.lookup x=some c
 cab:∀ x c,X.fn x=true→X.env.cells.lookup x=some c→X.s₀.heap.objs.size≤c
 hd:X.calm=true→X.A.handled=none
 frames:X.A.frames=some X.stack
 stk:X.stack=X.outer∨(X.stack=X.env::X.outer∧X.env.frame=some X.env.locals)
 exf:∀ b∈X.ex,b≠X.env.locals∧∀ x c,X.env.cells.lookup x=some c→c≠b
 bs:∀ b o,X.base.get? b=some o→X.s₀.heap.get? b=some o∧X.H₀ b=none
 bsz:X.base.objs.size≤X.s₀.heap.objs.size
 noex:∀ b o,X.base.get? b=some o→b ∉ X.ex
 exfs:∀ b∈X.ex,b ∉ X.fs
 funs:X.s₀.heap.FunFrames X.base X.outer
 frf:∀ b∈X.fs,X.H₀ b=none
structure Inv (X:Cx) (pins:List (Addr × Obj)) (σ:List (Option V)) (H:Hp) (s:Shared):Prop where
 ok:X.Ok
 os:s.os=X.s₀.os
 bare:AllBare s.gens
 base:Un X.fs X.ex X.H₀ H X.s₀.heap s.heap
 loc:∃ m,s.heap.Ns X.env.locals m∧∀ (i:Nat) (x:Str) (v:V),X.N[i]?=some x→σ[i]?=some (some v)→Vis X.env.scope x→∃ u,RelV v u∧Look X.env s.heap m x u
 cell:∀ x c,X.env.cells.lookup x=some c→∃ v,s.heap.IsCell c v
 free:H X.env.locals=none
 freeC:∀ x c,X.env.cells.lookup x=some c→H c=none
 pin:∀ p∈X.pn++pins,s.heap.get? p.1=some p.2∧H p.1=none∧p.1≠X.env.locals∧p.1 ∉ X.fs∧∀ v,p.2.data≠.cell v
 hok:HOk X.prog X.w H s.heap
 len:σ.length=X.N.length
section
variable {X:Cx}{pins:List (Addr × Obj)}{σ:List (Option V)}{H H':Hp}{s:Shared}{h':Heap}
theorem Cx.Ok.nofr (ok:X.Ok){b:Addr}{o:Obj}(e:X.base.get? b=some o):b ∉ X.fs:=fun hb=>by
 have:=(ok.funs.mem hb).1
 rw [e] at this;cases this
theorem Inv.bs (I:Inv X pins σ H s):∀ b o,X.base.get? b=some o→s.heap.get? b=some o∧H b=none:=fun b o e=>
 ⟨I.base.keep b o (I.ok.bs b o e).1 (I.ok.bs b o e).2 (I.ok.nofr e) (I.ok.noex b o e),I.base.free b o (I.ok.bs b o e).1 (I.ok.bs b o e).2 (I.ok.noex b o e)⟩
theorem Inv.bk (I:Inv X pins σ H s):∀ b o,X.base.get? b=some o→s.heap.get? b=some o:=fun b o e=>(I.bs b o e).1
theorem Inv.mod (I:Inv X pins σ H s):Mod X.K X.mg X.base:=I.ok.mod
theorem Inv.kIn (I:Inv X pins σ H s):X.K.In s.heap:=I.ok.mod.kin.keeps I.bk
theorem Inv.fr (I:Inv X pins σ H s):∃ m,Fr X.base X.env.locals s.heap m:=
 let ⟨m,hn,_⟩:=I.loc
 ⟨m,hn,I.bk,Nat.le_trans I.ok.bsz I.ok.above⟩
theorem Inv.lt (I:Inv X pins σ H s):X.env.locals < s.heap.objs.size:=let ⟨_,hn,_⟩:=I.loc;hn.lt
theorem Inv.sz (I:Inv X pins σ H s):X.s₀.heap.objs.size≤s.heap.objs.size:=Nat.le_trans I.ok.above (Nat.le_of_lt I.lt)
theorem Inv.nofs (I:Inv X pins σ H s){a:Addr}(h:s.heap.objs.size≤a):a ∉ X.fs:=fun hb=>by
 obtain⟨_,o,ho,_⟩:=I.ok.funs.mem hb
 exact absurd (Nat.lt_of_lt_of_le (Heap.lt_size ho) (Nat.le_trans I.sz h)) (Nat.lt_irrefl _)
theorem Inv.cne (I:Inv X pins σ H s):∀ x c,X.env.cells.lookup x=some c→c≠X.env.locals:=fun x c e z=>by
 obtain⟨v,o,ho,hd⟩:=I.cell x c e
 obtain⟨m,⟨o',es,ep,ho',hd',_⟩,_⟩:=I.loc
 rw [z,ho'] at ho;cases ho;rw [hd'] at hd;cases hd
theorem Inv.funs (I:Inv X pins σ H s):s.heap.FunFrames X.base X.outer:=by
 have all:∀ (l:List Env),(∀ b∈frs l,b∈X.fs)→X.s₀.heap.FunFrames X.base l→s.heap.FunFrames X.base l:=by
  intro l
  induction l with
  | nil=>intro _ _;trivial
  | cons env r ih=>
   intro hs hl
   obtain⟨hk,⟨L,o,hf,hn,ho,hd⟩,hr⟩:=hl
   have hL:L∈X.fs:=hs L (by unfold frs;rw [List.filterMap_cons,hf];exact List.mem_cons_self)
   obtain⟨sl,e⟩:=I.base.slot L o ho (I.ok.frf L hL) hL fun z=>I.ok.exfs L z hL
   exact⟨hk,⟨L,_,hf,hn,e,hd⟩,ih (fun b hb=>hs b (by unfold frs;rw [List.filterMap_cons,hf];exact List.mem_cons_of_mem _ hb)) hr⟩
 exact all X.outer (fun _ hb=>hb) I.ok.funs
theorem Inv.stack (I:Inv X pins σ H s):s.heap.FunFrames X.base X.stack:=by
 rcases I.ok.stk with e | ⟨e,hf⟩
 ·rw [e];exact I.funs
 ·rw [e]
  obtain⟨m,hn,_⟩:=I.loc
  refine .cons (by rw [I.ok.kind];decide) hf hn ?_ I.funs
  exact Heap.get?_none_of_le (Nat.le_trans I.ok.bsz I.ok.above)
theorem Inv.stkSub (I:Inv X pins σ H s):∀ b∈frs X.stack,b∈X.env.locals::X.fs:=fun b hb=>by
 rcases I.ok.stk with e | ⟨e,hf⟩
 ·rw [e] at hb;exact List.mem_cons_of_mem _ hb
 ·rw [e] at hb
  unfold frs at hb
  rw [List.filterMap_cons,hf] at hb
  exact hb
theorem Inv.stkFree (I:Inv X pins σ H s):∀ b∈frs X.stack,H b=none:=fun b hb=>by
 rcases List.mem_cons.mp (I.stkSub b hb) with e | hb
 ·rw [e];exact I.free
 ·obtain⟨_,o,ho,_⟩:=I.ok.funs.mem hb
  exact I.base.free b o ho (I.ok.frf b hb) fun z=>I.ok.exfs b z hb
theorem Inv.step {g':Array GenState}{t':Nat}{d':Drawn}{ch:List Addr}(I:Inv X pins σ H s)
  (hch:∀ b∈ch,(b∈X.ex∨X.s₀.heap.objs.size≤b)∧b≠X.env.locals∧(∀ x c,X.env.cells.lookup x=some c→c≠b)∧∀ p∈X.pn++pins,p.1≠b)
  (keep:∀ b o,b≠X.env.locals→b ∉ X.fs→b ∉ ch→s.heap.get? b=some o→H b=none→h'.get? b=some o)
  (slot:∀ b o,b≠X.env.locals→b∈X.fs→b ∉ ch→s.heap.get? b=some o→H b=none→∃ sl,h'.get? b=some { o with slots:=sl }) (free:∀ b o,b ∉ ch→s.heap.get? b=some o→H b=none→H' b=none)
  (there:∀ b o,b ∉ ch→s.heap.get? b=some o→∃ o',h'.get? b=some o')
  (tups:∀ b xs,H b=some (.tup xs)→H' b=some (.tup xs)) (frzs:∀ b o u,H b=some (.frz o u)→H' b=some (.frz o u)) (tbls:∀ b ps,H b=some (.tbl ps)→∃ more,H' b=some (.tbl (ps++more)))
  (ns:∀ m,s.heap.Ns X.env.locals m→h'.Ns X.env.locals m) (hok:HOk X.prog X.w H' h') (hg:AllBare g'):
  Inv X pins σ H' { s with heap:=h',gens:=g',drawn:=d',toks:=t' }:=by
 have neL:∀ b o,X.s₀.heap.get? b=some o→b≠X.env.locals:=fun b o e=>Nat.ne_of_lt (Nat.lt_of_lt_of_le (Heap.lt_size e) I.ok.above)
 have neC:∀ b o,X.s₀.heap.get? b=some o→b ∉ X.ex→b ∉ ch:=fun b o e hx hb=>by
  rcases (hch b hb).1 with z | z
  ·exact hx z
  ·exact absurd (Nat.lt_of_lt_of_le (Heap.lt_size e) z) (Nat.lt_irrefl _)
 have cellK:∀ x c,X.env.cells.lookup x=some c→∀ v,s.heap.IsCell c v→h'.IsCell c v:=fun x c e v ⟨o,ho,hd⟩=>by
  have nch:c ∉ ch:=fun z=>(hch c z).2.2.1 x c e rfl
  by_cases hc:c∈X.fs
  ·obtain⟨sl,q⟩:=slot c o (I.cne x c e) hc nch ho (I.freeC x c e)
   exact⟨_,q,hd⟩
  ·exact⟨o,keep c o (I.cne x c e) hc nch ho (I.freeC x c e),hd⟩
 refine⟨I.ok,I.os,hg,⟨fun b o e n hb hx=>?_,fun b o e n hb hx=>?_,fun b o e n hx=>?_,fun b o e hx=>?_,fun b xs e=>tups b xs (I.base.tups b xs e),fun b o xs e=>frzs b o xs (I.base.frzs b o xs e),fun b ps e=>?_⟩,?_,fun x c e=>?_,?_,fun x c e=>?_,fun p hp=>?_,hok,I.len⟩
 ·exact keep b o (neL b o e) hb (neC b o e hx) (I.base.keep b o e n hb hx) (I.base.free b o e n hx)
 ·obtain⟨sl,e1⟩:=I.base.slot b o e n hb hx
  obtain⟨sl',e2⟩:=slot b _ (neL b o e) hb (neC b o e hx) e1 (I.base.free b o e n hx)
  exact⟨sl',e2⟩
 ·obtain⟨o',e1⟩:=I.base.there b o e hx
  exact free b o' (neC b o e hx) e1 (I.base.free b o e n hx)
 ·obtain⟨o',e1⟩:=I.base.there b o e hx
  exact there b o' (neC b o e hx) e1
 ·obtain⟨m1,e1⟩:=I.base.tbls b ps e
  obtain⟨m2,e2⟩:=tbls b _ e1
  exact⟨m1++m2,by rw [e2,Array.append_assoc]⟩
 ·obtain⟨m,hn,hl⟩:=I.loc
  refine⟨m,ns m hn,fun i x v e1 e2 e3=>?_⟩
  obtain⟨u,r,l⟩:=hl i x v e1 e2 e3
  refine⟨u,r,?_⟩
  rcases l with l | ⟨k,c,e,z⟩
  ·exact .inl l
  ·exact .inr ⟨k,c,e,cellK x c e _ z⟩
 ·obtain⟨v,z⟩:=I.cell x c e
  exact⟨v,cellK x c e v z⟩
 ·obtain⟨m,⟨o,_,_,ho,_⟩,_⟩:=I.loc
  exact free _ o (fun z=>(hch _ z).2.1 rfl) ho I.free
 ·obtain⟨v,o,ho,hd⟩:=I.cell x c e
  exact free c o (fun z=>(hch c z).2.2.1 x c e rfl) ho (I.freeC x c e)
 ·obtain⟨e,n,ne,nf,d⟩:=I.pin p hp
  have nch:p.1 ∉ ch:=fun z=>(hch p.1 z).2.2.2 p hp rfl
  exact⟨keep p.1 p.2 ne nf nch e n,free p.1 p.2 nch e n,ne,nf,d⟩
theorem Inv.un {t':Nat}(I:Inv X pins σ H s) (u:Un X.fs [] H H' s.heap h') (hok:HOk X.prog X.w H' h'):Inv X pins σ H' { s with heap:=h',toks:=t' }:=by
 obtain⟨m,⟨o,es,ep,ho,r⟩,_⟩:=id I.loc
 obtain⟨sl,hL⟩:=u.any ho I.free (by simp)
 exact I.step (g':=s.gens) (d':=s.drawn) (ch:=[]) (fun _ z=>nomatch z) (fun b o _ hb _ e n=>u.keep b o e n hb (by simp)) (fun b o _ hb _ e n=>u.slot b o e n hb (by simp)) (fun b o _ e n=>u.free b o e n (by simp)) (fun b o _ e=>u.there b o e (by simp)) u.tups u.frzs u.tbls (fun m' hm=>by
  obtain⟨o',es',ep',ho',r'⟩:=hm
  rw [ho] at ho';cases ho'
  exact⟨_,es',ep',hL,r'⟩) hok I.bare
theorem Inv.call {g':Array GenState}{t':Nat}{d':Drawn}{ch:List Addr}(I:Inv X pins σ H s) (u:Un (frs X.stack) ch H H' s.heap h') (hok:HOk X.prog X.w H' h') (hg:AllBare g')
  (hch:∀ b∈ch,(b∈X.ex∨X.s₀.heap.objs.size≤b)∧b≠X.env.locals∧(∀ x c,X.env.cells.lookup x=some c→c≠b)∧∀ p∈X.pn++pins,p.1≠b):
  Inv X pins σ H' { s with heap:=h',gens:=g',drawn:=d',toks:=t' }:=by
 obtain⟨m,⟨o,es,ep,ho,r⟩,_⟩:=id I.loc
 obtain⟨sl,hL⟩:=u.any ho I.free fun z=>(hch _ z).2.1 rfl
 exact I.step (ch:=ch) hch (fun b o hL hb hc e n=>u.keep b o e n (fun z=>(List.mem_cons.mp (I.stkSub b z)).elim hL hb) hc) (fun b o _ _ hc e n=>u.any e n hc) (fun b o hc e n=>u.free b o e n hc) (fun b o hc e=>u.there b o e hc) u.tups u.frzs u.tbls (fun m' hm=>by
  obtain⟨o',es',ep',ho',r'⟩:=hm
  rw [ho] at ho';cases ho'
  exact⟨_,es',ep',hL,r'⟩) hok hg
theorem Inv.turned {t':Nat}{it:Addr}(I:Inv X pins σ H s) (k:∀ b o,b≠it→s.heap.get? b=some o→h'.get? b=some o) (hn:H it=none) (hL:it≠X.env.locals)
  (h1:it∈X.ex∨X.s₀.heap.objs.size≤it) (h2:∀ x c,X.env.cells.lookup x=some c→c≠it) (h3:∀ p∈X.pn++pins,p.1≠it):Inv X pins σ H { s with heap:=h',toks:=t' }:=by
 have nit:∀ b u,H b=some u→b≠it:=fun b u e z=>by rw [z,hn] at e;cases e
 refine I.step (g':=s.gens) (d':=s.drawn) (ch:=[it]) (fun b hb=>?_) (fun b o _ _ hc e _=>k b o (fun z=>hc (by simp [z])) e) (fun b o _ _ hc e _=>⟨o.slots,k b o (fun z=>hc (by simp [z])) e⟩) (fun _ _ _ _ n=>n)
  (fun b o hc e=>⟨o,k b o (fun z=>hc (by simp [z])) e⟩) (fun _ _ e=>e) (fun _ _ _ e=>e) (fun b ps e=>⟨#[],by rw [e];simp⟩) (fun m hm=>?_) (fun b u e=>?_) I.bare
 ·have e:b=it:=by simpa using hb
  subst e
  exact⟨h1,hL,h2,h3⟩
 ·obtain⟨o,es,ep,ho,r⟩:=hm
  exact⟨o,es,ep,k _ o (Ne.symm hL) ho,r⟩
 ·refine(I.hok b u e).stay (fun c v hc q=>k c v ?_ q) (fun _ q=>q) fun _ _ q=>q
  rcases hc with z | z
  ·rw [z];exact nit b u e
  ·exact nit c _ z
theorem Inv.tok (I:Inv X pins σ H s) (t:Nat):Inv X pins σ H { s with toks:=t }:=I.un (h':=s.heap) (t':=t) Un.refl I.hok
theorem Inv.kept {t':Nat}(I:Inv X pins σ H s) (k:∀ b u,s.heap.get? b=some u→h'.get? b=some u):Inv X pins σ H { s with heap:=h',toks:=t' }:=I.un (Un.kept k) (I.hok.kept k)
theorem Inv.laid {a:Addr}{o:HO}{t':Nat}(I:Inv X pins σ H s) (k:∀ b u,s.heap.get? b=some u→h'.get? b=some u) (hp:s.heap.objs.size≤a) (new:ObjOk X.prog X.w (upd H a o) h' a o):
  Inv X pins σ (upd H a o) { s with heap:=h',toks:=t' }:=I.un (Un.laid k hp (I.hok.fresh hp)) (I.hok.laid k hp new)
theorem Inv.write {x e:Addr}{o:HO}{t':Nat}(I:Inv X pins σ H s) (mu:Mut (H x)) (he:e=x∨H e=some (.own x)) (k:∀ b u,b≠e→s.heap.get? b=some u→h'.get? b=some u) (heo:∃ u,h'.get? e=some u)
  (new:ObjOk X.prog X.w (upd H x o) h' x o):Inv X pins σ (upd H x o) { s with heap:=h',toks:=t' }:=I.un (Un.write mu he k heo) (I.hok.write mu he k heo new)
theorem Inv.weak {σ':List (Option V)} (I:Inv X pins σ H s) (hl:σ'.length=σ.length) (w:∀ (i:Nat) v,σ'[i]?=some (some v)→σ[i]?=some (some v)):Inv X pins σ' H s:=
 ⟨I.ok,I.os,I.bare,I.base,let ⟨m,hn,hl'⟩:=I.loc;⟨m,hn,fun i x v e1 e2 e3=>hl' i x v e1 (w i v e2) e3⟩,I.cell,I.free,I.freeC,I.pin,I.hok,hl.trans I.len⟩
def Calm (X:Cx):Prop:=X.calm=true∨∃ (ea C:Addr) (dx:Option Addr) (vs:Array Value) (sl:Array (Option Value)),X.A.handled=some (.ref ea)∧vs[2]?=some Value.none∧(ea,(⟨.ref C,dx,.fields vs,sl⟩:Obj))∈X.pn
theorem calm0 {X:Cx}(h:X.calm=true):Calm X:=.inl h
theorem Inv.calm (I:Inv X pins σ H s) (c:Calm X):Hd X.A s.heap:=by
 rcases c with c | ⟨ea,C,dx,vs,sl,h1,h2,h3⟩
 ·exact .inl (I.ok.hd c)
 ·exact .inr ⟨ea,C,dx,vs,sl,h1,(I.pin _ (List.mem_append_left _ h3)).1,h2⟩
theorem Inv.pins_of {pins':List (Addr × Obj)} (I:Inv X pins σ H s) (h:∀ p∈pins',s.heap.get? p.1=some p.2∧H p.1=none∧p.1≠X.env.locals∧p.1 ∉ X.fs∧∀ v,p.2.data≠.cell v):Inv X pins' σ H s:=
 ⟨I.ok,I.os,I.bare,I.base,I.loc,I.cell,I.free,I.freeC,fun p hp=>(List.mem_append.mp hp).elim (fun z=>I.pin p (List.mem_append_left _ z)) (h p),I.hok,I.len⟩
theorem nodup_ix {N:List Str}(hN:N.Nodup){i j:Nat}{x:Str}(a:N[i]?=some x) (b:N[j]?=some x):i=j:=by
 obtain⟨h1,e1⟩:=List.getElem?_eq_some_iff.mp a
 obtain⟨h2,e2⟩:=List.getElem?_eq_some_iff.mp b
 exact(List.getElem_inj hN).mp (e1.trans e2.symm)
theorem store_ok2 {M:Model}{A:Around}{E:Value→Shared→Prop}{i:Nat}{x:Str}{v:V}{u:Value}{Q:Unit→Shared→Prop}(I:Inv X pins σ H s) (hN:X.N.Nodup) (hi:X.N[i]?=some x) (hx:Loc X.env.scope x) (r:RelV v u)
  (h:∀ s',Inv X pins (σ.set i (some v)) H s'→(∃ a,Heap.SameBut a s.heap s'.heap∧(a=X.env.locals∨X.env.cells.lookup x=some a))→Q () s') (hf:X.fn x=true∨X.env.scope.names.lookup x=some .local:=by first | exact .inl rfl | exact .inr rfl | assumption):wpAny M A (storeName X.env x u) Q E s:=by
 obtain⟨m,hn,hl⟩:=id I.loc
 have hcls:(X.env.scope.kind == .class || (X.env.scope.kind == .module && X.env.locals != X.env.globals))=false:=by rw [I.ok.kind];rfl
 have hiσ:i < σ.length:=by rw [I.len];exact(List.getElem?_eq_some_iff.mp hi).1
 have cne:=I.cne
 have tracked:∀ {a:Addr}{h':Heap},(∃ o,s.heap.get? a=some o∧H a=none)→Heap.SameBut a s.heap h'→HOk X.prog X.w H h':=fun{a h'} ha hs b ob e=>by
  obtain⟨_,_,hfree⟩:=ha
  refine(I.hok b ob e).stay (fun c w' hc q=>(hs.2 c ?_).trans q) (fun _ q=>q) fun _ _ q=>q
  rintro rfl
  rcases hc with rfl | hc
  ·rw [hfree] at e;cases e
  ·rw [hfree] at hc;cases hc
 rcases hx with hk | hk
 ·refine wpAny_storeName_local hk hn (fun h' hn' hs=>?_) hcls
  obtain⟨oL,_,_,hoL,_⟩:=id hn
  refine h _ ⟨I.ok,I.os,I.bare,⟨fun b o e n hb hx=>?_,fun b o e n hb hx=>?_,I.base.free,fun b o e hx=>?_,I.base.tups,I.base.frzs,I.base.tbls⟩,⟨_,hn',fun j y v' e1 e2 e3=>?_⟩,fun y c e=>?_,I.free,I.freeC,fun p hp=>?_,tracked ⟨oL,hoL,I.free⟩ hs,by simpa using I.len⟩ ⟨_,hs,.inl rfl⟩
  ·exact(hs.2 b (Nat.ne_of_lt (Nat.lt_of_lt_of_le (Heap.lt_size e) I.ok.above))).trans (I.base.keep b o e n hb hx)
  ·obtain⟨sl,e1⟩:=I.base.slot b o e n hb hx
   exact⟨sl,(hs.2 b (Nat.ne_of_lt (Nat.lt_of_lt_of_le (Heap.lt_size e) I.ok.above))).trans e1⟩
  ·obtain⟨o',e1⟩:=I.base.there b o e hx
   exact⟨o',(hs.2 b (Nat.ne_of_lt (Nat.lt_of_lt_of_le (Heap.lt_size e) I.ok.above))).trans e1⟩
  ·by_cases hj:j=i
   ·subst hj
    rw [hi] at e1;cases e1
    rw [List.getElem?_set_self hiσ] at e2
    cases e2
    exact⟨u,r,.inl ⟨hk,by simp⟩⟩
   ·rw [List.getElem?_set_ne (Ne.symm hj)] at e2
    obtain⟨u',r',q⟩:=hl j y v' e1 e2 e3
    refine⟨u',r',?_⟩
    rcases q with ⟨k,e⟩ | ⟨k,c,e,z⟩
    ·refine .inl ⟨k,?_⟩
     have:y≠x:=fun e=>hj (nodup_ix hN e1 (e ▸ hi))
     simp [this,e]
    ·exact .inr ⟨k,c,e,z.sameBut hs (cne y c e)⟩
  ·obtain⟨w',z⟩:=I.cell y c e
   exact⟨w',z.sameBut hs (cne y c e)⟩
  ·obtain⟨e,n,ne,nf,d⟩:=I.pin p hp
   exact⟨(hs.2 p.1 ne).trans e,n,ne,nf,d⟩
 ·have hfn:X.fn x=true:=by
   rcases hf with z | z
   ·exact z
   ·rw [z] at hk;cases hk
  obtain⟨c,hc⟩:=I.ok.has x (.inl hk)
  obtain⟨w',z⟩:=I.cell x c hc
  refine wpAny_storeName_cell I.ok.kind hk hc z (fun h' hc' hs=>?_)
  obtain⟨oc,hoc,hocd⟩:=id z
  refine h { s with heap:=h' } ⟨I.ok,I.os,I.bare,⟨fun b o e n hb hx=>?_,fun b o e n hb hx=>?_,I.base.free,fun b o e hx=>?_,I.base.tups,I.base.frzs,I.base.tbls⟩,⟨m,hn.sameBut hs (Ne.symm (cne x c hc)),fun j y v' e1 e2 e3=>?_⟩,fun y c' e=>?_,I.free,I.freeC,fun p hp=>?_,tracked ⟨oc,hoc,I.freeC x c hc⟩ hs,by simpa using I.len⟩ ⟨c,hs,.inr hc⟩
  ·exact(hs.2 b (Nat.ne_of_lt (Nat.lt_of_lt_of_le (Heap.lt_size e) (I.ok.cab x c hfn hc)))).trans (I.base.keep b o e n hb hx)
  ·obtain⟨sl,e1⟩:=I.base.slot b o e n hb hx
   exact⟨sl,(hs.2 b (Nat.ne_of_lt (Nat.lt_of_lt_of_le (Heap.lt_size e) (I.ok.cab x c hfn hc)))).trans e1⟩
  ·obtain⟨o',e1⟩:=I.base.there b o e hx
   exact⟨o',(hs.2 b (Nat.ne_of_lt (Nat.lt_of_lt_of_le (Heap.lt_size e) (I.ok.cab x c hfn hc)))).trans e1⟩
  ·by_cases hj:j=i
   ·subst hj
    rw [hi] at e1;cases e1
    rw [List.getElem?_set_self hiσ] at e2
    cases e2
    exact⟨u,r,.inr ⟨.inl hk,c,hc,hc'⟩⟩
   ·rw [List.getElem?_set_ne (Ne.symm hj)] at e2
    obtain⟨u',r',q⟩:=hl j y v' e1 e2 e3
    refine⟨u',r',?_⟩
    rcases q with q | ⟨k,c',e,z'⟩
    ·exact .inl q
    ·refine .inr ⟨k,c',e,z'.sameBut hs ?_⟩
     rintro rfl
     exact hj (nodup_ix hN e1 (I.ok.inj _ _ _ e hc ▸ hi))
  ·by_cases hcc:c'=c
   ·subst hcc;exact⟨_,hc'⟩
   ·obtain⟨w2,z2⟩:=I.cell y c' e
    exact⟨w2,z2.sameBut hs hcc⟩
  ·obtain⟨e,n,ne,nf,d⟩:=I.pin p hp
   refine⟨(hs.2 p.1 ?_).trans e,n,ne,nf,d⟩
   intro q
   rw [q,hoc] at e
   have q':oc=p.2:=Option.some.inj e
   exact d w' (by rw [← q'];exact hocd)
theorem store_ok {M:Model}{A:Around}{E:Value→Shared→Prop}{i:Nat}{x:Str}{v:V}{u:Value}{Q:Unit→Shared→Prop}(I:Inv X pins σ H s) (hN:X.N.Nodup) (hi:X.N[i]?=some x) (hx:Loc X.env.scope x) (r:RelV v u)
  (h:∀ s',Inv X pins (σ.set i (some v)) H s'→Q () s') (hf:X.fn x=true∨X.env.scope.names.lookup x=some .local:=by first | exact .inl rfl | exact .inr rfl | assumption):wpAny M A (storeName X.env x u) Q E s:=
 store_ok2 I hN hi hx r (fun s' I' _=>h s' I') hf
theorem Inv.call' {s':Shared}{ch:List Addr}(I:Inv X pins σ H s) (ho:s'.os=s.os) (u:Un (frs X.stack) ch H H' s.heap s'.heap) (hok:HOk X.prog X.w H' s'.heap) (hg:AllBare s'.gens)
  (hch:∀ b∈ch,(b∈X.ex∨X.s₀.heap.objs.size≤b)∧b≠X.env.locals∧(∀ x c,X.env.cells.lookup x=some c→c≠b)∧∀ p∈X.pn++pins,p.1≠b):Inv X pins σ H' s':=by
 obtain⟨h',g',d',t',o'⟩:=s'
 have e:o'=s.os:=ho
 subst e
 exact I.call (g':=g') (t':=t') (d':=d') u hok hg hch
end
abbrev XK:=Value→Option Addr→Hp→Prop
abbrev St:=List (Option V)
abbrev VK:=V→Hp→Prop
abbrev TE:=St→Hp→VK→Prop
abbrev TT:=St→Hp→(Bool→Hp→Prop)→Prop
abbrev TA:=St→Hp→(List V→Hp→Prop)→Prop
structure Ends where
 nx:St→Hp→Prop
 rt:VK
 bk:St→Hp→Prop:=fun _ _=>False
 ct:St→Hp→Prop:=fun _ _=>False
abbrev TS:=Ends→St→Hp→Prop
def EP (X:Cx) (pins:List (Addr × Obj)) (σ:St) (Q:VK) (u:Value) (s':Shared):Prop:=∃ v H',Inv X pins σ H' s'∧RelV v u∧Q v H'
def TP (X:Cx) (pins:List (Addr × Obj)) (σ:St) (Q:Bool→Hp→Prop) (b:Bool) (s':Shared):Prop:=∃ H',Inv X pins σ H' s'∧Q b H'
def AP (X:Cx) (pins:List (Addr × Obj)) (σ:St) (Q:List V→Hp→Prop) (us:List Value) (s':Shared):Prop:=∃ vs H',Inv X pins σ H' s'∧Vals vs us∧Q vs H'
def SP (X:Cx) (pins:List (Addr × Obj)) (D:Ends) (f:Flow) (s':Shared):Prop:=
 match f with
 | .next=>∃ σ' H',Inv X pins σ' H' s'∧D.nx σ' H'
 | .brk=>∃ σ' H',Inv X pins σ' H' s'∧D.bk σ' H'
 | .cont=>∃ σ' H',Inv X pins σ' H' s'∧D.ct σ' H'
 | .ret u=>∃ v σ' H',Inv X pins σ' H' s'∧RelV v u∧D.rt v H'
def PE (X:Cx) (e:Expr) (t:TE):Prop:=
 ∀ (pins:List (Addr × Obj)) (s:Shared) (σ:St) (H:Hp) (Q:VK),Inv X pins σ H s→t σ H Q→wpAny (model X.prog X.w) X.A (eval e X.env) (EP X pins σ Q) X.xe s
def PT (X:Cx) (e:Expr) (t:TT):Prop:=
 ∀ (pins:List (Addr × Obj)) (s:Shared) (σ:St) (H:Hp) (Q:Bool→Hp→Prop),Inv X pins σ H s→t σ H Q→wpAny (model X.prog X.w) X.A (isTrue e X.env (eval e X.env)) (TP X pins σ Q) X.xe s
def PW (X:Cx) (e:Expr) (t:TT):Prop:=
 ∀ (whole:Sem Value) (pins:List (Addr × Obj)) (s:Shared) (σ:St) (H:Hp) (Q:Bool→Hp→Prop),Inv X pins σ H s→t σ H Q→wpAny (model X.prog X.w) X.A (isTrue e X.env whole) (TP X pins σ Q) X.xe s
theorem PW.pt {X:Cx}{e:Expr}{t:TT}(h:PW X e t):PT X e t:=h _
def PA (X:Cx) (es:List Expr) (t:TA):Prop:=
 ∀ (pos:Pos) (pins:List (Addr × Obj)) (s:Shared) (σ:St) (H:Hp) (Q:List V→Hp→Prop),Inv X pins σ H s→t σ H Q→wpAny (model X.prog X.w) X.A (spliced (backTo pos (starEach es X.env))) (AP X pins σ Q) X.xe s
def PS (X:Cx) (st:Stmt) (t:TS):Prop:=
 ∀ (pins:List (Addr × Obj)) (s:Shared) (σ:St) (H:Hp) (D:Ends),Inv X pins σ H s→t D σ H→wpAny (model X.prog X.w) X.A (exec st X.env) (SP X pins D) X.xe s
def PSs (X:Cx) (st:List Stmt) (t:TS):Prop:=
 ∀ (pins:List (Addr × Obj)) (s:Shared) (σ:St) (H:Hp) (D:Ends),Inv X pins σ H s→t D σ H→wpAny (model X.prog X.w) X.A (execs st X.env) (SP X pins D) X.xe s
theorem thn {α:Type}{t:Sem α}{Q Q':α→Shared→Prop}{M:Model}{A:Around}{E:Value→Shared→Prop}{s:Shared}(h:wpAny M A t Q E s) (hQ:∀ a s,Q a s→Q' a s):wpAny M A t Q' E s:=wpAny_mono h hQ fun _ _ x=>x
end L2
namespace L2
open PySem PySem.Spec PyProof.Rows
section
variable {X:Cx}
def tVar (i:Nat):TE:=fun σ H Q=>∃ v,σ[i]?=some (some v)∧Q v H
def tC (v:V):TE:=fun _ H Q=>Q v H
theorem pe_var {i:Nat}{x:Str}{pos:Pos}(hN:X.N[i]?=some x) (hv:Vis X.env.scope x) (hd:(x == ("__debug__":Str))=false:=by decide) (hcd:(x == ("__classdict__":Str))=false:=by decide):PE X (.Name x pos) (tVar i):=by
 intro pins s σ H Q I h
 obtain⟨v,e,h⟩:=h
 obtain⟨m,hn,hl⟩:=I.loc
 obtain⟨u,r,l⟩:=hl i x v hN e hv
 have fin:EP X pins σ Q u s:=⟨v,H,I,r,h⟩
 rcases l with ⟨hk,hm⟩ | ⟨hk,c,hc,hcell⟩
 ·exact wpAny_Name (wpAny_loadName_local I.ok.kind hk hn hm fin) hd
 ·rcases hk with hk | hk
  ·exact wpAny_Name (wpAny_loadName_cell I.ok.kind hk hc hcell fin) hd
  ·exact wpAny_Name (wpAny_loadName_free I.ok.kind hk hc hcell fin hcd) hd
theorem pe_int {i j pos}:PE X (.Constant (.int i) j pos) (tC (.int i)):=fun _ _ _ H _ I h=>wpAny_Constant_int ⟨.int i,H,I.tok _,⟨_,rfl⟩,h⟩
theorem pe_bl {b j pos}:PE X (.Constant (.bool b) j pos) (tC (.bl b)):=fun _ _ _ H _ I h=>Constant_bool ⟨.bl b,H,I,rfl,h⟩
theorem pe_non {j pos}:PE X (.Constant .none j pos) (tC .non):=fun _ _ _ H _ I h=>Constant_none ⟨.non,H,I,rfl,h⟩
theorem pe_str {x j pos}:PE X (.Constant (.str x) j pos) (tC (.str x)):=fun _ _ _ H _ I h=>Calls.Constant_str ⟨.str x,H,I.tok _,⟨_,rfl⟩,h⟩
def Gl (X:Cx) (x:Str):Prop:=X.env.kindOf x=some .globalImplicit
theorem ld_glob {E:Value→Shared→Prop}{pins:List (Addr × Obj)}{s:Shared}{σ:St}{H:Hp}{x:Str}{u:Value}{pos:Pos}{Q:Value→Shared→Prop}(I:Inv X pins σ H s) (hg:Gl X x) (hm:X.mg x=some u) (h:Q u s)
  (hd:(x == ("__debug__":Str))=false:=by decide):wpAny (model X.prog X.w) X.A (eval (.Name x pos) X.env) Q E s:=
 Calls.Name_function_global I.ok.kind hg (Calls.loadGlobal_global (by rw [I.ok.glob];exact I.mod.glob.keeps I.bk) hm h) hd
theorem ld_blt {E:Value→Shared→Prop}{pins:List (Addr × Obj)}{s:Shared}{σ:St}{H:Hp}{x:Str}{u:Value}{pos:Pos}{Q:Value→Shared→Prop}(I:Inv X pins σ H s) (hg:Gl X x) (hm:X.mg x=none) (hv:bootBuiltins x=some u) (h:Q u s)
  (hn:x≠"__name__":=by decide) (hd:(x == ("__debug__":Str))=false:=by decide):wpAny (model X.prog X.w) X.A (eval (.Name x pos) X.env) Q E s:=by
 obtain⟨mb,h1,h2⟩:=I.mod.blt
 exact Calls.Name_function_global I.ok.kind hg (Calls.loadGlobal_builtin (by rw [I.ok.glob];exact I.mod.glob.keeps I.bk) hm (by rw [I.ok.blt];exact h1.keeps I.bk) ((h2 x hn).trans hv) h) hd
theorem pe_bltn {x:Str}{v:V}{u:Value}{pos:Pos}(hg:Gl X x) (hm:X.mg x=none) (hv:bootBuiltins x=some u) (r:RelV v u) (hn:x≠"__name__":=by decide) (hd:(x == ("__debug__":Str))=false:=by decide):PE X (.Name x pos) (tC v):=
 fun _ _ _ H _ I h=>ld_blt I hg hm hv ⟨v,H,I,r,h⟩ hn hd
variable {a b:Expr}{ta tb:TE}{pos:Pos}
def PC (X:Cx) (op:CmpOp) (a b:Expr) (t:TE):Prop:=
 ∀ (pins:List (Addr × Obj)) (s:Shared) (σ:St) (H:Hp) (Q:VK),Inv X pins σ H s→t σ H Q→
  wpAny (model X.prog X.w) X.A (eval a X.env) (fun v s₁=>wpAny (model X.prog X.w) X.A (eval b X.env) (fun u s₂=>wpAny (model X.prog X.w) X.A (compareOp op v u) (EP X pins σ Q) X.xe s₂) X.xe s₁) X.xe s
theorem nobehind (b:Expr){op:CmpOp}(h:op≠.In) (h2:op≠.NotIn):behindInMarks op b=false:=by
 have e1:(op == CmpOp.In)=false:=by cases op <;> first | rfl | exact absurd rfl h
 have e2:(op == CmpOp.NotIn)=false:=by cases op <;> first | rfl | exact absurd rfl h2
 cases b <;> simp [behindInMarks,e1,e2]
def tB (t:TE):TT:=fun σ H Q=>t σ H fun x H1=>∃ c,x=.bl c∧Q c H1
theorem pt_cmp {op:CmpOp}{t:TE}(h:PC X op a b t) (h1:behindInMarks op b=false:=by first | exact nobehind _ (by decide) (by decide) | rfl):PT X (.Compare a [op] [b] pos) (tB t):=by
 intro pins s σ H Q I hw
 refine wpAny_isTrue_Compare1 (thn (h pins s σ H _ I hw) fun v s1 h1=>thn h1 fun u s2 h2=>thn h2 fun c s3 ⟨x,H1,I1,r1,q1⟩=>?_) h1
 obtain⟨d,rfl,q⟩:=q1
 cases r1
 exact wpAny_truthy_bool ⟨H1,I1,q⟩
theorem pt_val {e:Expr}{t:TE}(h:PE X e t) (he:∀ whole,isTrue e X.env whole=(do let v ← whole;standAt e.pos;holding [v] (truthy v)):=by intro _;rfl):PT X e (tB t):=by
 intro pins s σ H Q I hw
 refine isTrue_plain (thn (h pins s σ H _ I hw) fun v s1 ⟨x,H1,I1,r1,q1⟩=>?_) (he _)
 obtain⟨d,rfl,q⟩:=q1
 cases r1
 exact wpAny_truthy_bool ⟨H1,I1,q⟩
variable {tA tB':TT}{rest:List Expr}
def tAnd (t u:TT):TT:=fun σ H Q=>t σ H fun c H1=>if c=true then u σ H1 Q else Q false H1
def tOr (t u:TT):TT:=fun σ H Q=>t σ H fun c H1=>if c=true then Q true H1 else u σ H1 Q
def tNot (t:TT):TT:=fun σ H Q=>t σ H fun c H1=>Q (!c) H1
theorem pw_and1 (ha:PT X a tA):PW X (.BoolOp .And [a] pos) tA:=by
 intro wh pins s σ H Q I h
 refine isTrue_and (thn (ha pins s σ H Q I h) fun c s1 e=>?_)
 cases c with
 | true=>exact isTrue_and_nil e
 | false=>exact e
theorem pw_or1 (ha:PT X a tA):PW X (.BoolOp .Or [a] pos) tA:=by
 intro wh pins s σ H Q I h
 refine isTrue_or (thn (ha pins s σ H Q I h) fun c s1 e=>?_)
 cases c with
 | false=>exact isTrue_or_nil e
 | true=>exact e
theorem pw_and (ha:PT X a tA) (hb:PW X (.BoolOp .And (b::rest) pos) tB'):PW X (.BoolOp .And (a::b::rest) pos) (tAnd tA tB'):=by
 intro wh pins s σ H Q I h
 refine isTrue_and (thn (ha pins s σ H _ I h) fun c s1 ⟨H1,I1,q1⟩=>?_)
 cases c with
 | true=>exact hb wh pins s1 σ H1 Q I1 q1
 | false=>exact⟨H1,I1,q1⟩
theorem pw_or (ha:PT X a tA) (hb:PW X (.BoolOp .Or (b::rest) pos) tB'):PW X (.BoolOp .Or (a::b::rest) pos) (tOr tA tB'):=by
 intro wh pins s σ H Q I h
 refine isTrue_or (thn (ha pins s σ H _ I h) fun c s1 ⟨H1,I1,q1⟩=>?_)
 cases c with
 | true=>exact⟨H1,I1,q1⟩
 | false=>exact hb wh pins s1 σ H1 Q I1 q1
theorem pt_not (ha:PT X a tA):PT X (.UnaryOp .Not a pos) (tNot tA):=by
 intro pins s σ H Q I h
 exact isTrue_not (ha pins s σ H (fun c H1=>Q (!c) H1) I h)
def tAndV (ta tb:TE):TE:=fun σ H Q=>ta σ H fun x H1=>∃ c,x=.bl c∧if c=true then tb σ H1 Q else Q (.bl false) H1
def tNotV (ta:TE):TE:=fun σ H Q=>ta σ H fun x H1=>∃ c,x=.bl c∧Q (.bl (!c)) H1
theorem pe_one {op}{t:TE}(h:PE X a t):PE X (.BoolOp op [a] pos) t:=fun pins s σ H Q I hw=>BoolOp_one (h pins s σ H Q I hw)
theorem pe_and (ha:PE X a ta) (hb:PE X (.BoolOp .And (b::rest) pos) tb):PE X (.BoolOp .And (a::b::rest) pos) (tAndV ta tb):=by
 intro pins s σ H Q I h
 refine BoolOp_and (thn (ha pins s σ H _ I h) fun v s1 ⟨x,H1,I1,r1,q1⟩=>?_)
 obtain⟨c,rfl,q1⟩:=q1
 cases r1
 refine wpAny_truthy_bool ?_
 cases c with
 | true=>exact hb pins s1 σ H1 Q I1 q1
 | false=>exact⟨.bl false,H1,I1,rfl,q1⟩
theorem pe_not (ha:PE X a ta):PE X (.UnaryOp .Not a pos) (tNotV ta):=by
 intro pins s σ H Q I h
 refine UnaryOp_ (thn (ha pins s σ H _ I h) fun v s1 ⟨x,H1,I1,r1,q1⟩=>?_)
 obtain⟨c,rfl,q1⟩:=q1
 cases r1
 exact not_of (wpAny_truthy_bool ⟨.bl (!c),H1,I1,rfl,q1⟩)
end
end L2
namespace L2
open PySem PySem.Spec PyProof.Rows
def SqL (K:PySem.W.Frag) (H:Hp) (a:Addr) (xs:List V):Prop:=
 Rd H a (.lst xs)∨
  ∃ (o:Obj) (its:Array Value) (n:Nat),K.lookup a=some o∧o.cls=.type "list"∧o.dict=none∧o.data=.seq its n∧its.size≤sizeLine∧Vals xs its.toList
def SqT (K:PySem.W.Frag) (H:Hp) (a:Addr) (xs:List V):Prop:=
 Rd H a (.tup xs)∨
  ∃ (o:Obj) (its:Array Value) (n:Nat),K.lookup a=some o∧o.cls=.type "tuple"∧o.data=.seq its n∧its.size≤sizeLine∧Vals xs its.toList
def absV:Value→Option V
 | .none=>some .non
 | .bool b=>some (.bl b)
 | .int i _=>some (.int i)
 | .str x _=>some (.str x)
 | .bytes b _=>some (.byt b)
 | .float b _=>some (.flt b)
 | .ref a=>some (.ref a)
 | .type n=>some (.ty n)
 | _=>none
theorem RelV.abs {x:V}{u:Value}(r:RelV x u):absV u=some x:=by
 cases x with
 | non=>cases r;rfl
 | bl _=>cases r;rfl
 | int _=>obtain⟨t,rfl⟩:=r;rfl
 | str _=>obtain⟨t,rfl⟩:=r;rfl
 | byt _=>obtain⟨t,rfl⟩:=r;rfl
 | flt _=>obtain⟨t,rfl⟩:=r;rfl
 | ref _=>cases r;rfl
 | ty _=>cases r;rfl
theorem RelV.inj {x y:V}{u:Value}(r:RelV x u) (q:RelV y u):x=y:=Option.some.inj (r.abs.symm.trans q.abs)
theorem Vals.inj:∀ {xs ys:List V}{us:List Value},Vals xs us→Vals ys us→xs=ys
 | _,_,_,.nil,.nil=>rfl
 | _,_,_,.cons r t,.cons r' t'=>by rw [r.inj r',Vals.inj t t']
section
variable {X:Cx}{pins:List (Addr × Obj)}{σ:St}{H:Hp}{s:Shared}{a:Addr}{xs ys:List V}
theorem SqL.of {K:PySem.W.Frag}(h:H a=some (.lst xs)):SqL K H a xs:=.inl (.inl h)
theorem SqT.of {K:PySem.W.Frag}(h:H a=some (.tup xs)):SqT K H a xs:=.inl (.inl h)
theorem Inv.list (I:Inv X pins σ H s) (h:SqL X.K H a xs):∃ its:List Value,Vals xs its∧PlainL s.heap a its.toArray∧xs.length≤sizeLine:=by
 rcases h with h | ⟨o,its,n,hk,hc,hd,hs,hz,r⟩
 ·obtain⟨z,its,n,r,e⟩:=h.ok I.hok
  exact⟨its,r,⟨_,n,e,rfl,rfl,rfl⟩,z⟩
 ·refine⟨its.toList,r,⟨o,n,I.kIn a o hk,hc,hd,by simpa using hs⟩,?_⟩
  have e:=r.length
  simp only [Array.length_toList] at e
  omega
theorem Inv.tuple (I:Inv X pins σ H s) (h:SqT X.K H a xs):∃ its:List Value,Vals xs its∧IsTup s.heap a its.toArray∧xs.length≤sizeLine:=by
 rcases h with h | ⟨o,its,n,hk,hc,hs,hz,r⟩
 ·obtain⟨z,its,r,p⟩:=h.ok I.hok
  exact⟨its,r,p,z⟩
 ·refine⟨its.toList,r,⟨o,I.kIn a o hk,hc,n,by simpa using hs⟩,?_⟩
  have e:=r.length
  simp only [Array.length_toList] at e
  omega
theorem Inv.list_inj (I:Inv X pins σ H s) (h:SqL X.K H a xs) (h':SqL X.K H a ys):xs=ys:=by
 obtain⟨its,r,⟨o,n,e,_,_,d⟩,_⟩:=I.list h
 obtain⟨its',r',⟨o',n',e',_,_,d'⟩,_⟩:=I.list h'
 rw [e] at e';cases e'
 rw [d] at d'
 injection d' with d1 _
 have:its=its':=by simpa using congrArg Array.toList d1
 subst this
 exact r.inj r'
theorem Inv.tuple_inj (I:Inv X pins σ H s) (h:SqT X.K H a xs) (h':SqT X.K H a ys):xs=ys:=by
 obtain⟨its,r,⟨o,e,_,n,d⟩,_⟩:=I.tuple h
 obtain⟨its',r',⟨o',e',_,n',d'⟩,_⟩:=I.tuple h'
 rw [e] at e';cases e'
 rw [d] at d'
 injection d' with d1 _
 have:its=its':=by simpa using congrArg Array.toList d1
 subst this
 exact r.inj r'
end
abbrev Cx.wish (X:Cx) (E:Value→Shared→Prop):Cx:={ X with xe:=E }
abbrev Cx.nox (X:Cx):Cx:=X.wish fun _ _=>False
theorem Cx.Ok.wish {X:Cx}(ok:X.Ok) (E:Value→Shared→Prop):(X.wish E).Ok:=
 ⟨ok.mod,ok.kind,ok.glob,ok.blt,ok.above,ok.inj,ok.has,ok.cab,ok.hd,ok.frames,ok.stk,ok.exf,ok.bs,ok.bsz,ok.noex,ok.exfs,ok.funs,ok.frf⟩
theorem Cx.Ok.unwish {X:Cx}{E:Value→Shared→Prop}(ok:(X.wish E).Ok):X.Ok:=
 ⟨ok.mod,ok.kind,ok.glob,ok.blt,ok.above,ok.inj,ok.has,ok.cab,ok.hd,ok.frames,ok.stk,ok.exf,ok.bs,ok.bsz,ok.noex,ok.exfs,ok.funs,ok.frf⟩
section
variable {X:Cx}{pins:List (Addr × Obj)}{σ:St}{H:Hp}{s:Shared}{E:Value→Shared→Prop}
theorem Inv.wish (I:Inv X pins σ H s) (E:Value→Shared→Prop):Inv (X.wish E) pins σ H s:=⟨I.ok.wish E,I.os,I.bare,I.base,I.loc,I.cell,I.free,I.freeC,I.pin,I.hok,I.len⟩
theorem Inv.unwish (I:Inv (X.wish E) pins σ H s):Inv X pins σ H s:=⟨I.ok.unwish,I.os,I.bare,I.base,I.loc,I.cell,I.free,I.freeC,I.pin,I.hok,I.len⟩
theorem SP.unwish {D:Ends}{f:Flow}{s':Shared}(h:SP (X.wish E) pins D f s'):SP X pins D f s':=by
 cases f with
 | next=>obtain⟨σ',H',I,q⟩:=h;exact⟨σ',H',I.unwish,q⟩
 | brk=>obtain⟨σ',H',I,q⟩:=h;exact⟨σ',H',I.unwish,q⟩
 | cont=>obtain⟨σ',H',I,q⟩:=h;exact⟨σ',H',I.unwish,q⟩
 | ret u=>obtain⟨v,σ',H',I,r,q⟩:=h;exact⟨v,σ',H',I.unwish,r,q⟩
theorem PSs.nox {st:List Stmt}{t:TS}(h:PSs X.nox st t):PSs X st t:=fun pins s σ H D I hw=>
 wpAny_mono (h pins s σ H D (I.wish _) hw) (fun _ _ q=>q.unwish) fun _ _ z=>False.elim z
end
section
variable {X:Cx}{st:Stmt}{rest:List Stmt}{t u:TS}{e:Expr}{te:TE}{pos:Pos}
def tNext:TS:=fun D σ H=>D.nx σ H
def tSeq (t u:TS):TS:=fun D σ H=>t { D with nx:=u D } σ H
theorem pss_nil:PSs X [] tNext:=fun _ _ σ H _ I h=>wpAny_execs_nil ⟨σ,H,I,h⟩
theorem pss_cons (h1:PS X st t) (h2:PSs X rest u):PSs X (st::rest) (tSeq t u):=by
 intro pins s σ H D I h
 refine wpAny_execs_cons (thn (h1 pins s σ H { D with nx:=u D } I h) fun f s1 q=>?_)
 cases f with
 | next=>
  obtain⟨σ',H',I',q⟩:=q
  exact h2 pins s1 σ' H' D I' q
 | ret v=>exact q
 | brk=>exact q
 | cont=>exact q
theorem pss_one (h1:PS X st t):PSs X [st] t:=by
 intro pins s σ H D I h
 refine wpAny_execs_cons (thn (h1 pins s σ H D I h) fun f s1 q=>?_)
 cases f with
 | next=>exact wpAny_execs_nil q
 | ret v=>exact q
 | brk=>exact q
 | cont=>exact q
def tCont:TS:=fun D σ H=>D.ct σ H
theorem ps_continue:PS X (.Continue pos) tCont:=fun _ _ σ H _ I h=>wpAny_Continue ⟨σ,H,I,h⟩
theorem Inv.quiet {pins:List (Addr × Obj)}{σ:St}{H:Hp}{s:Shared}(I:Inv X pins σ H s):interactive X.env=false:=by simp [interactive,I.ok.kind]
def tDrop (te:TE):TS:=fun D σ H=>te σ H fun _ H1=>D.nx σ H1
theorem ps_expr (he:PE X e te) (hs:swapsWith e none pos.line X.env=pure false:=by rfl):PS X (.Expr e pos) (tDrop te):=by
 intro pins s σ H D I h
 exact wpAny_Expr_any (thn (he pins s σ H _ I h) fun v s1 ⟨x,H1,I1,r1,q1⟩=>⟨σ,H1,I1,q1⟩) I.quiet hs
def tRet (te:TE):TS:=fun D σ H=>te σ H D.rt
theorem ps_ret (he:PE X e te):PS X (.Return (some e) pos) (tRet te):=by
 intro pins s σ H D I h
 exact wpAny_Return_some (thn (he pins s σ H _ I h) fun v s1 ⟨x,H1,I1,r1,q1⟩=>⟨x,σ,H1,I1,r1,q1⟩)
def tIfS (c:TT) (t u:TS):TS:=fun D σ H=>c σ H fun b H1=>if b=true then t D σ H1 else u D σ H1
theorem ps_if {c:Expr}{a b:List Stmt}{tc:TT}(hc:PT X c tc) (ha:PSs X a t) (hb:PSs X b u):PS X (.If c a b pos) (tIfS tc t u):=by
 intro pins s σ H D I h
 refine wpAny_If (thn (hc pins s σ H _ I h) fun d s1 ⟨H1,I1,q1⟩=>?_)
 cases d with
 | true=>exact ha pins s1 σ H1 D I1 q1
 | false=>exact hb pins s1 σ H1 D I1 q1
end
abbrev TG:=V→St→Hp→(St→Hp→Prop)→Prop
abbrev TGs:=List V→St→Hp→(St→Hp→Prop)→Prop
def PG (X:Cx) (target:Expr) (t:TG):Prop:=
 ∀ (pins:List (Addr × Obj)) (s:Shared) (σ:St) (H:Hp) (v:V) (u:Value) (Q:St→Hp→Prop),Inv X pins σ H s→RelV v u→t v σ H Q→
  wpAny (model X.prog X.w) X.A (assign target X.env u) (fun _ s'=>∃ σ' H',Inv X pins σ' H' s'∧Q σ' H') X.xe s
def PGs (X:Cx) (ts:List Expr) (t:TGs):Prop:=
 ∀ (pins:List (Addr × Obj)) (s:Shared) (σ:St) (H:Hp) (vs:List V) (us:List Value) (Q:St→Hp→Prop),Inv X pins σ H s→Vals vs us→t vs σ H Q→
  wpAny (model X.prog X.w) X.A (assignInOrder ((assignEach ts X.env).map (·.2)) us) (fun _ s'=>∃ σ' H',Inv X pins σ' H' s'∧Q σ' H') X.xe s
section
variable {X:Cx}{pos:Pos}
def gName (i:Nat):TG:=fun v σ H Q=>Q (σ.set i (some v)) H
theorem pg_name {i:Nat}{x:Str}(hN:X.N.Nodup) (hi:X.N[i]?=some x) (hx:Loc X.env.scope x) (hf:X.fn x=true∨X.env.scope.names.lookup x=some .local:=by first | exact .inl rfl | exact .inr rfl | assumption):PG X (.Name x pos) (gName i):=by
 intro pins s σ H v u Q I r h
 exact wpAny_assign_Name (store_ok I hN hi hx r (fun s' I'=>⟨_,H,I',h⟩) hf)
def gNil:TGs:=fun vs σ H Q=>vs=[]∧Q σ H
def gCons (t:TG) (u:TGs):TGs:=fun vs σ H Q=>∃ v r,vs=v::r∧t v σ H fun σ' H'=>u r σ' H' Q
theorem pgs_nil:PGs X [] gNil:=by
 intro pins s σ H vs us Q I r h
 obtain⟨e,h⟩:=h
 subst e
 cases r
 exact assignInOrder_nil ⟨σ,H,I,h⟩
theorem pgs_cons {e:Expr}{es:List Expr}{t:TG}{u:TGs}(h1:PG X e t) (h2:PGs X es u)
  (hs:(assignEach (e::es) X.env).map (·.2)=assign e X.env::(assignEach es X.env).map (·.2):=by rfl):PGs X (e::es) (gCons t u):=by
 intro pins s σ H vs us Q I r h
 obtain⟨v,vr,e1,h⟩:=h
 subst e1
 cases r with
 | cons r rr=>
  rw [hs]
  refine assignInOrder_cons (thn (h1 pins s σ H _ _ _ I r h) fun _ s1 ⟨σ1,H1,I1,q1⟩=>?_)
  exact h2 pins s1 σ1 H1 _ _ Q I1 rr q1
def gTup (K:PySem.W.Frag) (n:Nat) (t:TGs):TG:=fun v σ H Q=>∃ a xs,v=.ref a∧SqT K H a xs∧xs.length=n∧t xs σ H Q
theorem pg_tup {es:List Expr}{k:Nat}{t:TGs}{n:Nat}(hc:Calm X) (h:PGs X es t)
  (hn:(assignEach es X.env).length=n:=by rfl) (hst:(assignEach es X.env).findIdx? (·.1)=none:=by rfl):PG X (.Tuple es k pos) (gTup X.K n t):=by
 intro pins s σ H v u Q I r hw
 obtain⟨a,xs,e1,hq,hl,hw⟩:=hw
 subst e1
 cases r
 obtain⟨its,rv,ht,hz⟩:=I.tuple hq
 refine z355 (I.calm hc) ht (by simp [hn,← hl,rv.length]) hst fun h' hx=>?_
 have I1:Inv X pins σ H { s with heap:=h' }:=I.kept (t':=s.toks) fun b o e=>hx b o (Nat.ne_of_lt (Heap.lt_size e)) e
 exact h pins _ σ H xs _ Q I1 (by simpa using rv) hw
def tAsg (te:TE) (g:TG):TS:=fun D σ H=>te σ H fun x H1=>g x σ H1 D.nx
theorem ps_set {i:Nat}{x:Str}{e:Expr}{te:TE}{pos':Pos}(hN:X.N.Nodup) (hi:X.N[i]?=some x) (hx:Loc X.env.scope x) (he:PE X e te) (hs:swapsWith e (some (.Name x pos')) pos.line X.env=pure false:=by rfl) (hf:X.fn x=true∨X.env.scope.names.lookup x=some .local:=by first | exact .inl rfl | exact .inr rfl | assumption):
  PS X (.Assign [.Name x pos'] e pos) (tAsg te (gName i)):=by
 intro pins s σ H D I h
 refine wpAny_Assign_Name (thn (he pins s σ H _ I h) fun v s1 ⟨y,H1,I1,r1,q1⟩=>?_) hs
 exact store_ok I1 hN hi hx r1 (fun s2 I2=>⟨_,H1,I2,q1⟩) hf
end
section
variable {X:Cx}{pos:Pos}
def tWhile (c:TT) (tb:TS):TS:=fun D σ H=>∃ W:Nat→St→Hp→Prop,(∃ m,W m σ H)∧∀ m σ H,W m σ H→
 c σ H fun b H1=>if b=true then ∃ N:St→Hp→Prop,(∀ σ' H',N σ' H'→∃ m',m' < m∧W m' σ' H')∧tb { D with nx:=N,ct:=N,bk:=D.nx } σ H1 else D.nx σ H1
theorem ps_while {c:Expr}{body:List Stmt}{tc:TT}{tb:TS}(hp:PassesOwn (model X.prog X.w) X.A X.env X.xe) (hc:PT X c tc) (hb:PSs X body tb):PS X (.While c body [] pos) (tWhile tc tb):=by
 intro pins s σ H D I h
 obtain⟨W,⟨m0,w0⟩,turn⟩:=h
 refine wpAny_While (codeAny_whileLoop (fun n s'=>∃ σ' H',Inv X pins σ' H' s'∧W n σ' H') ?_ m0 ⟨σ,H,I,w0⟩)
 rintro n s1 ⟨σ1,H1,I1,w1⟩
 refine wpAny_passesOwn hp (thn (hc pins s1 σ1 H1 _ I1 (turn n σ1 H1 w1)) fun b s2 ⟨H2,I2,q2⟩=>?_)
 cases b with
 | true=>
  obtain⟨N,hN,q2⟩:=q2
  rw [if_pos rfl]
  refine wpAny_passesOwn hp (thn (hb pins s2 σ1 H2 _ I2 q2) fun f s3 q3=>?_)
  cases f with
  | next=>
   obtain⟨σ3,H3,I3,n3⟩:=q3
   obtain⟨m',hm,w3⟩:=hN σ3 H3 n3
   exact⟨m',hm,σ3,H3,I3,w3⟩
  | cont=>
   obtain⟨σ3,H3,I3,n3⟩:=q3
   obtain⟨m',hm,w3⟩:=hN σ3 H3 n3
   exact⟨m',hm,σ3,H3,I3,w3⟩
  | brk=>exact q3
  | ret v=>exact q3
 | false=>
  rw [if_neg Bool.false_ne_true]
  exact wpAny_execs_nil ⟨σ1,H2,I2,q2⟩
end
structure It where
 go:Nat→Hp→Prop
 yld:Nat→Hp→V→Hp→Prop
 stop:Nat→Hp→Prop
def FpOk (X:Cx) (pins:List (Addr × Obj)) (H:Hp) (b:Addr):Prop:=
 H b=none∧b≠X.env.locals∧b ∉ X.fs∧(b∈X.ex∨X.s₀.heap.objs.size≤b)∧(∀ x c,X.env.cells.lookup x=some c→c≠b)∧∀ p∈X.pn++pins,p.1≠b
theorem Inv.fpOk {X:Cx}{pins:List (Addr × Obj)}{σ:St}{H H':Hp}{s:Shared}{b:Addr}(I:Inv X pins σ H s) (hb:s.heap.objs.size≤b) (hn:H' b=none):FpOk X pins H' b:=by
 refine⟨hn,Nat.ne_of_gt (Nat.lt_of_lt_of_le I.lt hb),I.nofs hb,.inr (Nat.le_trans I.sz hb),fun x c e z=>?_,fun p hp z=>?_⟩
 ·obtain⟨v,q⟩:=I.cell x c e
  exact absurd (Nat.lt_of_lt_of_le q.lt (by rw [z];exact hb)) (Nat.lt_irrefl _)
 ·exact absurd (Nat.lt_of_lt_of_le (Heap.lt_size (I.pin p hp).1) (by rw [z];exact hb)) (Nat.lt_irrefl _)
structure Turn (P:Program) (w:World) (K:PySem.W.Frag) (tg:Expr) (J:It) (fp:List Addr) (it:Addr) (tn:Nat→Heap→Prop):Prop where
 mem:it∈fp
 obj:∀ i h,tn i h→∀ b∈fp,∃ o,h.get? b=some o∧∀ v,o.data≠.cell v
 keep:∀ i h h',tn i h→(∀ b∈fp,∀ o,h.get? b=some o→h'.get? b=some o)→tn i h'
 item:∀ (X:Cx),X.prog=P→X.w=w→X.K=K→Calm X→∀ (i:Nat) (pins:List (Addr × Obj)) (s:Shared) (σ:St) (H:Hp) (E:Value→Shared→Prop),Inv X pins σ H s→(∀ b∈fp,FpOk X pins H b)→tn i s.heap→J.go i H→
  wpAny (model P w) X.A (pyNext (.ref it)) (fun r s1=>∃ u,r=some u∧
   wpAny (model P w) X.A (letOwnedTupleGo tg (.ref it) u) (fun _ s2=>∃ x H',Inv X pins σ H' s2∧RelV x u∧J.yld i H x H'∧tn (i + 1) s2.heap∧∀ b∈fp,H' b=none) E s1) E s
 done:∀ (X:Cx),X.prog=P→X.w=w→X.K=K→Calm X→∀ (i:Nat) (pins:List (Addr × Obj)) (s:Shared) (σ:St) (H:Hp) (E:Value→Shared→Prop),Inv X pins σ H s→(∀ b∈fp,FpOk X pins H b)→tn i s.heap→J.stop i H→
  wpAny (model P w) X.A (pyNext (.ref it)) (fun r s1=>r=none∧Inv X pins σ H s1) E s
 self:∀ (A:Around) (i:Nat) (s:Shared) (Q:Value→Shared→Prop) (E:Value→Shared→Prop),tn i s.heap→Q (.ref it) s→wpAny (model P w) A (pyIter (.ref it)) Q E s
abbrev TI:=St→Hp→(It→Hp→Prop)→Prop
def PIE (X:Cx) (pins:List (Addr × Obj)) (σ:St) (tg:Expr) (R:It→Hp→Prop) (itv:Value) (s2:Shared):Prop:=
 ∃ (it:Addr) (fp:List Addr) (tn:Nat→Heap→Prop) (J:It) (H':Hp),itv=.ref it∧Inv X pins σ H' s2∧Turn X.prog X.w X.K tg J fp it tn∧tn 0 s2.heap∧(∀ b∈fp,FpOk X pins H' b)∧R J H'
def PI (X:Cx) (tg iter:Expr) (wi:TI):Prop:=
 ∀ (pins:List (Addr × Obj)) (s:Shared) (σ:St) (H:Hp) (R:It→Hp→Prop),Inv X pins σ H s→wi σ H R→
  wpAny (model X.prog X.w) X.A (eval iter X.env) (fun v s1=>wpAny (model X.prog X.w) X.A (pyIter v) (PIE X pins σ tg R) X.xe s1) X.xe s
theorem go_of {M:Model}{A:Around}{E:Value→Shared→Prop}{s:Shared}{tg:Expr}{it:Addr}{u:Value}{o:Obj}{n:String}{vs:Array Value}{Q:Unit→Shared→Prop}(ho:s.heap.get? it=some o) (hc:o.cls=.type n) (hd:o.data=.fields vs)
  (hn:["enumerate","zip","dict_itemiterator","dict_reverseitemiterator","odict_iterator","itertools.zip_longest","itertools.pairwise"].contains n=false) (hQ:Q () s):wpAny M A (letOwnedTupleGo tg (.ref it) u) Q E s:=by
 unfold letOwnedTupleGo
 cases tg <;> first
  | exact wpAny_pure hQ
  | (cases u <;> first
    | exact wpAny_pure hQ
    | (
      refine wpAny_bind (wpAny_load ho ?_)
      rw [hc,hd]
      show wpAny M A (if (["enumerate","zip","dict_itemiterator","dict_reverseitemiterator","odict_iterator","itertools.zip_longest","itertools.pairwise"].contains n && vs[0]? == some (rawInt _))=true then _ else _) Q E s
      rw [if_neg (by intro h;rw [hn,Bool.false_and] at h;cases h)]
      exact wpAny_pure hQ))
def Itl (K:PySem.W.Frag) (a:Addr):It:=
 ⟨fun i H=>∃ xs x,SqL K H a xs∧xs[i]?=some x,fun i H x H'=>H'=H∧∀ xs,SqL K H a xs→xs[i]?=some x,fun i H=>∃ xs,SqL K H a xs∧xs.length≤i⟩
def Itt (K:PySem.W.Frag) (a:Addr):It:=
 ⟨fun i H=>∃ xs x,SqT K H a xs∧xs[i]?=some x,fun i H x H'=>H'=H∧∀ xs,SqT K H a xs→xs[i]?=some x,fun i H=>∃ xs,SqT K H a xs∧xs.length≤i⟩
def Itr (lo:Int) (n:Nat):It:=⟨fun i _=>i < n,fun i H x H'=>H'=H∧x=.int (lo + i),fun i _=>n≤i⟩
theorem turn_list {P:Program}{w:World}{K:PySem.W.Frag}{tg:Expr}(a it:Addr):Turn P w K tg (Itl K a) [it] it (fun i h=>h.IsListIter it a i) where
 mem:=by simp
 obj:=fun i h st b hb=>by
  have e:b=it:=by simpa using hb
  subst e
  obtain⟨o,e,c,d⟩:=st
  exact⟨o,e,fun v z=>by rw [d] at z;cases z⟩
 keep:=fun i h h' st k=>st.at fun o e=>k it (by simp) o e
 item:=by
  intro X hP hw hK hc i pins s σ H E I hf st hg
  subst hP hw hK
  obtain⟨xs,x,hq,hx⟩:=hg
  obtain⟨its,rv,p,hz⟩:=I.list hq
  obtain⟨u,hu,ru⟩:=rv.get hx
  obtain⟨f0,f1,f2,f3,f4,f5⟩:=hf it (by simp)
  refine wpAny_pyNext_list_item st p.isList (x:=u) (by simpa using hu) fun h' st' sb=>?_
  have I1:Inv X pins σ H { s with heap:=h' }:=I.turned (t':=s.toks) (fun b o hb e=>(sb.2 b hb).trans e) f0 f1 f3 f4 f5
  obtain⟨o,e,c,d⟩:=id st'
  exact⟨u,rfl,go_of (s:={ s with heap:=h' }) e c d (by decide) ⟨x,H,I1,ru,⟨rfl,fun ys hy=>by rw [I.list_inj hy hq];exact hx⟩,st',fun b hb=>(hf b hb).1⟩⟩
 done:=by
  intro X hP hw hK hc i pins s σ H E I hf st hg
  subst hP hw hK
  obtain⟨xs,hq,hx⟩:=hg
  obtain⟨its,rv,p,hz⟩:=I.list hq
  obtain⟨f0,f1,f2,f3,f4,f5⟩:=hf it (by simp)
  have hl:=rv.length
  exact z579 (I.calm hc) st p.isList (by simp;omega) fun h' eb=>⟨rfl,I.turned (t':=s.toks) (fun b o hb e=>eb b o hb e) f0 f1 f3 f4 f5⟩
 self:=fun _ _ _ _ _ st h=>wpAny_pyIter_listiter st h
theorem turn_tuple {P:Program}{w:World}{K:PySem.W.Frag}{tg:Expr}(a it:Addr):Turn P w K tg (Itt K a) [it] it (fun i h=>h.IsTupleIter it a i) where
 mem:=by simp
 obj:=fun i h st b hb=>by
  have e:b=it:=by simpa using hb
  subst e
  obtain⟨o,e,c,d⟩:=st
  exact⟨o,e,fun v z=>by rw [d] at z;cases z⟩
 keep:=fun i h h' st k=>st.at fun o e=>k it (by simp) o e
 item:=by
  intro X hP hw hK hc i pins s σ H E I hf st hg
  subst hP hw hK
  obtain⟨xs,x,hq,hx⟩:=hg
  obtain⟨its,rv,p,hz⟩:=I.tuple hq
  obtain⟨u,hu,ru⟩:=rv.get hx
  obtain⟨f0,f1,f2,f3,f4,f5⟩:=hf it (by simp)
  refine wpAny_pyNext_tuple_item st (show s.heap.IsTuple a its.toArray from p) (x:=u) (by simpa using hu) fun h' st' sb=>?_
  have I1:Inv X pins σ H { s with heap:=h' }:=I.turned (t':=s.toks) (fun b o hb e=>(sb.2 b hb).trans e) f0 f1 f3 f4 f5
  obtain⟨o,e,c,d⟩:=id st'
  exact⟨u,rfl,go_of (s:={ s with heap:=h' }) e c d (by decide) ⟨x,H,I1,ru,⟨rfl,fun ys hy=>by rw [I.tuple_inj hy hq];exact hx⟩,st',fun b hb=>(hf b hb).1⟩⟩
 done:=by
  intro X hP hw hK hc i pins s σ H E I hf st hg
  subst hP hw hK
  obtain⟨xs,hq,hx⟩:=hg
  obtain⟨its,rv,p,hz⟩:=I.tuple hq
  obtain⟨f0,f1,f2,f3,f4,f5⟩:=hf it (by simp)
  have hl:=rv.length
  exact z395 (I.calm hc) st (show s.heap.IsTuple a its.toArray from p) (by simp;omega) fun h' eb=>⟨rfl,I.turned (t':=s.toks) (fun b o hb e=>eb b o hb e) f0 f1 f3 f4 f5⟩
 self:=fun _ _ _ _ _ st h=>wpAny_pyIter_tupleiter st h
theorem turn_range {P:Program}{w:World}{K:PySem.W.Frag}{tg:Expr}(it:Addr) (lo:Int) (n:Nat):Turn P w K tg (Itr lo n) [it] it (fun i h=>IsRangeIter h it (lo + (i:Nat) * 1) ((n:Int) - (i:Nat)) 1) where
 mem:=by simp
 obj:=fun i h st b hb=>by
  have e:b=it:=by simpa using hb
  subst e
  exact⟨_,st,fun v z=>by
   have z':Data.fields _=Data.cell v:=z
   cases z'⟩
 keep:=fun i h h' st k=>k it (by simp) _ st
 item:=by
  intro X hP hw hK hc i pins s σ H E I hf st hg
  subst hP hw hK
  obtain⟨f0,f1,f2,f3,f4,f5⟩:=hf it (by simp)
  refine wpAny_pyNext_range_item st (by have:i < n:=hg;omega) fun h' st2 sb=>?_
  have st':IsRangeIter h' it (lo + ((i + 1:Nat):Int) * 1) ((n:Int) - ((i + 1:Nat):Int)) 1:=by
   rw [show lo + ((i + 1:Nat):Int) * 1=lo + (i:Nat) * 1 + 1 by omega,show (n:Int) - ((i + 1:Nat):Int)=n - (i:Nat) - 1 by omega]
   exact st2
  have I1:Inv X pins σ H { s with heap:=h',toks:=s.toks + 1 }:=I.turned (fun b o hb e=>(sb.2 b hb).trans e) f0 f1 f3 f4 f5
  refine⟨_,rfl,go_of (s:={ s with heap:=h',toks:=s.toks + 1 }) (n:="range_iterator") st' rfl rfl (by decide) ⟨.int (lo + i),H,I1,⟨s.toks,?_⟩,⟨rfl,rfl⟩,st',fun b hb=>(hf b hb).1⟩⟩
  rw [Int.mul_one]
 done:=by
  intro X hP hw hK hc i pins s σ H E I hf st hg
  subst hP hw hK
  obtain⟨f0,f1,f2,f3,f4,f5⟩:=hf it (by simp)
  exact z508 (I.calm hc) st (by have:n≤i:=hg;omega) fun h' eb=>⟨rfl,I.turned (t':=s.toks) (fun b o hb e=>eb b o hb e) f0 f1 f3 f4 f5⟩
 self:=fun _ _ _ _ _ st h=>wpAny_pyIter_rangeiter st h
end L2
namespace L2
open PySem PySem.Spec PyProof.Rows
section
variable {X:Cx}{tg:Expr}
def iList (K:PySem.W.Frag) (tl:TE):TI:=fun σ H R=>tl σ H fun x H1=>∃ a,x=.ref a∧(∃ xs,SqL K H1 a xs)∧R (Itl K a) H1
def iTup (K:PySem.W.Frag) (tl:TE):TI:=fun σ H R=>tl σ H fun x H1=>∃ a,x=.ref a∧(∃ xs,SqT K H1 a xs)∧R (Itt K a) H1
theorem pi_list {l:Expr}{tl:TE}(hl:PE X l tl):PI X tg l (iList X.K tl):=by
 intro pins s σ H R I h
 refine thn (hl pins s σ H _ I h) fun v s1 ⟨x,H1,I1,r1,q1⟩=>?_
 obtain⟨a,e,⟨xs,hq⟩,q⟩:=q1
 subst e
 cases r1
 obtain⟨its,rv,p,hz⟩:=I1.list hq
 refine wpAny_pyIter_list p.isList ?_
 refine⟨s1.heap.objs.size,[s1.heap.objs.size],_,_,H1,rfl,I1.kept (t':=s1.toks) fun b o e=>Heap.get?_push_of_some _ e,turn_list a _,⟨_,Heap.get?_push_size _ rfl,rfl,rfl⟩,fun b hb=>?_,q⟩
 have e:b=s1.heap.objs.size:=by simpa using hb
 subst e
 exact I1.fpOk (Nat.le_refl _) (I1.hok.fresh (Nat.le_refl _))
theorem pi_tup {l:Expr}{tl:TE}(hl:PE X l tl):PI X tg l (iTup X.K tl):=by
 intro pins s σ H R I h
 refine thn (hl pins s σ H _ I h) fun v s1 ⟨x,H1,I1,r1,q1⟩=>?_
 obtain⟨a,e,⟨xs,hq⟩,q⟩:=q1
 subst e
 cases r1
 obtain⟨its,rv,p,hz⟩:=I1.tuple hq
 refine wpAny_pyIter_tuple (show s1.heap.IsTuple a its.toArray from p) ?_
 refine⟨s1.heap.objs.size,[s1.heap.objs.size],_,_,H1,rfl,I1.kept (t':=s1.toks) fun b o e=>Heap.get?_push_of_some _ e,turn_tuple a _,⟨_,Heap.get?_push_size _ rfl,rfl,rfl⟩,fun b hb=>?_,q⟩
 have e:b=s1.heap.objs.size:=by simpa using hb
 subst e
 exact I1.fpOk (Nat.le_refl _) (I1.hok.fresh (Nat.le_refl _))
theorem range_it {pins:List (Addr × Obj)}{σ:St}{H:Hp}{s:Shared}{R:It→Hp→Prop}{E:Value→Shared→Prop}{lo hi:Int}{t u v:Tok}{tk:Nat}(I:Inv X pins σ H s) (h1:-(2 ^ 62)≤lo) (h2:lo < 2 ^ 62) (h3:-(2 ^ 62)≤hi) (h4:hi < 2 ^ 62)
  (q:R (Itr lo (hi - lo).toNat) H):wpAny (model X.prog X.w) X.A (pyIter (.ref s.heap.objs.size)) (PIE X pins σ tg R) E { s with heap:=s.heap.push { cls:=.type "range",data:=.fields #[.int lo t,.int hi u,.int 1 v] },toks:=tk }:=by
 refine wpAny_pyIter_range (IsRange.new ..) (small_one h1 h2 h3 h4) ?_
 have I1:Inv X pins σ H { s with heap:=s.heap.push { cls:=.type "range",data:=.fields #[.int lo t,.int hi u,.int 1 v] },toks:=tk }:=I.kept fun b o e=>Heap.get?_push_of_some _ e
 refine⟨(s.heap.push { cls:=.type "range",data:=.fields #[.int lo t,.int hi u,.int 1 v] }).objs.size,[(s.heap.push { cls:=.type "range",data:=.fields #[.int lo t,.int hi u,.int 1 v] }).objs.size],_,_,H,rfl,
  I1.kept (t':=tk) fun b o e=>Heap.get?_push_of_some _ e,turn_range _ lo (hi - lo).toNat,?_,fun b hb=>?_,q⟩
 ·have e1:lo + ((0:Nat):Int) * 1=lo:=by simp
  have e2:(((hi - lo).toNat:Nat):Int) - ((0:Nat):Int)=Builtin.Range.rangeSize lo hi 1:=by rw [rangeSize_one];split <;> omega
  show IsRangeIter _ _ (lo + ((0:Nat):Int) * 1) ((((hi - lo).toNat:Nat):Int) - ((0:Nat):Int)) 1
  rw [e1,e2]
  exact Heap.get?_push_size _ rfl
 ·have e:b=(s.heap.push { cls:=.type "range",data:=.fields #[.int lo t,.int hi u,.int 1 v] }).objs.size:=by simpa using hb
  subst e
  exact I1.fpOk (Nat.le_refl _) (I1.hok.fresh (Nat.le_refl _))
def iRng1 (ta:TA):TI:=fun σ H R=>ta σ H fun vs H1=>∃ j:Int,vs=[.int j]∧-(2 ^ 62)≤j∧j < 2 ^ 62∧R (Itr 0 j.toNat) H1
def iRng2 (ta:TA):TI:=fun σ H R=>ta σ H fun vs H1=>∃ i j:Int,vs=[.int i,.int j]∧(-(2 ^ 62)≤i∧i < 2 ^ 62∧-(2 ^ 62)≤j∧j < 2 ^ 62)∧R (Itr i (j - i).toNat) H1
theorem pi_range1 {a:Expr}{ta:TA}{p pos:Pos}(hg:Gl X "range") (hm:X.mg "range"=none) (ha:PA X [a] ta) (hs:starEach [a] X.env=[(false,eval a X.env)]:=by rfl):PI X tg (.Call (.Name "range" p) [a] [] pos) (iRng1 ta):=by
 intro pins s σ H R I h
 refine Call_ (ld_blt I hg hm boot_range (PyProof.Rows.callWith_type1 (thn (ha pos pins s σ H _ I h) fun us s1 ⟨vs,H1,I1,r1,q1⟩=>?_) hs rfl))
 obtain⟨j,e,q1,q2,q⟩:=q1
 subst e
 cases r1 with
 | cons r rr=>
  cases rr
  obtain⟨t,rfl⟩:=r
  exact call_range_1 (range_it I1 (by omega) (by omega) q1 q2 (by simpa using q))
theorem pi_range2 {a b:Expr}{ta:TA}{p pos:Pos}(hg:Gl X "range") (hm:X.mg "range"=none) (ha:PA X [a,b] ta) (hs:starEach [a,b] X.env=[(false,eval a X.env),(false,eval b X.env)]:=by rfl) (hs2:starEach [b] X.env=[(false,eval b X.env)]:=by rfl):
  PI X tg (.Call (.Name "range" p) [a,b] [] pos) (iRng2 ta):=by
 intro pins s σ H R I h
 refine Call_ (ld_blt I hg hm boot_range (PyProof.Rows.callWith_type1 (thn (ha pos pins s σ H _ I h) fun us s1 ⟨vs,H1,I1,r1,q1⟩=>?_) (by rw [hs,hs2]) (by rw [hs2];rfl)))
 obtain⟨i,j,e,⟨q1,q2,q3,q4⟩,q⟩:=q1
 subst e
 cases r1 with
 | cons r rr=>
  cases rr with
  | cons r' rr=>
   cases rr
   obtain⟨t,rfl⟩:=r
   obtain⟨t',rfl⟩:=r'
   exact call_range_2 (range_it I1 q1 q2 q3 q4 q)
def tFor (wi:TI) (g:TG) (tb:TS):TS:=fun D σ H=>wi σ H fun J H1=>∃ W:Nat→Nat→St→Hp→Prop,(∃ m,W 0 m σ H1)∧∀ i m σ H,W i m σ H→
 (J.stop i H∧D.nx σ H)∨(J.go i H∧∃ N:St→Hp→Prop,(∀ σ' H',N σ' H'→∃ m',m' < m∧W (i + 1) m' σ' H')∧∀ x H',J.yld i H x H'→g x σ H' fun σ2 H2=>tb { D with nx:=N,ct:=N,bk:=D.nx } σ2 H2)
def pinsAt (fp:List Addr) (h:Heap):List (Addr × Obj):=fp.filterMap fun b=>(h.get? b).map fun o=>(b,o)
theorem mem_pinsAt {fp:List Addr}{h:Heap}{b:Addr}{o:Obj}(hb:b∈fp) (e:h.get? b=some o):(b,o)∈pinsAt fp h:=List.mem_filterMap.mpr ⟨b,hb,by rw [e];rfl⟩
theorem of_pinsAt {fp:List Addr}{h:Heap}{p:Addr × Obj}(hp:p∈pinsAt fp h):p.1∈fp∧h.get? p.1=some p.2:=by
 obtain⟨b,hb,e⟩:=List.mem_filterMap.mp hp
 cases q:h.get? b with
 | none=>rw [q] at e;cases e
 | some o=>
  rw [q] at e
  have e':(b,o)=p:=Option.some.inj e
  subst e'
  exact⟨hb,q⟩
theorem Inv.pinned {pins:List (Addr × Obj)}{σ:St}{H:Hp}{s:Shared}{fp:List Addr}(I:Inv X pins σ H s) (hf:∀ b∈fp,FpOk X pins H b) (ho:∀ b∈fp,∃ o,s.heap.get? b=some o∧∀ v,o.data≠.cell v):Inv X (pins++pinsAt fp s.heap) σ H s:=
 I.pins_of fun p hp=>(List.mem_append.mp hp).elim (fun z=>I.pin p (List.mem_append_right _ z)) fun z=>by
  obtain⟨hb,e⟩:=of_pinsAt z
  obtain⟨f0,f1,f2,_⟩:=hf p.1 hb
  obtain⟨o,e',d⟩:=ho p.1 hb
  rw [e] at e';cases e'
  exact⟨e,f0,f1,f2,d⟩
theorem Inv.unpinned {pins pl:List (Addr × Obj)}{σ:St}{H:Hp}{s:Shared}(I:Inv X (pins++pl) σ H s):Inv X pins σ H s:=I.pins_of fun p hp=>I.pin p (List.mem_append_right _ (List.mem_append_left _ hp))
theorem ps_for {iter:Expr}{body:List Stmt}{wi:TI}{g:TG}{tb:TS}{pos:Pos}(hp:PassesOwn (model X.prog X.w) X.A X.env X.xe) (hc:Calm X) (hi:PI X tg iter wi) (hg:PG X tg g) (hb:PSs X body tb)
  (hs:∀ x,foldedSetIterable iter X.env x=pure x:=by intro _;rfl):PS X (.For tg iter body [] pos) (tFor wi g tb):=by
 intro pins s σ H D I h
 refine wpAny_For (thn (hi pins s σ H _ I h) fun v s1 h1=>thn h1 fun itv s2 h2=>?_) hs
 obtain⟨it,fp,tn,J,H2,e,I2,T,st2,f2,W,⟨m0,w0⟩,turn⟩:=h2
 subst e
 have stat:∀ {H':Hp},(∀ b∈fp,H' b=none)→∀ b∈fp,FpOk X pins H' b:=fun hn b hb=>⟨hn b hb,(f2 b hb).2⟩
 refine codeAny_forLoop_any (fun n s'=>∃ i σ' H',Inv X pins σ' H' s'∧tn i s'.heap∧(∀ b∈fp,H' b=none)∧W i n σ' H') ?_ m0 ⟨0,σ,H2,I2,st2,fun b hb=>(f2 b hb).1,w0⟩
 rintro n s3 ⟨i,σ3,H3,I3,st3,fr3,w3⟩
 rcases turn i n σ3 H3 w3 with ⟨stop,qn⟩ | ⟨go,N,hN,step⟩
 ·refine wpAny_passesOwn hp (thn (T.done X rfl rfl rfl hc i pins s3 σ3 H3 X.xe I3 (stat fr3) st3 stop) fun r s4 ⟨hr,I4⟩=>?_)
  subst hr
  exact wpAny_execs_nil ⟨σ3,H3,I4,qn⟩
 ·refine wpAny_passesOwn hp (thn (T.item X rfl rfl rfl hc i pins s3 σ3 H3 X.xe I3 (stat fr3) st3 go) fun r s4 ⟨u,hr,h4⟩=>?_)
  subst hr
  refine wpAny_passesOwn hp (thn h4 fun _ s5 ⟨x,H5,I5,r5,y5,st5,fr5⟩=>?_)
  have I5':=I5.pinned (stat fr5) (T.obj _ _ st5)
  refine wpAny_passesOwn hp (thn (hg _ s5 σ3 H5 x u _ I5' r5 (step x H5 y5)) fun _ s6 ⟨σ6,H6,I6,q6⟩=>?_)
  refine wpAny_passesOwn hp (thn (hb _ s6 σ6 H6 _ I6 q6) fun f s7 q7=>?_)
  have again:∀ {σ7:St}{H7:Hp},Inv X (pins++pinsAt fp s5.heap) σ7 H7 s7→N σ7 H7→∃ m,m < n∧∃ i σ' H',Inv X pins σ' H' s7∧tn i s7.heap∧(∀ b∈fp,H' b=none)∧W i m σ' H':=fun{σ7 H7} I7 n7=>by
   obtain⟨m',hm,w7⟩:=hN σ7 H7 n7
   refine⟨m',hm,i + 1,σ7,H7,I7.unpinned,T.keep _ _ _ st5 fun b hb o e=>(I7.pin (b,o) (List.mem_append_right _ (List.mem_append_right _ (mem_pinsAt hb e)))).1,fun b hb=>?_,w7⟩
   obtain⟨o,e,d⟩:=T.obj _ _ st5 b hb
   exact(I7.pin (b,o) (List.mem_append_right _ (List.mem_append_right _ (mem_pinsAt hb e)))).2.1
  cases f with
  | next=>obtain⟨σ7,H7,I7,n7⟩:=q7;exact again I7 n7
  | cont=>obtain⟨σ7,H7,I7,n7⟩:=q7;exact again I7 n7
  | brk=>obtain⟨σ7,H7,I7,q7⟩:=q7;exact⟨σ7,H7,I7.unpinned,q7⟩
  | ret v=>obtain⟨x7,σ7,H7,I7,r7,q7⟩:=q7;exact⟨x7,σ7,H7,I7.unpinned,r7,q7⟩
end
theorem for_list {K:PySem.W.Frag}{a:Addr}{xs:List V}{g:TG}{tb:TS}{D:Ends}{σ:St}{H:Hp}(Pv:Nat→St→Hp→Prop) (h0:Pv 0 σ H) (hl:∀ i σ H,i≤xs.length→Pv i σ H→SqL K H a xs)
  (hs:∀ i x σ H,xs[i]?=some x→Pv i σ H→g x σ H fun σ2 H2=>tb { D with nx:=Pv (i + 1),ct:=Pv (i + 1),bk:=D.nx } σ2 H2) (hd:∀ σ H,Pv xs.length σ H→D.nx σ H):
  ∃ W:Nat→Nat→St→Hp→Prop,(∃ m,W 0 m σ H)∧∀ i m σ H,W i m σ H→
   ((Itl K a).stop i H∧D.nx σ H)∨((Itl K a).go i H∧∃ N:St→Hp→Prop,(∀ σ' H',N σ' H'→∃ m',m' < m∧W (i + 1) m' σ' H')∧∀ x H',(Itl K a).yld i H x H'→g x σ H' fun σ2 H2=>tb { D with nx:=N,ct:=N,bk:=D.nx } σ2 H2):=by
 refine⟨fun i m σ H=>m=xs.length - i∧i≤xs.length∧Pv i σ H,⟨xs.length,by simp,Nat.zero_le _,h0⟩,?_⟩
 rintro i m σ H ⟨rfl,hi,p⟩
 have q:=hl i σ H hi p
 by_cases hlt:i < xs.length
 ·refine .inr ⟨⟨xs,xs[i],q,by simp [hlt]⟩,Pv (i + 1),fun σ' H' p'=>⟨xs.length - (i + 1),by omega,rfl,hlt,p'⟩,fun x H' y=>?_⟩
  obtain⟨e,y⟩:=y
  subst e
  exact hs i x σ _ (y xs q) p
 ·have e:i=xs.length:=by omega
  subst e
  exact .inl ⟨⟨xs,q,Nat.le_refl _⟩,hd σ H p⟩
theorem for_range {lo:Int}{n:Nat}{g:TG}{tb:TS}{D:Ends}{σ:St}{H:Hp}(Pv:Nat→St→Hp→Prop) (h0:Pv 0 σ H)
  (hs:∀ i σ H,i < n→Pv i σ H→g (.int (lo + i)) σ H fun σ2 H2=>tb { D with nx:=Pv (i + 1),ct:=Pv (i + 1),bk:=D.nx } σ2 H2) (hd:∀ σ H,Pv n σ H→D.nx σ H):
  ∃ W:Nat→Nat→St→Hp→Prop,(∃ m,W 0 m σ H)∧∀ i m σ H,W i m σ H→
   ((Itr lo n).stop i H∧D.nx σ H)∨((Itr lo n).go i H∧∃ N:St→Hp→Prop,(∀ σ' H',N σ' H'→∃ m',m' < m∧W (i + 1) m' σ' H')∧∀ x H',(Itr lo n).yld i H x H'→g x σ H' fun σ2 H2=>tb { D with nx:=N,ct:=N,bk:=D.nx } σ2 H2):=by
 refine⟨fun i m σ H=>m=n - i∧i≤n∧Pv i σ H,⟨n,by simp,Nat.zero_le _,h0⟩,?_⟩
 rintro i m σ H ⟨rfl,hi,p⟩
 by_cases hlt:i < n
 ·refine .inr ⟨hlt,Pv (i + 1),fun σ' H' p'=>⟨n - (i + 1),by omega,rfl,hlt,p'⟩,fun x H' y=>?_⟩
  obtain⟨e,y⟩:=y
  subst e y
  exact hs i σ _ hlt p
 ·have e:i=n:=by omega
  subst e
  exact .inl ⟨Nat.le_refl _,hd σ H p⟩
end L2
namespace L2
open PySem PySem.Spec PyProof.Rows
abbrev R2:=V→V→Hp→VK→Prop
def OpR (X:Cx) (f:Value→Value→Sem Value) (r:R2):Prop:=
 ∀ (pins:List (Addr × Obj)) (s:Shared) (σ:St) (H:Hp) (x y:V) (v u:Value) (Q:VK),Inv X pins σ H s→RelV x v→RelV y u→r x y H Q→
  wpAny (model X.prog X.w) X.A (f v u) (EP X pins σ Q) X.xe s
def UnR (X:Cx) (f:Value→Sem Value) (r:V→Hp→VK→Prop):Prop:=
 ∀ (pins:List (Addr × Obj)) (s:Shared) (σ:St) (H:Hp) (x:V) (v:Value) (Q:VK),Inv X pins σ H s→RelV x v→r x H Q→
  wpAny (model X.prog X.w) X.A (f v) (EP X pins σ Q) X.xe s
def CallR (X:Cx) (f:Value) (r:List V→Hp→VK→Prop):Prop:=
 ∀ (pins:List (Addr × Obj)) (s:Shared) (σ:St) (H:Hp) (xs:List V) (us:List Value) (Q:VK),Inv X pins σ H s→Vals xs us→r xs H Q→
  wpAny (model X.prog X.w) X.A (call f us) (EP X pins σ Q) X.xe s
def tOp (r:R2) (ta tb:TE):TE:=fun σ H Q=>ta σ H fun x H1=>tb σ H1 fun y H2=>r x y H2 Q
def tUn (r:V→Hp→VK→Prop) (ta:TE):TE:=fun σ H Q=>ta σ H fun x H1=>r x H1 Q
def rI (C:Int→Int→Prop) (g:Int→Int→V):R2:=fun x y H Q=>∃ i j,x=.int i∧y=.int j∧C i j∧Q (g i j) H
def rI0 (g:Int→Int→V):R2:=fun x y H Q=>∃ i j,x=.int i∧y=.int j∧Q (g i j) H
def rU (g:Int→V):V→Hp→VK→Prop:=fun x H Q=>∃ i,x=.int i∧Q (g i) H
section
variable {X:Cx}{a b c:Expr}{ta tb tc:TE}{pos:Pos}
theorem binT (ha:PE X a ta) (hb:PE X b tb){pins:List (Addr × Obj)}{s:Shared}{σ:St}{H:Hp}{R:V→V→Hp→Prop}(I:Inv X pins σ H s)
  (h:ta σ H fun x H1=>tb σ H1 fun y H2=>R x y H2){Q:Value→Shared→Prop}{f:Value→Value→Sem Value}
  (hf:∀ v u s2 x y H2,Inv X pins σ H2 s2→RelV x v→RelV y u→R x y H2→wpAny (model X.prog X.w) X.A (f v u) Q X.xe s2):
  wpAny (model X.prog X.w) X.A (eval a X.env) (fun v s₁=>wpAny (model X.prog X.w) X.A (eval b X.env) (fun u s₂=>wpAny (model X.prog X.w) X.A (f v u) Q X.xe s₂) X.xe s₁) X.xe s:=by
 refine thn (ha pins s σ H _ I h) fun v s1 ⟨x,H1,I1,r1,q1⟩=>?_
 refine thn (hb pins s1 σ H1 _ I1 q1) fun u s2 ⟨y,H2,I2,r2,q2⟩=>?_
 exact hf v u s2 x y H2 I2 r1 r2 q2
theorem pe_op {op:Operator}{r:R2}(ho:OpR X (binaryOp op) r) (ha:PE X a ta) (hb:PE X b tb):PE X (.BinOp a op b pos) (tOp r ta tb):=by
 intro pins s σ H Q I h
 exact wpAny_BinOp (binT ha hb I h fun v u s2 x y H2 I2 rx ry q=>ho pins s2 σ H2 x y v u Q I2 rx ry q)
theorem pe_un {op:UnaryOp}{r:V→Hp→VK→Prop}(ho:UnR X (unaryOp op) r) (ha:PE X a ta):PE X (.UnaryOp op a pos) (tUn r ta):=by
 intro pins s σ H Q I h
 exact UnaryOp_ (thn (ha pins s σ H _ I h) fun v s1 ⟨x,H1,I1,r1,q1⟩=>ho pins s1 σ H1 x v Q I1 r1 q1)
theorem opI {f:Value→Value→Sem Value}{C:Int→Int→Prop}{g:Int→Int→Int}
  (rule:∀ (i j:Int) (t u:Tok) (s:Shared) (Q:Value→Shared→Prop) (E:Value→Shared→Prop),C i j→Q (.int (g i j) s.toks) { s with toks:=s.toks + 1 }→wpAny (model X.prog X.w) X.A (f (.int i t) (.int j u)) Q E s):
  OpR X f (rI C fun i j=>.int (g i j)):=by
 intro pins s σ H x y v u Q I rx ry h
 obtain⟨i,j,rfl,rfl,hc,q⟩:=h
 obtain⟨t,rfl⟩:=rx
 obtain⟨t',rfl⟩:=ry
 exact rule i j t t' s _ _ hc ⟨.int (g i j),H,I.tok _,⟨_,rfl⟩,q⟩
theorem opI0 {f:Value→Value→Sem Value}{g:Int→Int→Int}
  (rule:∀ (i j:Int) (t u:Tok) (s:Shared) (Q:Value→Shared→Prop) (E:Value→Shared→Prop),Q (.int (g i j) s.toks) { s with toks:=s.toks + 1 }→wpAny (model X.prog X.w) X.A (f (.int i t) (.int j u)) Q E s):
  OpR X f (rI0 fun i j=>.int (g i j)):=by
 intro pins s σ H x y v u Q I rx ry h
 obtain⟨i,j,rfl,rfl,q⟩:=h
 obtain⟨t,rfl⟩:=rx
 obtain⟨t',rfl⟩:=ry
 exact rule i j t t' s _ _ ⟨.int (g i j),H,I.tok _,⟨_,rfl⟩,q⟩
theorem opB0 {f:Value→Value→Sem Value}{g:Int→Int→Bool}
  (rule:∀ (i j:Int) (t u:Tok) (s:Shared) (Q:Value→Shared→Prop) (E:Value→Shared→Prop),Q (.bool (g i j)) s→wpAny (model X.prog X.w) X.A (f (.int i t) (.int j u)) Q E s):
  OpR X f (rI0 fun i j=>.bl (g i j)):=by
 intro pins s σ H x y v u Q I rx ry h
 obtain⟨i,j,rfl,rfl,q⟩:=h
 obtain⟨t,rfl⟩:=rx
 obtain⟨t',rfl⟩:=ry
 exact rule i j t t' s _ _ ⟨.bl (g i j),H,I,rfl,q⟩
def CDiv (i j:Int):Prop:=0 < j∧j < 1073741824
def CPow (i j:Int):Prop:=0≤j∧j≤1000000∧i.natAbs < 2 ^ 64
def CMul (i j:Int):Prop:=(-(2 ^ 64) < i∧i < 2 ^ 64)∨(-(2 ^ 64) < j∧j < 2 ^ 64)
theorem CMul.ok {i j:Int}(h:CMul i j):IntMulOk i j:=by
 rcases h with ⟨h1,h2⟩ | ⟨h1,h2⟩
 ·exact .of_left (intBits_le_64 h1 h2)
 ·exact .of_right (intBits_le_64 h1 h2)
theorem op_add:OpR X (binaryOp .Add) (rI0 fun i j=>.int (i + j)):=opI0 fun _ _ _ _ _ _ _ q=>add_int q
theorem op_sub:OpR X (binaryOp .Sub) (rI0 fun i j=>.int (i - j)):=opI0 fun _ _ _ _ _ _ _ q=>sub_int q
theorem op_mul:OpR X (binaryOp .Mult) (rI CMul fun i j=>.int (i * j)):=opI fun _ _ _ _ _ _ _ hc q=>mul_int q hc.ok
theorem op_fdiv:OpR X (binaryOp .FloorDiv) (rI CDiv fun i j=>.int (i / j)):=opI fun i j _ _ _ _ _ hc q=>by
 have h1:(0:Int) < j:=hc.1
 have h2:j < 1073741824:=hc.2
 exact floordiv_int (by omega) (by rw [Int.fdiv_eq_ediv_of_nonneg i (by omega)];exact q) (.inl (PyProof.noPylong_small (by omega)))
theorem op_mod:OpR X (binaryOp .Mod) (rI (fun _ j=>0 < j) fun i j=>.int (i % j)):=opI fun i j _ _ _ _ _ hc q=>by
 have h1:(0:Int) < j:=hc
 exact mod_int' (by omega) (by rw [Int.fmod_eq_emod_of_nonneg i (by omega)];exact q)
theorem op_pow:OpR X (binaryOp .Pow) (rI CPow fun i j=>.int (i ^ j.toNat)):=opI fun _ _ _ _ _ _ _ hc q=>pow_int_small hc.1 hc.2.1 hc.2.2 q
theorem unI {f:Value→Sem Value}{g:Int→Int}
  (rule:∀ (i:Int) (t:Tok) (s:Shared) (Q:Value→Shared→Prop) (E:Value→Shared→Prop),Q (.int (g i) s.toks) { s with toks:=s.toks + 1 }→wpAny (model X.prog X.w) X.A (f (.int i t)) Q E s):
  UnR X f (rU fun i=>.int (g i)):=by
 intro pins s σ H x v Q I rx h
 obtain⟨i,rfl,q⟩:=h
 obtain⟨t,rfl⟩:=rx
 exact rule i t s _ _ ⟨.int (g i),H,I.tok _,⟨_,rfl⟩,q⟩
theorem un_neg:UnR X (unaryOp .USub) (rU fun i=>.int (-i)):=unI fun _ _ _ _ _ q=>neg_int q
end
def scal:V→V→Bool
 | .non,.non=>true | .non,.int _=>true | .int _,.non=>true | .non,.bl _=>true | .bl _,.non=>true | .non,.str _=>true | .str _,.non=>true
 | .int _,.int _=>true | .bl _,.bl _=>true | .str _,.str _=>true | .byt _,.byt _=>true
 | .int _,.str _=>true | .str _,.int _=>true | .bl _,.str _=>true | .str _,.bl _=>true
 | _,_=>false
def rEq:R2:=fun x y H Q=>scal x y=true∧Q (.bl (decide (x=y))) H
def rNe:R2:=fun x y H Q=>scal x y=true∧Q (.bl (!decide (x=y))) H
theorem dec_int {i j:Int}:decide (V.int i=V.int j)=(i == j):=by
 rw [Bool.eq_iff_iff]
 simp
theorem dec_bl {i j:Bool}:decide (V.bl i=V.bl j)=(i == j):=by
 rw [Bool.eq_iff_iff]
 simp
theorem dec_str {i j:Str}:decide (V.str i=V.str j)=(i == j):=by
 rw [Bool.eq_iff_iff]
 simp
theorem dec_byt {i j:Array UInt8}:decide (V.byt i=V.byt j)=(i.toList == j.toList):=by
 rw [Bool.eq_iff_iff]
 cases i
 cases j
 simp
section
variable {X:Cx}{a b c:Expr}{ta tb tc:TE}{pos:Pos}
theorem fin_bl {pins:List (Addr × Obj)}{σ:St}{H:Hp}{s:Shared}{Q:VK}{k k':Bool}(I:Inv X pins σ H s) (q:Q (.bl k) H) (e:k=k'):EP X pins σ Q (.bool k') s:=by
 subst e
 exact⟨.bl k,H,I,rfl,q⟩
theorem op_eq:OpR X (compareOp .Eq) rEq:=by
 intro pins s σ H x y v u Q I rx ry h
 obtain⟨hs,q⟩:=h
 cases x with
 | non=>
  cases rx
  cases y with
  | non=>cases ry;exact PySem.EqNone.eq_none_none (fin_bl I q (by simp))
  | bl j=>cases ry;exact PySem.EqNone.eq_none_bool (fin_bl I q (by simp))
  | int j=>obtain⟨t',rfl⟩:=ry;exact PySem.EqNone.eq_none_int (fin_bl I q (by simp))
  | str j=>obtain⟨t',rfl⟩:=ry;exact PySem.EqNone.eq_none_str (fin_bl I q (by simp))
  | _=>exact absurd (show false=true from hs) Bool.false_ne_true
 | bl i=>
  cases rx
  cases y with
  | non=>cases ry;exact PySem.EqNone.eq_bool_none (fin_bl I q (by simp))
  | bl j=>cases ry;exact eq_bool (fin_bl I q dec_bl)
  | str j=>obtain⟨t',rfl⟩:=ry;exact PySem.EqMixed.eq_bool_str (fin_bl I q (by simp))
  | _=>exact absurd (show false=true from hs) Bool.false_ne_true
 | int i=>
  obtain⟨t,rfl⟩:=rx
  cases y with
  | non=>cases ry;exact PySem.EqNone.eq_int_none (fin_bl I q (by simp))
  | int j=>obtain⟨t',rfl⟩:=ry;exact eq_int (fin_bl I q dec_int)
  | str j=>obtain⟨t',rfl⟩:=ry;exact PySem.EqMixed.eq_int_str (fin_bl I q (by simp))
  | _=>exact absurd (show false=true from hs) Bool.false_ne_true
 | str i=>
  obtain⟨t,rfl⟩:=rx
  cases y with
  | non=>cases ry;exact PySem.EqNone.eq_str_none (fin_bl I q (by simp))
  | bl j=>cases ry;exact PySem.EqMixed.eq_str_bool (fin_bl I q (by simp))
  | int j=>obtain⟨t',rfl⟩:=ry;exact PySem.EqMixed.eq_str_int (fin_bl I q (by simp))
  | str j=>obtain⟨t',rfl⟩:=ry;exact eq_str (fin_bl I q dec_str)
  | _=>exact absurd (show false=true from hs) Bool.false_ne_true
 | byt i=>
  obtain⟨t,rfl⟩:=rx
  cases y with
  | byt j=>obtain⟨t',rfl⟩:=ry;exact PySem.W.eq_bytes (fin_bl I q dec_byt)
  | _=>exact absurd (show false=true from hs) Bool.false_ne_true
 | _=>cases y <;> exact absurd (show false=true from hs) Bool.false_ne_true
theorem op_ne:OpR X (compareOp .NotEq) rNe:=by
 intro pins s σ H x y v u Q I rx ry h
 obtain⟨hs,q⟩:=h
 cases x with
 | non=>
  cases rx
  cases y with
  | non=>cases ry;exact PySem.EqNone.ne_none_none (fin_bl I q (by simp))
  | bl j=>cases ry;exact PySem.EqNone.ne_none_bool (fin_bl I q (by simp))
  | int j=>obtain⟨t',rfl⟩:=ry;exact PySem.EqNone.ne_none_int (fin_bl I q (by simp))
  | str j=>obtain⟨t',rfl⟩:=ry;exact PySem.EqNone.ne_none_str (fin_bl I q (by simp))
  | _=>exact absurd (show false=true from hs) Bool.false_ne_true
 | bl i=>
  cases rx
  cases y with
  | non=>cases ry;exact PySem.EqNone.ne_bool_none (fin_bl I q (by simp))
  | bl j=>cases ry;exact ne_bool (fin_bl I q (congrArg not dec_bl))
  | str j=>obtain⟨t',rfl⟩:=ry;exact PySem.EqMixed.ne_bool_str (fin_bl I q (by simp))
  | _=>exact absurd (show false=true from hs) Bool.false_ne_true
 | int i=>
  obtain⟨t,rfl⟩:=rx
  cases y with
  | non=>cases ry;exact PySem.EqNone.ne_int_none (fin_bl I q (by simp))
  | int j=>obtain⟨t',rfl⟩:=ry;exact ne_int (fin_bl I q (congrArg not dec_int))
  | str j=>obtain⟨t',rfl⟩:=ry;exact PySem.EqMixed.ne_int_str (fin_bl I q (by simp))
  | _=>exact absurd (show false=true from hs) Bool.false_ne_true
 | str i=>
  obtain⟨t,rfl⟩:=rx
  cases y with
  | non=>cases ry;exact PySem.EqNone.ne_str_none (fin_bl I q (by simp))
  | bl j=>cases ry;exact PySem.EqMixed.ne_str_bool (fin_bl I q (by simp))
  | int j=>obtain⟨t',rfl⟩:=ry;exact PySem.EqMixed.ne_str_int (fin_bl I q (by simp))
  | str j=>obtain⟨t',rfl⟩:=ry;exact ne_str (fin_bl I q (congrArg not dec_str))
  | _=>exact absurd (show false=true from hs) Bool.false_ne_true
 | byt i=>
  obtain⟨t,rfl⟩:=rx
  cases y with
  | byt j=>obtain⟨t',rfl⟩:=ry;exact PySem.W.ne_bytes (fin_bl I q (congrArg not dec_byt))
  | _=>exact absurd (show false=true from hs) Bool.false_ne_true
 | _=>cases y <;> exact absurd (show false=true from hs) Bool.false_ne_true
theorem op_lt:OpR X (compareOp .Lt) (rI0 fun i j=>.bl (decide (i < j))):=opB0 fun _ _ _ _ _ _ _ q=>lt_int q
theorem op_le:OpR X (compareOp .LtE) (rI0 fun i j=>.bl (decide (i≤j))):=opB0 fun _ _ _ _ _ _ _ q=>le_int q
theorem op_isN:OpR X (compareOp .Is) (fun x y H Q=>y=.non∧Q (.bl (decide (x=.non))) H):=by
 intro pins s σ H x y v u Q I rx ry h
 obtain⟨rfl,q⟩:=h
 cases ry
 refine is_none_gen (fin_bl I q ?_)
 cases x <;> first
  | (cases rx;rfl)
  | (obtain⟨t,rfl⟩:=rx;rfl)
theorem op_notN:OpR X (compareOp .IsNot) (fun x y H Q=>y=.non∧Q (.bl (!decide (x=.non))) H):=by
 intro pins s σ H x y v u Q I rx ry h
 obtain⟨rfl,q⟩:=h
 cases ry
 refine isnot_none_gen (fin_bl I q ?_)
 cases x <;> first
  | (cases rx;rfl)
  | (obtain⟨t,rfl⟩:=rx;rfl)
theorem nomark (b:Expr){op:CmpOp}(h:op≠.In:=by decide) (h2:op≠.NotIn:=by decide):behindInMarks op b=false:=by
 have e1:(op == CmpOp.In)=false:=by cases op <;> first | rfl | exact absurd rfl h
 have e2:(op == CmpOp.NotIn)=false:=by cases op <;> first | rfl | exact absurd rfl h2
 cases b <;> simp [behindInMarks,e1,e2]
theorem pe_cmpR {op:CmpOp}{r:R2}(ho:OpR X (compareOp op) r) (ha:PE X a ta) (hb:PE X b tb) (hm:behindInMarks op b=false):PE X (.Compare a [op] [b] pos) (tOp r ta tb):=by
 intro pins s σ H Q I h
 exact wpAny_Compare1 (binT ha hb I h fun v u s2 x y H2 I2 rx ry q=>ho pins s2 σ H2 x y v u Q I2 rx ry q) hm
def tTest (t:TE):TT:=fun σ H Q=>t σ H fun x H'=>∃ k,x=.bl k∧Q k H'
theorem pt_cmpR {op:CmpOp}{r:R2}(ho:OpR X (compareOp op) r) (ha:PE X a ta) (hb:PE X b tb) (hm:behindInMarks op b=false):PT X (.Compare a [op] [b] pos) (tTest (tOp r ta tb)):=by
 intro pins s σ H Q I h
 refine wpAny_isTrue_Compare1 (thn (ha pins s σ H _ I h) fun v s1 ⟨x,H1,I1,r1,q1⟩=>thn (hb pins s1 σ H1 _ I1 q1) fun u s2 ⟨y,H2,I2,r2,q2⟩=>
  thn (ho pins s2 σ H2 x y v u _ I2 r1 r2 q2) fun c s3 ⟨z,H3,I3,r3,k,e,q3⟩=>?_) hm
 subst e
 cases r3
 exact wpAny_truthy_bool ⟨H3,I3,q3⟩
theorem line63:(sizeLine:Nat) < 2 ^ 63:=by rw [sizeLine_eq];decide
theorem vals1 {x:V}{us:List Value}(r:Vals [x] us):∃ u,us=[u]∧RelV x u:=by
 cases r with
 | cons r1 r2=>cases r2;exact⟨_,rfl,r1⟩
theorem vals2 {x y:V}{us:List Value}(r:Vals [x,y] us):∃ u w',us=[u,w']∧RelV x u∧RelV y w':=by
 cases r with
 | cons r1 r2=>
  cases r2 with
  | cons r3 r4=>cases r4;exact⟨_,_,rfl,r1,r3⟩
theorem call_max2 (hc:X.calm=true):CallR X (.builtin "max") (fun xs H Q=>∃ i j,xs=[.int i,.int j]∧Q (.int (if j > i then j else i)) H):=by
 intro pins s σ H xs us Q I r h
 obtain⟨i,j,rfl,q⟩:=h
 obtain⟨u,w',rfl,⟨t,rfl⟩,⟨t',rfl⟩⟩:=vals2 r
 refine max_two_ints (I.ok.hd hc) fun h' tk k=>⟨_,H,I.kept k,?_,q⟩
 by_cases hj:j > i
 ·rw [if_pos hj,if_pos hj];exact⟨_,rfl⟩
 ·rw [if_neg hj,if_neg hj];exact⟨_,rfl⟩
theorem call_min2 (hc:X.calm=true):CallR X (.builtin "min") (fun xs H Q=>∃ i j,xs=[.int i,.int j]∧Q (.int (if j < i then j else i)) H):=by
 intro pins s σ H xs us Q I r h
 obtain⟨i,j,rfl,q⟩:=h
 obtain⟨u,w',rfl,⟨t,rfl⟩,⟨t',rfl⟩⟩:=vals2 r
 refine min_two_ints (I.ok.hd hc) fun h' tk k=>⟨_,H,I.kept k,?_,q⟩
 by_cases hj:j < i
 ·rw [if_pos hj,if_pos hj];exact⟨_,rfl⟩
 ·rw [if_neg hj,if_neg hj];exact⟨_,rfl⟩
end
end L2
namespace L2
open PySem PySem.Spec PyProof.Rows
structure ObjM (h:Heap) (x dx C:Addr) (mA:Str→Option Value):Prop where
 obj:h.get? x=some (PySem.W.instObj C dx)
 ns:h.Ns1 dx mA
 ne:dx≠x
theorem lookIn_ns {h:Heap}{dx:Addr}{mA:Str→Option Value}(n:h.Ns1 dx mA):∃ od,h.get? dx=some od∧∀ name,PySem.W.lookIn name od=some (mA name):=by
 obtain⟨o,es,ep,ho,hd,hk,_,hm⟩:=n
 refine⟨o,ho,fun name=>?_⟩
 have e:=hm name
 unfold nsFind findBy at e
 rw [← Array.find?_toList] at e
 unfold PySem.W.lookIn
 rw [hd]
 dsimp only
 split
 ·rename_i y q
  rw [q] at e
  exact congrArg some e
 ·rename_i q
  rw [q] at e
  have a:es.toList.any (·.refKey)=false:=by
   rw [List.any_eq_false]
   intro y hy
   obtain⟨z,t,hkey⟩:=hk y (Array.mem_toList_iff.mp hy)
   simp [DictEntry.refKey,hkey]
  have a':¬ es.toList.any (·.refKey)=true:=by rw [a];exact Bool.false_ne_true
  rw [if_neg a']
  exact congrArg some e
theorem ObjM.look {h:Heap}{x dx C:Addr}{mA:Str→Option Value}(I:ObjM h x dx C mA):∃ od,PySem.W.InstAt h x (PySem.W.instObj C dx) C (some od)∧∀ name,PySem.W.lookIn name od=some (mA name):=
 let ⟨od,ho,hl⟩:=lookIn_ns I.ns
 ⟨od,⟨I.obj,rfl,rfl,ho⟩,hl⟩
section
variable {prog:Program}{w:World}{A:Around}{E:Value→Shared→Prop}{s:Shared}{K:PySem.W.Frag}{x dx C f:Addr}{mA:Str→Option Value}{name:Str}{v:Value}
theorem get_map {expr:Bool}{Q:Value→Shared→Prop}(X:K.In s.heap) (I:ObjM s.heap x dx C mA) (hg:PySem.W.plainGet K C name=true) (hh:PySem.W.hasDictIn K C=true)
  (ha:PySem.W.findIn K (.ref C) name=some none) (hv:mA name=some v) (hv':PySem.W.handedIn v=true) (h:Q v { s with toks:=s.toks + 1 }):
  wpAny (model prog w) A (getAttr (.ref x) name expr) Q E s:=by
 obtain⟨od,J,hl⟩:=I.look
 exact PySem.W.get_value X J (PySem.W.plainGet_of hg).1 (PySem.W.findObj_own hh ha rfl (by rw [hl,hv])) hv' h
theorem get_meth {pl:Sem Bool}{Q:Value × List Value→Shared→Prop}(X:K.In s.heap) (I:ObjM s.heap x dx C mA) (hg:PySem.W.plainGet K C name=true)
  (hf:PySem.W.findIn K (.ref C) name=some (some (.ref f))) (ht:PySem.W.isFn K (.ref f)=true) (hv:mA name=none) (h:Q (.ref f,[.ref x]) s):
  wpAny (model prog w) A (getMethod (.ref x) name pl) Q E s:=by
 obtain⟨od,J,hl⟩:=I.look
 exact PySem.W.method_fn X J (PySem.W.plainGet_of hg).1 (PySem.W.plainGet_of hg).2 hf (beq_iff_eq.mp ht) (by show (PySem.W.lookIn name od).map (·.isSome)=some false;rw [hl,hv];rfl) h
theorem set_map {ns:List Str}{Q:Unit→Shared→Prop}(X:K.In s.heap) (I:ObjM s.heap x dx C mA)
  (hs:PySem.W.findIn K (.ref C) "__setattr__"=some (some (.builtin "object.__setattr__"))) (hp:PySem.W.plainOver K C=true) (ht:PySem.W.takerIn K C name=some none) (hh:PySem.W.hasDictIn K C=true)
  (hw:PySem.Within mA ns) (hsz:ns.length≤sizeLine)
  (h:∀ h',ObjM h' x dx C (fun y=>if y=name then some v else mA y)→Heap.SameBut dx s.heap h'→Q () { s with heap:=h',toks:=s.toks + 2 }):
  wpAny (model prog w) A (setAttr (.ref x) name v) Q E s:=by
 obtain⟨od,J,hl⟩:=I.look
 refine PySem.W.set_plain X J hs (PySem.W.osa_open (s:={ s with toks:=s.toks + 1 }) (r:=none) X J hp ht fun b=>?_)
 obtain⟨cd,hc,hd'⟩:=PySem.W.any_some hh
 have hx:s.heap.get? x=some ⟨.ref C,some dx,.plain,#[]⟩:=I.obj
 refine wpAny_bind (wpAny_pure (wpAny_bind (wpAny_bind (wpAny_loadPart hx (wpAny_bind (PySem.W.Looks.here (s:={ s with toks:=s.toks + 1 }) (PySem.W.looks_clsIn X hc) ?_))))))
 rw [hd']
 refine wpAny_pure (a:=some dx) (wpAny_bind (wpAny_pure (wpAny_bind ?_)))
 refine wpAny_nsSet1 (s:={ s with toks:=s.toks + 1 }) I.ns fun h' hn2 hs2=>?_
 obtain⟨oD,esD,epD,hoD,hdD,hcD⟩:=hn2.count (PySem.Within.cons name v hw)
 refine wpAny_bind (wpAny_lookBehind hoD (by rw [hdD];exact pastItsLine_dict (Nat.le_trans hcD (by rw [List.length_cons];omega))) ?_)
 exact wpAny_pure (h _ ⟨(hs2.2 _ (Ne.symm I.ne)).trans I.obj,hn2,I.ne⟩ hs2)
theorem make_map {R:Result→Shared→Prop}{vs:List Value}{kw:List (Str × Value)} (X:K.In s.heap) (hm:PySem.W.makesIn K C=true)
  (hi:PySem.W.findIn K (.ref C) "__init__"=some (some (.ref f))) (hf:PySem.W.typeIn K (.ref f)=some (.type "function"))
  (h:codeAny (model prog w) (A.under (.builtin "type.__call__" ⟨.ref C::vs,kw⟩)) (.call (.ref f) ⟨.ref (s.heap.objs.size + 1)::vs,kw⟩) (PySem.W.InitBack (s.heap.objs.size + 1) R)
   { s with heap:=(s.heap.push PySem.W.emptyDict).push (PySem.W.instObj C s.heap.objs.size) }):
  codeAny (model prog w) A (.call (.ref C) ⟨vs,kw⟩) R s:=by
 obtain⟨hh,g,d,t,os⟩:=s
 exact PySem.W.make_core (PySem.W.makes_of X hm) (PySem.W.looks_findIn X hi) (fun self=>PySem.W.bind_fn X self hf) (.inl rfl) h
end
def putF (f:Str) (v:V):List (Str × V)→List (Str × V)
 | []=>[(f,v)]
 | (g,x)::r=>if g=f then(g,v)::r else(g,x)::putF f v r
theorem lookup_putF (f g:Str) (v:V):∀ fs:List (Str × V),(putF f v fs).lookup g=if g=f then some v else fs.lookup g
 | []=>by
  show List.lookup g [(f,v)]=_
  by_cases h:g=f
  ·have hb:(g == f)=true:=beq_iff_eq.mpr h
   simp only [List.lookup,hb,if_pos h]
  ·have hb:(g == f)=false:=beq_eq_false_iff_ne.mpr h
   simp only [List.lookup,hb,if_neg h]
 | (k,x)::r=>by
  have ih:=lookup_putF f g v r
  rw [show putF f v ((k,x)::r)=(if k=f then(k,v)::r else(k,x)::putF f v r) from rfl]
  by_cases hk:k=f
  ·rw [if_pos hk]
   by_cases h:g=k
   ·have hb:(g == k)=true:=beq_iff_eq.mpr h
    simp only [List.lookup,hb,if_pos (h.trans hk)]
   ·have hb:(g == k)=false:=beq_eq_false_iff_ne.mpr h
    simp only [List.lookup,hb,if_neg (fun e:g=f=>h (e.trans hk.symm))]
  ·rw [if_neg hk]
   by_cases h:g=k
   ·have hb:(g == k)=true:=beq_iff_eq.mpr h
    simp only [List.lookup,hb,if_neg (fun e:g=f=>hk (h.symm.trans e))]
   ·have hb:(g == k)=false:=beq_eq_false_iff_ne.mpr h
    simp only [List.lookup,hb]
    exact ih
theorem keys_putF (f:Str) (v:V):∀ fs:List (Str × V),f∈(putF f v fs).map (·.1)∧∀ g,g∈fs.map (·.1)→g∈(putF f v fs).map (·.1)
 | []=>⟨by simp [putF],fun g h=>by simp at h⟩
 | (k,x)::r=>by
  obtain⟨i1,i2⟩:=keys_putF f v r
  rw [show putF f v ((k,x)::r)=(if k=f then(k,v)::r else(k,x)::putF f v r) from rfl]
  by_cases hk:k=f
  ·rw [if_pos hk]
   subst hk
   exact⟨by simp,fun g h=>by simpa using h⟩
  ·rw [if_neg hk]
   refine⟨?_,fun g h=>?_⟩
   ·rw [List.map_cons]
    exact List.mem_cons_of_mem _ i1
   ·rw [List.map_cons] at h ⊢
    rcases List.mem_cons.mp h with e | e
    ·exact List.mem_cons.mpr (.inl e)
    ·exact List.mem_cons_of_mem _ (i2 g e)
theorem length_putF (f:Str) (v:V):∀ fs:List (Str × V),(putF f v fs).length≤fs.length + 1
 | []=>by simp [putF]
 | (k,x)::r=>by
  have ih:=length_putF f v r
  rw [show putF f v ((k,x)::r)=(if k=f then(k,v)::r else(k,x)::putF f v r) from rfl]
  by_cases hk:k=f
  ·rw [if_pos hk,List.length_cons,List.length_cons];omega
  ·rw [if_neg hk,List.length_cons,List.length_cons];omega
theorem RelO.some_of {v:V}{o:Option Value}(r:RelO (some v) o):∃ u,o=some u∧RelV v u:=by
 cases o with
 | none=>exact(show False from r).elim
 | some u=>exact⟨u,rfl,r⟩
theorem RelO.none_of {o:Option Value}(r:RelO none o):o=none:=by
 cases o with
 | none=>rfl
 | some u=>exact(show False from r).elim
theorem handed_of {v:V}{u:Value}(r:RelV v u):PySem.W.handedIn u=true:=by
 cases v with
 | non=>cases (show u=Value.none from r);rfl
 | bl b=>cases (show u=Value.bool b from r);rfl
 | int i=>obtain⟨t,e⟩:=(show ∃ t,u=Value.int i t from r);cases e;rfl
 | str x=>obtain⟨t,e⟩:=(show ∃ t,u=Value.str x t from r);cases e;rfl
 | byt b=>obtain⟨t,e⟩:=(show ∃ t,u=Value.bytes b t from r);cases e;rfl
 | flt b=>obtain⟨t,e⟩:=(show ∃ t,u=Value.float b t from r);cases e;rfl
 | ref a=>cases (show u=Value.ref a from r);rfl
 | ty n=>cases (show u=Value.type n from r);rfl
section
variable {P:Program}{w:World}{H H':Hp}{h h':Heap}{a C dx:Addr}{fs fs':List (Str × V)}
theorem ins_get (hok:HOk P w H h) (e:H a=some (.ins C dx fs)):∃ mA,ObjM h a dx C mA∧(∀ f,RelO (fs.lookup f) (mA f))∧PySem.Within mA (fs.map (·.1))∧fs.length≤1000∧H dx=some (.own a):=by
 obtain⟨d,z,ne,ob,mA,n,r,q⟩:=(show ObjOk P w H h a (.ins C dx fs) from hok a _ e)
 exact⟨mA,⟨ob,n,ne⟩,r,q,z,d⟩
end
structure Cls (K:PySem.W.Frag) (C:Addr):Prop where
 pg:PySem.W.plainGet K C Str.empty=true
 hd:PySem.W.hasDictIn K C=true
 po:PySem.W.plainOver K C=true
 sa:PySem.W.findIn K (.ref C) "__setattr__"=some (some (.builtin "object.__setattr__"))
theorem Cls.get {K:PySem.W.Frag}{C:Addr}(c:Cls K C) (f:Str):PySem.W.plainGet K C f=true:=c.pg
def NoAttr (K:PySem.W.Frag) (C:Addr) (f:Str):Prop:=PySem.W.findIn K (.ref C) f=some none
theorem NoAttr.taker {K:PySem.W.Frag}{C:Addr}{f:Str}(n:NoAttr K C f):PySem.W.takerIn K C f=some none:=by
 unfold PySem.W.takerIn
 rw [show PySem.W.findIn K (.ref C) f=some none from n]
 rfl
structure Meth (K:PySem.W.Frag) (C:Addr) (m:Str) (f:Addr):Prop where
 at_:PySem.W.findIn K (.ref C) m=some (some (.ref f))
 fn:PySem.W.isFn K (.ref f)=true
 kp:PySem.W.keepIn K (.ref f)=true
section
variable {X:Cx}{pins:List (Addr × Obj)}{σ:St}{H:Hp}{s:Shared}{a C dx:Addr}{fs:List (Str × V)}{f:Str}{v:V}{A:Around}{E:Value→Shared→Prop}
theorem getattr_ok {b:Bool}{Q:Value→Shared→Prop}(I:Inv X pins σ H s) (e:H a=some (.ins C dx fs)) (c:Cls X.K C) (n:NoAttr X.K C f) (l:fs.lookup f=some v)
  (h:∀ u s',Inv X pins σ H s'→RelV v u→Q u s'):wpAny (model X.prog X.w) A (getAttr (.ref a) f b) Q E s:=by
 obtain⟨mA,O,r,_,_,_⟩:=ins_get I.hok e
 obtain⟨u,hu,ru⟩:=RelO.some_of (v:=v) (o:=mA f) (by rw [← l];exact r f)
 exact get_map I.kIn O (c.get f) c.hd n hu (handed_of ru) (h u _ (I.tok _) ru)
theorem getmeth_ok {m:Str}{g:Addr}{pl:Sem Bool}{Q:Value × List Value→Shared→Prop}(I:Inv X pins σ H s) (e:H a=some (.ins C dx fs)) (c:Cls X.K C) (k:Meth X.K C m g) (l:fs.lookup m=none)
  (h:Q (.ref g,[.ref a]) s):wpAny (model X.prog X.w) A (getMethod (.ref a) m pl) Q E s:=by
 obtain⟨mA,O,r,_,_,_⟩:=ins_get I.hok e
 have hn:mA m=none:=RelO.none_of (by rw [← l];exact r m)
 exact get_meth I.kIn O (c.get m) k.at_ k.fn hn h
theorem setattr_ok {y:V}{u:Value}{Q:Unit→Shared→Prop}(I:Inv X pins σ H s) (e:H a=some (.ins C dx fs)) (c:Cls X.K C) (n:NoAttr X.K C f) (hl:fs.length < 1000) (ry:RelV y u)
  (h:∀ s',Inv X pins σ (upd H a (.ins C dx (putF f y fs))) s'→Q () s'):wpAny (model X.prog X.w) A (setAttr (.ref a) f u) Q E s:=by
 obtain⟨mA,O,r,wi,_,ho⟩:=ins_get I.hok e
 have hz:(fs.map (·.1)).length≤sizeLine:=by rw [List.length_map,sizeLine_eq];omega
 refine set_map I.kIn O c.sa c.po n.taker c.hd wi hz fun h' O' sb=>h _ ?_
 have hd:∃ o,h'.get? dx=some o:=let ⟨o,_,_,e',_⟩:=O'.ns;⟨o,e'⟩
 refine I.write (x:=a) (e:=dx) (by rw [e];exact True.intro) (.inr ho) (fun b q hb z=>(sb.2 b hb).trans z) hd ?_
 refine⟨by rw [upd_ne O.ne];exact ho,?_,O.ne,O'.obj,_,O'.ns,fun g=>?_,fun g hg=>?_⟩
 ·have:=length_putF f y fs;omega
 ·show RelO ((putF f y fs).lookup g) (if g=f then some u else mA g)
  rw [lookup_putF]
  by_cases q:g=f
  ·rw [if_pos q,if_pos q];exact ry
  ·rw [if_neg q,if_neg q];exact r g
 ·by_cases q:g=f
  ·rw [q];exact(keys_putF f y fs).1
  ·refine(keys_putF f y fs).2 g (wi g fun z=>hg ?_)
   show (if g=f then some u else mA g)=none
   rw [if_neg q];exact z
theorem Inv.made (I:Inv X pins σ H s):Inv X pins σ (upd (upd H s.heap.objs.size (.own (s.heap.objs.size + 1))) (s.heap.objs.size + 1) (.ins C s.heap.objs.size []))
  { s with heap:=(s.heap.push PySem.W.emptyDict).push (PySem.W.instObj C s.heap.objs.size) }:=by
 have e1:(s.heap.push PySem.W.emptyDict).get? s.heap.objs.size=some PySem.W.emptyDict:=Heap.get?_push_size s.heap rfl
 have e2:((s.heap.push PySem.W.emptyDict).push (PySem.W.instObj C s.heap.objs.size)).get? (s.heap.objs.size + 1)=some (PySem.W.instObj C s.heap.objs.size):=by
  have:=Heap.get?_push_size (s.heap.push PySem.W.emptyDict) (o:=PySem.W.instObj C s.heap.objs.size) rfl
  rwa [Heap.size_push] at this
 have e3:(s.heap.push PySem.W.emptyDict).Ns s.heap.objs.size (fun _=>none):=⟨PySem.W.emptyDict,#[],_,e1,rfl,(fun e he=>absurd he (by simp)),fun _=>rfl⟩
 have I1:=I.laid (a:=s.heap.objs.size) (o:=.own (s.heap.objs.size + 1)) (h':=s.heap.push PySem.W.emptyDict) (t':=s.toks) (fun b u q=>Heap.get?_push_of_some _ q) (Nat.le_refl _) ⟨_,e1⟩
 refine I1.laid (a:=s.heap.objs.size + 1) (o:=.ins C s.heap.objs.size []) (t':=s.toks) (fun b u q=>Heap.get?_push_of_some _ q) (Nat.le_of_eq (Heap.size_push _ _)) ?_
 have ne:s.heap.objs.size≠s.heap.objs.size + 1:=Nat.ne_of_lt (Nat.lt_succ_self _)
 refine⟨by rw [upd_ne ne,upd_same],Nat.zero_le _,ne,e2,fun _=>none,(Heap.Ns1.of_empty e3).at fun o q=>Heap.get?_push_of_some _ q,fun _=>True.intro,fun y hy=>absurd rfl hy⟩
theorem attr_of {prog:Program}{w:World}{env:Env}{e:Expr}{f:Str}{pos:Pos}{s:Shared}{Q:Value→Shared→Prop}(hb:attributeBase e f env (eval e env)=eval e env)
  (h:wpAny (model prog w) A (eval e env) (fun o s₁=>wpAny (model prog w) A (getAttr o f true) Q E s₁) E s):wpAny (model prog w) A (eval (.Attribute e f pos) env) Q E s:=
 Attribute_any_ h (by rw [arm_eval_Attribute,hb])
end
def tFld (K:PySem.W.Frag) (ta:TE) (f:Str):TE:=fun σ H Q=>ta σ H fun x H1=>∃ a C dx fs v,x=.ref a∧H1 a=some (.ins C dx fs)∧Cls K C∧NoAttr K C f∧fs.lookup f=some v∧Q v H1
def sFld (K:PySem.W.Frag) (ta tv:TE) (f:Str):TS:=fun D σ H=>tv σ H fun y H1=>ta σ H1 fun x H2=>∃ a C dx fs,x=.ref a∧H2 a=some (.ins C dx fs)∧Cls K C∧NoAttr K C f∧fs.length < 1000∧
 D.nx σ (upd H2 a (.ins C dx (putF f y fs)))
section
variable {X:Cx}{o e value:Expr}{f:Str}{pos pos' tpos:Pos}{ta tv:TE}
theorem pe_fld (he:PE X e ta) (hb:attributeBase e f X.env (eval e X.env)=eval e X.env):PE X (.Attribute e f pos) (tFld X.K ta f):=by
 intro pins s σ H Q I h
 refine attr_of hb (thn (he pins s σ H _ I h) fun u s1 ⟨x,H1,I1,rx,a,C,dx,fs,v,ex,ea,c,n,l,q⟩=>?_)
 subst ex
 obtain rfl:u=Value.ref a:=rx
 exact getattr_ok I1 ea c n l fun u' s2 I2 ru=>⟨v,H1,I2,ru,q⟩
theorem ps_fld (ha:PE X o ta) (hv:PE X value tv) (hs:swapsWith value (some (.Attribute o f pos')) pos.line X.env=pure false):PS X (.Assign [.Attribute o f pos'] value pos) (sFld X.K ta tv f):=by
 intro pins s σ H D I h
 refine plainObj_wpAny_Assign_Attribute (thn (hv pins s σ H _ I h) fun u s1 ⟨y,H1,I1,ry,q⟩=>thn (ha pins s1 σ H1 _ I1 q) fun ov s2 ⟨x,H2,I2,rx,a,C,dx,fs,ex,ea,c,n,l,q2⟩=>?_) hs
 subst ex
 obtain rfl:ov=Value.ref a:=rx
 exact setattr_ok I2 ea c n l ry fun s3 I3=>⟨σ,_,I3,q2⟩
end
section
variable {X:Cx}{pins:List (Addr × Obj)}{σ:St}{H:Hp}{s:Shared}{A:Around}{E:Value→Shared→Prop}{Q:Value→Shared→Prop}{c:Value}{b:Bool}
inductive TyOf (K:PySem.W.Frag) (H:Hp):V→Value→Prop where
 | non:TyOf K H .non (.type "NoneType")
 | bl (x:Bool):TyOf K H (.bl x) (.type "bool")
 | int (i:Int):TyOf K H (.int i) (.type "int")
 | str (x:Str):TyOf K H (.str x) (.type "str")
 | flt (x:UInt64):TyOf K H (.flt x) (.type "float")
 | lst {a:Addr}{xs:List V}(e:H a=some (.lst xs)):TyOf K H (.ref a) (.type "list")
 | frz {a:Addr}{o:Obj}{xs:List V}(e:H a=some (.frz o (.lst xs))):TyOf K H (.ref a) (.type "list")
 | tup {a:Addr}{xs:List V}(e:H a=some (.tup xs)):TyOf K H (.ref a) (.type "tuple")
 | dK {a:Addr}{kvs:List (Key × V)} (e:H a=some (.dK kvs)):TyOf K H (.ref a) (.type "dict")
 | dT {a:Addr}{kvs:List (List Key × V)} (e:H a=some (.dT kvs)):TyOf K H (.ref a) (.type "dict")
 | ins {a C dx:Addr}{fs:List (Str × V)} (e:H a=some (.ins C dx fs)) (cl:Cls K C) (ha:PySem.W.findIn K (.ref C) "__class__"=some (some (.builtin "object.__class__")))
   (hn:PySem.W.specialIn K (.builtin "object.__class__") "__get__"=some (some (.builtin "getset_descriptor.__get__"))) (htk:PySem.W.takesIn K (.builtin "object.__class__")=some true)
   (hm:PySem.W.mroIn K C (.type "object")=some true):TyOf K H (.ref a) (.ref C)
theorem isinst_ok {x:V}{u t:Value}(I:Inv X pins σ H s) (rx:RelV x u) (ty:TyOf X.K H x t) (e:PySem.W.kitOne X.K t c=some b) (h:∀ tk,Q (.bool b) { s with toks:=tk }):
  wpAny (model X.prog X.w) A (call (.builtin "isinstance") [u,c]) Q E s:=by
 cases ty with
 | non=>cases (show u=Value.none from rx);exact PySem.W.kia_one PySem.W.kitx_none I.kIn True.intro e (fun z=>nomatch z) h
 | bl y=>cases (show u=Value.bool y from rx);exact PySem.W.kia_one PySem.W.kitx_bool I.kIn True.intro e (fun z=>nomatch z) h
 | int i=>obtain⟨t,q⟩:=(show ∃ t,u=Value.int i t from rx);cases q;exact PySem.W.kia_one PySem.W.kitx_int I.kIn True.intro e (fun z=>nomatch z) h
 | str y=>obtain⟨t,q⟩:=(show ∃ t,u=Value.str y t from rx);cases q;exact PySem.W.kia_one PySem.W.kitx_str I.kIn True.intro e (fun z=>nomatch z) h
 | flt y=>obtain⟨t,q⟩:=(show ∃ t,u=Value.float y t from rx);cases q;exact PySem.W.kia_one PySem.W.kitx_float I.kIn True.intro e (fun z=>nomatch z) h
 | @lst a xs ea=>
  cases (show u=Value.ref a from rx)
  obtain⟨_,_,n,_,h1⟩:=(show ObjOk X.prog X.w H s.heap a (.lst xs) from I.hok a _ ea)
  exact PySem.W.kia_one PySem.W.kitx_list I.kIn ⟨_,h1,rfl⟩ e (fun z=>nomatch z) h
 | @frz a ob xs ea=>
  cases (show u=Value.ref a from rx)
  obtain⟨_,_,_,n,_,h1⟩:=(show ObjOk X.prog X.w H s.heap a (.frz ob (.lst xs)) from I.hok a _ ea)
  exact PySem.W.kia_one PySem.W.kitx_list I.kIn ⟨_,h1,rfl⟩ e (fun z=>nomatch z) h
 | @tup a xs ea=>
  cases (show u=Value.ref a from rx)
  obtain⟨_,_,_,p⟩:=(show ObjOk X.prog X.w H s.heap a (.tup xs) from I.hok a _ ea)
  obtain⟨o,h1,h2,_⟩:=p
  exact PySem.W.kia_one PySem.W.kitx_tuple I.kIn ⟨o,h1,h2⟩ e (fun z=>nomatch z) h
 | @dK a kvs ea=>
  cases (show u=Value.ref a from rx)
  obtain⟨_,_,vs,_,p⟩:=(show ObjOk X.prog X.w H s.heap a (.dK kvs) from I.hok a _ ea)
  obtain⟨o,es,ep,h1,h2,_⟩:=p
  exact PySem.W.kia_one PySem.W.kitx_dict I.kIn ⟨o,h1,h2.1⟩ e (fun z=>nomatch z) h
 | @dT a kvs ea=>
  cases (show u=Value.ref a from rx)
  obtain⟨_,_,xs,_,o,es,ep,h1,h2,_⟩:=(show ObjOk X.prog X.w H s.heap a (.dT kvs) from I.hok a _ ea)
  exact PySem.W.kia_one PySem.W.kitx_dict I.kIn ⟨o,h1,h2.1⟩ e (fun z=>nomatch z) h
 | @ins a C dx fs ea cl ha hn htk hm=>
  cases (show u=Value.ref a from rx)
  obtain⟨mA,O,_⟩:=ins_get I.hok ea
  obtain⟨od,J,_⟩:=O.look
  exact PySem.W.kia_one (PySem.W.kitx_own (cl.get _) cl.hd ha hn htk hm) I.kIn J e (fun z=>nomatch z) h
end
end L2
namespace L2
open PySem PySem.Spec PyProof.Rows
structure Room (k:Nat) (A:Around):Prop where
 hd:A.handled=none
 dp:A.depth + 3 * k + 5 < recursionLimit
 un:A.units + 16 * k + 200 < cLine
theorem Room.mono {j k:Nat}{A:Around}(r:Room k A) (h:j≤k):Room j A:=⟨r.hd,by have:=r.dp;omega,by have:=r.un;omega⟩
theorem Room.deeper {k:Nat}{A:Around}(r:Room (k + 1) A) (env:Env):Room k (A.deeper env):=
 ⟨r.hd,by have:=r.dp;show A.depth + 1 + 3 * k + 5 < _;omega,by have:=r.un;show A.units + 3 + 16 * k + 200 < _;omega⟩
theorem make_depth {A:Around}{C:Addr}{us:List Value}{kw:List (Str × Value)}:(A.under (.builtin "type.__call__" ⟨.ref C::us,kw⟩)).depth=A.depth + 1:=by
 first | rfl | simp [Around.under,Code.weight,Code.isCreation,Code.isGuard,Code.isCaller,Code.frames,Code.isFrame,guardIds]
theorem make_units {A:Around}{C:Addr}{us:List Value}{kw:List (Str × Value)}:(A.under (.builtin "type.__call__" ⟨.ref C::us,kw⟩)).units=A.units + 1:=by
 first | rfl | simp [Around.under,Code.cUnits,Code.frames,Code.isFrame]
theorem Room.make {k:Nat}{A:Around}(r:Room (k + 1) A) (C:Addr) (us:List Value) (kw:List (Str × Value)):Room k (A.under (.builtin "type.__call__" ⟨.ref C::us,kw⟩)):=
 ⟨r.hd,by have:=r.dp;rw [make_depth];omega,by have:=r.un;rw [make_units];omega⟩
theorem Room.depth {k:Nat}{A:Around}(r:Room k A):A.depth < recursionLimit:=by have:=r.dp;omega
theorem Room.units {k:Nat}{A:Around}(r:Room k A):A.units + 64 < cLine:=by have:=r.un;omega
theorem Room.units0 {k:Nat}{A:Around}(r:Room k A):A.units < cLine:=by have:=r.un;omega
def tNil:TA:=fun _ H Q=>Q [] H
def tCons (ta:TE) (tr:TA):TA:=fun σ H Q=>ta σ H fun x H1=>tr σ H1 fun xs H2=>Q (x::xs) H2
section
variable {X:Cx}{e:Expr}{es:List Expr}{te:TE}{t:TA}{pos:Pos}
theorem pa_nil:PA X [] tNil:=fun _ _ _ _ H Q I h=>Calls.spliced_nil ⟨[],H,I,.nil,h⟩
theorem pa_cons (ha:PE X e te) (hr:PA X es t) (hs:starEach (e::es) X.env=(false,eval e X.env)::starEach es X.env:=by rfl):PA X (e::es) (tCons te t):=by
 intro pos pins s σ H Q I h
 rw [hs]
 show wpAny _ _ (spliced ((false,eval e X.env)::backTo pos (starEach es X.env))) _ _ s
 refine Calls.spliced_cons (thn (ha pins s σ H _ I h) fun u s1 ⟨x,H1,I1,r1,q1⟩=>?_)
 exact thn (hr pos pins s1 σ H1 _ I1 q1) fun us s2 ⟨xs,H2,I2,r2,q2⟩=>⟨x::xs,H2,I2,.cons r1 r2,q2⟩
def tTup (t:TA):TE:=fun σ H Q=>t σ H fun xs H1=>xs.length≤sizeLine∧∀ p,H1 p=none→Q (.ref p) (upd H1 p (.tup xs))
def tLst (t:TA):TE:=fun σ H Q=>t σ H fun xs H1=>xs.length≤sizeLine∧∀ p,H1 p=none→Q (.ref p) (upd H1 p (.lst xs))
theorem pe_tup {x1} (h:PA X es t):PE X (.Tuple es x1 pos) (tTup t):=by
 intro pins s σ H Q I hq
 refine wpAny_Tuple_spliced (thn (h pos pins s σ H _ I hq) fun us s1 ⟨xs,H1,I1,r,z,q⟩=>⟨by rw [← r.length];exact z,?_⟩)
 have hf:H1 s1.heap.objs.size=none:=I1.hok.fresh (Nat.le_refl _)
 refine⟨.ref s1.heap.objs.size,upd H1 s1.heap.objs.size (.tup xs),I1.laid (t':=s1.toks) (fun b u e=>Heap.get?_push_of_some _ e) (Nat.le_refl _) ?_,rfl,q _ hf⟩
 exact⟨z,us,r,⟨_,Heap.get?_push_size _ rfl,rfl,_,rfl⟩⟩
theorem pe_lst (h:PA X es t):PE X (.List es pos) (tLst t):=by
 intro pins s σ H Q I hq
 refine wpAny_List_spliced (thn (h pos pins s σ H _ I hq) fun us s1 ⟨xs,H1,I1,r,z,q⟩=>⟨by rw [← r.length];exact z,?_⟩)
 have hf:H1 s1.heap.objs.size=none:=I1.hok.fresh (Nat.le_refl _)
 refine⟨.ref s1.heap.objs.size,upd H1 s1.heap.objs.size (.lst xs),I1.laid (t':=s1.toks) (fun b u e=>Heap.get?_push_of_some _ e) (Nat.le_refl _) ?_,rfl,q _ hf⟩
 exact⟨z,us,0,r,Heap.get?_push_size _ rfl⟩
end
abbrev Sp:=List V→Hp→VK→XK→Prop
abbrev CXT:=List Env→Hp→Shared→XK→Value→Shared→Prop
structure Env0 (P:Program) (w:World) (K:PySem.W.Frag) (mg:Str→Option Value) (base:Heap) (A:Around) (outer:List Env) (s:Shared) (H:Hp):Prop where
 frames:A.frames=some outer
 mod:Mod K mg base
 bs:∀ b o,base.get? b=some o→s.heap.get? b=some o∧H b=none
 bsz:base.objs.size≤s.heap.objs.size
 funs:s.heap.FunFrames base outer
 frf:∀ b∈frs outer,H b=none
 hok:HOk P w H s.heap
 bare:AllBare s.gens
def CE (outer:List Env) (P:Program) (w:World) (H:Hp) (s:Shared) (Q:VK) (u:Value) (s':Shared):Prop:=
 ∃ v H',s'.os=s.os∧AllBare s'.gens∧Un (frs outer) [] H H' s.heap s'.heap∧HOk P w H' s'.heap∧RelV v u∧Q v H'
def CR (CX:CXT) (outer:List Env) (P:Program) (w:World) (H:Hp) (s:Shared) (Q:VK) (E:XK) (r:Result) (s':Shared):Prop:=
 match r with
 | .ok (.ret u)=>CE outer P w H s Q u s'
 | .ok _=>False
 | .error e=>CX outer H s E e s'
structure FnOk (P:Program) (w:World) (K:PySem.W.Frag) (mg:Str→Option Value) (base:Heap) (CX:CXT) (k:Nat) (f:Addr) (fd:FuncData) (ps:List Str) (sp:Sp):Prop where
 len:∀ vs H Q E,sp vs H Q E→vs.length=ps.length
 run:∀ (A:Around) (outer:List Env) (s:Shared) (H:Hp) (args:Args) (us:List Value) (vs:List V) (Q:VK) (E:XK),Room k A→Env0 P w K mg base A outer s H→BindsTo s fd args (ps.zip us)→Vals vs us→sp vs H Q E→
  codeAny (model P w) A (.call (.ref f) args) (CR CX outer P w H s Q E) s
theorem Env0.make {P:Program}{w:World}{K:PySem.W.Frag}{mg:Str→Option Value}{base:Heap}{A:Around}{outer:List Env}{s:Shared}{H:Hp}(e:Env0 P w K mg base A outer s H) (C:Addr) (us:List Value) (kw:List (Str × Value)):
  Env0 P w K mg base (A.under (.builtin "type.__call__" ⟨.ref C::us,kw⟩)) outer s H:=⟨by first | exact e.frames | (simpa [Around.under,Code.envs,Code.isFrame,pushEnvs] using e.frames),e.mod,e.bs,e.bsz,e.funs,e.frf,e.hok,e.bare⟩
section
variable {X:Cx}{pins:List (Addr × Obj)}{σ:St}{H:Hp}{s s':Shared}
theorem Inv.env0 (I:Inv X pins σ H s):Env0 X.prog X.w X.K X.mg X.base X.A X.stack s H:=
 ⟨I.ok.frames,I.ok.mod,I.bs,Nat.le_trans I.ok.bsz I.sz,I.stack,I.stkFree,I.hok,I.bare⟩
theorem Inv.after {Q:VK}{u:Value}(I:Inv X pins σ H s) (h:CE X.stack X.prog X.w H s Q u s'):EP X pins σ Q u s':=by
 obtain⟨v,H',os,bare,un,hok,r,q⟩:=h
 obtain⟨hh,g,d,t,os'⟩:=s'
 obtain rfl:os'=s.os:=os
 exact⟨v,H',I.call (h':=hh) (g':=g) (d':=d) (t':=t) (ch:=[]) un hok bare (fun b z=>absurd z (by simp)),r,q⟩
end
def tCall (sp:Sp) (dvs:List V) (E:XK) (t:TA):TE:=fun σ H Q=>t σ H fun vs H1=>sp (vs++dvs) H1 Q E
def tMeth (C:Addr) (m:Str) (sp:Sp) (dvs:List V) (E:XK) (ta:TE) (t:TA):TE:=fun σ H Q=>ta σ H fun x H1=>∃ a dx fs,x=.ref a∧H1 a=some (.ins C dx fs)∧fs.lookup m=none∧
 t σ H1 fun vs H2=>sp (x::(vs++dvs)) H2 Q E
def tMake (C:Addr) (sp:Sp) (dvs:List V) (E:XK) (t:TA):TE:=fun σ H Q=>t σ H fun vs H1=>∀ x dx,H1 x=none→H1 dx=none→dx≠x→
 sp (.ref x::(vs++dvs)) (upd (upd H1 dx (.own x)) x (.ins C dx [])) (fun v H2=>v=.non∧Q (.ref x) H2) E
def Binds (K:PySem.W.Frag) (fd:FuncData) (ps:List Str) (ds:List Value):Prop:=
 ∀ (s:Shared) (us:List Value),K.In s.heap→(us++ds).length=ps.length→BindsTo s fd ⟨us,[]⟩ (ps.zip (us++ds))
theorem Binds.all {K:PySem.W.Frag}{fd:FuncData}{ps:List Str}(h:∀ us:List Value,us.length=ps.length→bindArgs fd ⟨us,[]⟩=pure (ps.zip us)):Binds K fd ps []:=fun s us _ hl=>by
 rw [List.append_nil] at hl ⊢
 exact .of_eq (h us hl)
def Passes (CX:CXT) (X:Cx) (E:XK):Prop:=∀ (pins:List (Addr × Obj)) (σ:St) (H:Hp) (s:Shared) (e:Value) (s':Shared),Inv X pins σ H s→CX X.stack H s E e s'→X.xe e s'
section
variable {X:Cx}{CX:CXT}{k:Nat}{f C:Addr}{fd:FuncData}{ps:List Str}{sp:Sp}{dvs:List V}{ds:List Value}{E:XK}{x m:Str}{p pos apos:Pos}{e o:Expr}{es:List Expr}{ta:TE}{t:TA}
theorem run_fn {pins:List (Addr × Obj)}{σ:St}{H:Hp}{s:Shared}{Q:VK}{us:List Value}{vs:List V}(F:FnOk X.prog X.w X.K X.mg X.base CX k f fd ps sp) (hr:Room k X.A) (hb:Binds X.K fd ps ds) (hd:Vals dvs ds) (hx:Passes CX X E)
  (I:Inv X pins σ H s) (r:Vals vs us) (h:sp (vs++dvs) H Q E):wpAny (model X.prog X.w) X.A (call (.ref f) us) (EP X pins σ Q) X.xe s:=by
 have r2:Vals (vs++dvs) (us++ds):=r.append hd
 have hl:(us++ds).length=ps.length:=by rw [← r2.length];exact F.len _ _ _ _ h
 refine wpAny_call (codeAny_mono (F.run X.A X.stack s H ⟨us,[]⟩ (us++ds) (vs++dvs) Q E hr I.env0 (hb s us I.kIn hl) r2 h) fun r s' hq=>?_)
 cases r with
 | error e=>exact hx pins σ H s e s' I hq
 | ok fl=>
  cases fl with
  | ret u=>exact I.after hq
  | next=>exact False.elim hq
  | brk=>exact False.elim hq
  | cont=>exact False.elim hq
theorem pe_call (F:FnOk X.prog X.w X.K X.mg X.base CX k f fd ps sp) (hr:Room k X.A) (hg:Gl X x) (hm:X.mg x=some (.ref f)) (hk:PySem.W.keepIn X.K (.ref f)=true) (hb:Binds X.K fd ps ds) (hd:Vals dvs ds) (hx:Passes CX X E)
  (ha:PA X (e::es) t) (hdb:(x == ("__debug__":Str))=false:=by decide) (he:starEach (e::es) X.env=(false,eval e X.env)::starEach es X.env:=by rfl) (hpl:(backTo pos (starEach es X.env)).any (·.1)=false:=by rfl):
  PE X (.Call (.Name x p) (e::es) [] pos) (tCall sp dvs E t):=by
 intro pins s σ H Q I h
 refine wpAny_Call_Name_kw (ld_glob I hg hm ?_ hdb)
 refine PySem.W.callWith_K (h₀:=X.base) I.ok.mod.kin hk (thn (ha pos pins s σ H _ I h) fun us s1 ⟨vs,H1,I1,r,q⟩=>⟨I1.kIn,?_⟩) he hpl
 exact run_fn F hr hb hd hx I1 r q
theorem pe_meth0 {pl:Sem Bool}(he:PE X o ta) (c:Cls X.K C) (hm:Meth X.K C m f) (F:FnOk X.prog X.w X.K X.mg X.base CX k f fd ps sp) (hr:Room k X.A) (hb:Binds X.K fd ps ds) (hd:Vals dvs ds) (hx:Passes CX X E)
  (ht:eval (.Call (.Attribute o m apos) [] [] pos) X.env=(do
   let ov ← eval o X.env
   standAt apos.atName
   let (f,first) ← holding [ov] (getMethod ov m pl)
   callWith pos f first (backTo pos (starEach [] X.env)) (backToKw pos (keywordEach [] X.env))):=by rfl):
  PE X (.Call (.Attribute o m apos) [] [] pos) (tMeth C m sp dvs E ta tNil):=by
 intro pins s σ H Q I h
 refine PySem.W.methodCall_KW (pl:=pl) (thn (he pins s σ H _ I h) fun u s1 ⟨x,H1,I1,rx,a,dx,fs,ex,ea,l,q⟩=>?_) ht
 subst ex
 obtain rfl:u=Value.ref a:=rx
 refine getmeth_ok I1 ea c hm l ?_
 exact PySem.W.callWith_K0 (first:=[.ref a]) I1.kIn hm.kp (run_fn (us:=[.ref a]) (vs:=[.ref a]) F hr hb hd hx I1 (.cons rfl .nil) q)
structure Mk (K:PySem.W.Frag) (C f:Addr):Prop where
 makes:PySem.W.makesIn K C=true
 init:PySem.W.findIn K (.ref C) "__init__"=some (some (.ref f))
 fn:PySem.W.isFn K (.ref f)=true
 kp:PySem.W.keepIn K (.ref C)=true
theorem run_make {pins:List (Addr × Obj)}{σ:St}{H:Hp}{s:Shared}{Q:VK}{us:List Value}{vs:List V}(M:Mk X.K C f) (F:FnOk X.prog X.w X.K X.mg X.base CX k f fd ps sp) (hr:Room (k + 1) X.A) (hb:Binds X.K fd ps ds) (hd:Vals dvs ds)
  (hx:Passes CX X E) (I:Inv X pins σ H s) (r:Vals vs us)
  (h:∀ x dx,H x=none→H dx=none→dx≠x→sp (.ref x::(vs++dvs)) (upd (upd H dx (.own x)) x (.ins C dx [])) (fun v H2=>v=.non∧Q (.ref x) H2) E):
  wpAny (model X.prog X.w) X.A (call (.ref C) us) (EP X pins σ Q) X.xe s:=by
 have hq:=h (s.heap.objs.size + 1) s.heap.objs.size (I.hok.fresh (Nat.le_succ _)) (I.hok.fresh (Nat.le_refl _)) (Nat.ne_of_lt (Nat.lt_succ_self _))
 have I2:=Inv.made (C:=C) I
 have r2:Vals (V.ref (s.heap.objs.size + 1)::(vs++dvs)) (Value.ref (s.heap.objs.size + 1)::(us++ds)):=.cons rfl (r.append hd)
 have hl:(Value.ref (s.heap.objs.size + 1)::us++ds).length=ps.length:=by
  have e:=r2.length
  rw [F.len _ _ _ _ hq] at e
  exact e.symm
 refine wpAny_call (make_map (f:=f) I.kIn M.makes M.init (beq_iff_eq.mp M.fn) (codeAny_mono (F.run _ X.stack _ _ ⟨Value.ref (s.heap.objs.size + 1)::us,[]⟩ (Value.ref (s.heap.objs.size + 1)::(us++ds)) _ _ E (hr.make C us [])
  (I2.env0.make C us []) (hb _ (Value.ref (s.heap.objs.size + 1)::us) I2.kIn hl) r2 hq) fun r s' hq'=>?_))
 cases r with
 | error e=>exact hx pins σ _ _ e s' I2 hq'
 | ok fl=>
  cases fl with
  | ret u=>
   obtain⟨v,H',I3,rv,ev,q3⟩:=I2.after hq'
   subst ev
   exact⟨rv,⟨V.ref (s.heap.objs.size + 1),H',I3,rfl,q3⟩⟩
  | next=>exact False.elim hq'
  | brk=>exact False.elim hq'
  | cont=>exact False.elim hq'
theorem pe_make0 (M:Mk X.K C f) (F:FnOk X.prog X.w X.K X.mg X.base CX k f fd ps sp) (hr:Room (k + 1) X.A) (hg:Gl X x) (hm:X.mg x=some (.ref C)) (hb:Binds X.K fd ps ds) (hd:Vals dvs ds) (hx:Passes CX X E)
  (hdb:(x == ("__debug__":Str))=false:=by decide):PE X (.Call (.Name x p) [] [] pos) (tMake C sp dvs E tNil):=by
 intro pins s σ H Q I h
 refine wpAny_Call_Name_kw (ld_glob I hg hm ?_ hdb)
 exact PySem.W.callWith_K0 I.kIn M.kp (run_make (us:=[]) M F hr hb hd hx I .nil h)
end
def PK (X:Cx) (kws:List Keyword) (t:TA):Prop:=
 ∀ (pos:Pos) (pins:List (Addr × Obj)) (s:Shared) (σ:St) (H:Hp) (Q:List V→Hp→Prop),Inv X pins σ H s→t σ H Q→wpAny (model X.prog X.w) X.A (evalAll ((backToKw pos (keywordEach kws X.env)).map (·.2))) (AP X pins σ Q) X.xe s
section
variable {X:Cx}{CX:CXT}{k:Nat}{f C:Addr}{fd:FuncData}{ps ks:List Str}{sp:Sp}{E:XK}{x m:Str}{p pos apos kpos:Pos}{e o:Expr}{es:List Expr}{kws:List Keyword}{te ta:TE}{t tk:TA}{nm:Option Str}
theorem pk_nil:PK X [] tNil:=fun _ _ _ _ H Q I h=>wpAny_evalAll_nil ⟨[],H,I,.nil,h⟩
theorem pk_cons (ha:PE X e te) (hr:PK X kws t):PK X (⟨nm,e,kpos⟩::kws) (tCons te t):=by
 intro pos pins s σ H Q I h
 show wpAny _ _ (evalAll ((do let v ← eval e X.env;standAt pos;pure v)::(backToKw pos (keywordEach kws X.env)).map (·.2))) _ _ s
 refine wpAny_evalAll_cons (wpAny_bind (thn (ha pins s σ H _ I h) fun u s1 ⟨x,H1,I1,r1,q1⟩=>wpAny_bind (wpAny_standAt (wpAny_pure ?_))))
 exact thn (hr pos pins s1 σ H1 _ I1 q1) fun us s2 ⟨xs,H2,I2,r2,q2⟩=>⟨x::xs,H2,I2,.cons r1 r2,q2⟩
variable {g:List Value→List Value→List Value}{gV:List V→List V→List V}
end
structure FnScope (N P:List Str) (sc:Scope):Prop where
 kind:sc.kind=.function
 co:sc.isCoroutine=false
 gen:sc.isGenerator=false
 nd:N.Nodup
 pre:N.take P.length=P
 par:∀ x∈P,sc.names.lookup x=some .local∨sc.names.lookup x=some .cell
 nofree:∀ y∈sc.names,y.2≠.free
theorem bindL_out {kindOf:Str→Option NameKind}{x:Str}:∀ {binds:List (Str × Value)}{m:Str→Option Value},(∀ v,(x,v) ∉ binds)→bindL kindOf binds m x=m x
 | [],_,_=>rfl
 | (n,v)::r,m,h=>by
  unfold bindL
  rw [bindL_out fun w hw=>h w (List.mem_cons_of_mem _ hw)]
  split
  ·have:x≠n:=by rintro rfl;exact h v List.mem_cons_self
   simp [this]
  ·rfl
theorem bindC_out {kindOf:Str→Option NameKind}{x:Str}:∀ {binds:List (Str × Value)}{m:Str→Option Value},(∀ v,(x,v) ∉ binds)→bindC kindOf binds m x=m x
 | [],_,_=>rfl
 | (n,v)::r,m,h=>by
  unfold bindC
  rw [bindC_out fun w hw=>h w (List.mem_cons_of_mem _ hw)]
  split
  ·rfl
  ·have:x≠n:=by rintro rfl;exact h v List.mem_cons_self
   simp [this]
theorem bindL_get {kindOf:Str→Option NameKind}{x:Str}{v:Value}:∀ {P:List Str}{vs:List Value}{i:Nat}{m:Str→Option Value},P.Nodup→P[i]?=some x→vs[i]?=some v→kindOf x=some .local→
  bindL kindOf (P.zip vs) m x=some v
 | [],_,_,_,_,h,_,_=>by simp at h
 | _::_,[],_,_,_,_,h,_=>by simp at h
 | p::P,w::vs,0,m,nd,h1,h2,hk=>by
  simp at h1 h2;subst h1;subst h2
  show bindL kindOf ((p,w)::P.zip vs) m p=_
  unfold bindL
  rw [bindL_out fun v hv=>(List.nodup_cons.mp nd).1 (List.of_mem_zip hv).1,if_pos hk]
  simp
 | p::P,w::vs,i + 1,m,nd,h1,h2,hk=>by
  show bindL kindOf ((p,w)::P.zip vs) m x=_
  unfold bindL
  exact bindL_get (i:=i) (List.nodup_cons.mp nd).2 (by simpa using h1) (by simpa using h2) hk
theorem bindC_get {kindOf:Str→Option NameKind}{x:Str}{v:Value}:∀ {P:List Str}{vs:List Value}{i:Nat}{m:Str→Option Value},P.Nodup→P[i]?=some x→vs[i]?=some v→kindOf x≠some .local→
  bindC kindOf (P.zip vs) m x=some v
 | [],_,_,_,_,h,_,_=>by simp at h
 | _::_,[],_,_,_,_,h,_=>by simp at h
 | p::P,w::vs,0,m,nd,h1,h2,hk=>by
  simp at h1 h2;subst h1;subst h2
  show bindC kindOf ((p,w)::P.zip vs) m p=_
  unfold bindC
  rw [bindC_out fun v hv=>(List.nodup_cons.mp nd).1 (List.of_mem_zip hv).1,if_neg hk]
  simp
 | p::P,w::vs,i + 1,m,nd,h1,h2,hk=>by
  show bindC kindOf ((p,w)::P.zip vs) m x=_
  unfold bindC
  exact bindC_get (i:=i) (List.nodup_cons.mp nd).2 (by simpa using h1) (by simpa using h2) hk
def start (N:List Str) (vs:List V):St:=vs.map some++List.replicate (N.length - vs.length) none
def cxOf (CX:CXT) (P:Program) (w:World) (K:PySem.W.Frag) (mg:Str→Option Value) (base:Heap) (N:List Str) (qual:Str) (scope:Scope) (f:Addr) (cd:Value) (A:Around) (outer:List Env) (s:Shared) (H:Hp) (E:XK):Cx where
 prog:=P
 w:=w
 K:=K
 mg:=mg
 base:=base
 A:=A.deeper (envOfC qual scope s.heap.objs.size f cd)
 N:=N
 s₀:=s
 H₀:=H
 env:=envOfC qual scope s.heap.objs.size f cd
 outer:=outer
 stack:=envOfC qual scope s.heap.objs.size f cd::outer
 ex:=[]
 calm:=true
 fn:=fun _=>true
 pn:=[]
 xe:=fun e s'=>wpAny (model P w) (A.deeper (envOfC qual scope s.heap.objs.size f cd)) (leaving (envOfC qual scope s.heap.objs.size f cd) e) (fun _ s''=>CX outer H s E e s'') (fun e' s''=>CX outer H s E e' s'') s'
theorem cell_has {sc:Scope}{n:Nat}{x:Str}(h:sc.names.lookup x=some .cell):∃ c,(cellsFrom n sc.names []).lookup x=some c:=by
 have q:=PySem.W.cellsFrom_some sc.names n [] (.inl h)
 exact Option.isSome_iff_exists.mp q
theorem inv_start {CX:CXT}{P:Program}{w:World}{K:PySem.W.Frag}{mg:Str→Option Value}{base:Heap}{N ps:List Str}{qual:Str}{scope:Scope}{f:Addr}{cd:Value}{A:Around}{outer:List Env}{s s1:Shared}{H:Hp}{E:XK}{us:List Value}{vs:List V}
  (S:FnScope N ps scope) (hd:A.handled=none) (e0:Env0 P w K mg base A outer s H) (hl:vs.length=ps.length) (r:Vals vs us)
  (x:InCallC s s.heap.objs.size (bindL (envOfC qual scope s.heap.objs.size f cd).kindOf (ps.zip us) fun _=>none) (cellsFrom (s.heap.objs.size + 1) scope.names []) (bindC (envOfC qual scope s.heap.objs.size f cd).kindOf (ps.zip us) fun _=>none) s1):
  Inv (cxOf CX P w K mg base N qual scope f cd A outer s H E) [] (start N vs) H s1:=by
 have hpl:ps.length≤N.length:=by have:=congrArg List.length S.pre;rw [List.length_take] at this;omega
 obtain⟨h1,tk,rfl,hk⟩:=x.done
 have noA:∀ b:Addr,b ∉ (cxOf CX P w K mg base N qual scope f cd A outer s H E).ex:=fun b z=>absurd (show b∈([]:List Addr) from z) (by simp)
 refine⟨⟨e0.mod,S.kind,rfl,rfl,Nat.le_refl _,fun y z c h1 h2=>?_,fun y hy=>?_,fun y c _ h=>?_,fun _=>hd,Around.frames_deeper e0.frames,.inr ⟨rfl,rfl⟩,fun b z=>absurd z (noA b),e0.bs,e0.bsz,fun b _ _=>noA b,fun b z=>absurd z (noA b),e0.funs,e0.frf⟩,
  rfl,e0.bare,Un.kept hk,⟨_,x.toInCall.ns,fun i y v h1 h2 h3=>?_⟩,fun y c h=>⟨_,x.cell y c h⟩,e0.hok.fresh (Nat.le_refl _),fun y c h=>?_,fun p hp=>absurd (show p∈([]:List (Addr × Obj)) from hp) (by simp),e0.hok.kept hk,?_⟩
 ·exact name_of_addr x.apart (PySem.mem_of_lookup h1) (PySem.mem_of_lookup h2)
 ·have hy:scope.names.lookup y=some .cell∨scope.names.lookup y=some .free:=hy
  rcases hy with hy | hy
  ·exact cell_has hy
  ·exact absurd rfl (S.nofree _ (PySem.mem_of_lookup hy))
 ·exact Nat.le_of_lt (x.above y c (PySem.mem_of_lookup h))
 ·have hi:i < vs.length:=by
   unfold start at h2
   by_cases hi:i < vs.length
   ·exact hi
   ·rw [List.getElem?_append_right (by simpa using hi)] at h2
    rw [List.getElem?_replicate] at h2
    split at h2 <;> cases h2
  have ha:vs[i]?=some v:=by
   unfold start at h2
   rw [List.getElem?_append_left (by simpa using hi),List.getElem?_map] at h2
   cases e:vs[i]? with
   | none=>rw [e] at h2;cases h2
   | some a=>rw [e] at h2;cases h2;rfl
  obtain⟨u,hu,rv⟩:=r.get ha
  have hp:ps[i]?=some y:=by
   rw [← S.pre,List.getElem?_take_of_lt (by omega)];exact h1
  have ndP:ps.Nodup:=by rw [← S.pre];exact S.nd.sublist (List.take_sublist _ _)
  refine⟨u,rv,?_⟩
  rcases S.par y (List.mem_of_getElem? hp) with k | k
  ·exact .inl ⟨k,bindL_get ndP hp hu k⟩
  ·obtain⟨c,e⟩:=cell_has (n:=s.heap.objs.size + 1) k
   refine .inr ⟨.inl k,c,e,?_⟩
   have q:=x.cell y c e
   rw [bindC_get ndP hp hu (by show scope.names.lookup y≠_;rw [k];decide)] at q
   exact q
 ·exact e0.hok.fresh (Nat.le_of_lt (x.above y c (PySem.mem_of_lookup h)))
 ·unfold start
  show _=N.length
  rw [List.length_append,List.length_map,List.length_replicate]
  omega
theorem fn_of {CX:CXT}{P:Program}{w:World}{K:PySem.W.Frag}{mg:Str→Option Value}{base:Heap}{k:Nat}{f:Addr}{name qual:Str}{params:Arguments}{body:List Stmt}{scope:Scope}{dV kV doc pm cdv ct oc:Value}{an od:Option Addr}
  {osl:Array (Option Value)}{N ps:List Str}{sp:Sp}(lk:K.lookup f=some ⟨oc,od,.func (PySem.W.fnOf name qual params body scope dV kV doc pm an cdv ct),osl⟩) (hcd:PySem.W.codeIn K cdv qual=true) (S:FnScope N ps scope)
  (len:∀ vs H Q E,sp vs H Q E→vs.length=ps.length)
  (hbody:∀ (A:Around) (outer:List Env) (s:Shared) (H:Hp) (vs:List V) (Q:VK) (E:XK),Room k (A.deeper (envOfC qual scope s.heap.objs.size f cdv))→sp vs H Q E→
   ∃ t,PSs (cxOf CX P w K mg base N qual scope f cdv A outer s H E) body t∧t { nx:=fun _ H'=>Q .non H',rt:=Q } (start N vs) H):
  FnOk P w K mg base CX (k + 1) f (PySem.W.fnOf name qual params body scope dV kV doc pm an cdv ct) ps sp:=by
 refine⟨len,fun A outer s H args us vs Q E hr e0 hb r hsp=>?_⟩
 have hl:=len _ _ _ _ hsp
 have KX:K.In s.heap:=e0.mod.kin.keeps fun b o e=>(e0.bs b o e).1
 have lim:s.heap.NoLimit:=e0.mod.nolimit.keeps fun b o e=>(e0.bs b o e).1
 have hkind:∀ y∈ps.zip us,scope.names.lookup y.1=some .local∨(scope.names.lookup y.1=some .cell∧((cellsFrom (s.heap.objs.size + 1) scope.names []).lookup y.1).isSome=true):=fun⟨n,v⟩ hy=>by
  rcases S.par n (List.of_mem_zip hy).1 with q | q
  ·exact .inl q
  ·exact .inr ⟨q,PySem.W.cellsFrom_some _ _ _ (.inl q)⟩
 refine codeAny_call_function hr.depth (KX _ _ lk) rfl S.co S.gen rfl (PySem.W.codeRec_of KX hcd) (hb _ _ _ _ ?_)
 refine wpAny_newFunctionEnv_cells S.kind hkind fun env he s1 x=>?_
 subst he
 refine⟨lim.keeps x.toInCall.keep,codeAny_func ?_⟩
 obtain⟨t,ht,hq⟩:=hbody A outer s H vs Q E (hr.deeper _) hsp
 have I:Inv (cxOf CX P w K mg base N qual scope f cdv A outer s H E) [] (start N vs) H s1:=inv_start S hr.hd e0 hl r x
 refine wpAny_mono (ht [] s1 (start N vs) H _ I hq) (fun fl s' hs=>?_) fun e s' hs=>hs
 have fin:∀ {σ':St}{H':Hp}{v:V}{u:Value},Inv (cxOf CX P w K mg base N qual scope f cdv A outer s H E) [] σ' H' s'→RelV v u→Q v H'→CE outer P w H s Q u s':=
  fun{σ' H' v u} J rv q=>⟨v,H',J.os,J.bare,J.base,J.hok,rv,q⟩
 cases fl with
 | ret u=>
  obtain⟨v,σ',H',J,rv,q⟩:=hs
  exact fin J rv q
 | next=>
  obtain⟨σ',H',J,q⟩:=hs
  exact fin (v:=V.non) (u:=Value.none) J rfl q
 | brk=>
  obtain⟨_,_,_,q⟩:=hs
  exact False.elim q
 | cont=>
  obtain⟨_,_,_,q⟩:=hs
  exact False.elim q
end L2
namespace L2
open PySem PySem.Spec PyProof.Rows
section
variable {X:Cx}{x:Str}{p pos:Pos}{e:Expr}{es:List Expr}{t:TA}{id T:String}{r:List V→Hp→VK→Prop}
def tCB (r:List V→Hp→VK→Prop) (t:TA):TE:=fun σ H Q=>t σ H fun vs H1=>r vs H1 Q
theorem pe_callB (hc:CallR X (.builtin id) r) (hg:Gl X x) (hm:X.mg x=none) (hv:bootBuiltins x=some (.builtin id)) (ha:PA X (e::es) t) (hn:x≠"__name__":=by decide) (hdb:(x == ("__debug__":Str))=false:=by decide)
  (he:starEach (e::es) X.env=(false,eval e X.env)::starEach es X.env:=by rfl) (hpl:(backTo pos (starEach es X.env)).any (·.1)=false:=by rfl):PE X (.Call (.Name x p) (e::es) [] pos) (tCB r t):=by
 intro pins s σ H Q I h
 refine wpAny_Call_Name_kw (ld_blt I hg hm hv ?_ hn hdb)
 exact PyProof.Rows.callWith_builtin1 (thn (ha pos pins s σ H _ I h) fun us s1 ⟨vs,H1,I1,r1,q1⟩=>hc pins s1 σ H1 vs us Q I1 r1 q1) he hpl
theorem pe_callTy (hc:CallR X (.type T) r) (hg:Gl X x) (hm:X.mg x=none) (hv:bootBuiltins x=some (.type T)) (ha:PA X (e::es) t) (hn:x≠"__name__":=by decide) (hdb:(x == ("__debug__":Str))=false:=by decide)
  (he:starEach (e::es) X.env=(false,eval e X.env)::starEach es X.env:=by rfl) (hpl:(backTo pos (starEach es X.env)).any (·.1)=false:=by rfl):PE X (.Call (.Name x p) (e::es) [] pos) (tCB r t):=by
 intro pins s σ H Q I h
 refine wpAny_Call_Name_kw (ld_blt I hg hm hv ?_ hn hdb)
 exact PyProof.Rows.callWith_type1 (thn (ha pos pins s σ H _ I h) fun us s1 ⟨vs,H1,I1,r1,q1⟩=>hc pins s1 σ H1 vs us Q I1 r1 q1) he hpl
end
end L2
namespace HT
open PySem PyProof.Rows
def lexLt:List Int→List Int→Bool
 | [],[]=>false
 | [],_::_=>true
 | _::_,[]=>false
 | x::xs,y::ys=>if x=y then lexLt xs ys else decide (x < y)
theorem lexLt_cons (x y:Int) (xs ys:List Int):lexLt (x::xs) (y::ys)=if x=y then lexLt xs ys else decide (x < y):=rfl
section
open PySem.SeqAt
open PySem.AutoSeq1 (wpAny_loadPart')
open PySem.MeetsSeq PySem.MeetsSeq2 PySem.MeetsSeq3
end
section
variable {prog:Program}{w:World}{A:Around}{E:Value→Shared→Prop}{s:Shared}
def sIx (n d:Nat):Option Int→Nat
 | none=>d
 | some v=>if v < 0 then(v + (n:Int)).toNat else min v.toNat n
theorem sIx_nat (n d k:Nat):sIx n d (some (k:Int))=min k n:=by
 show (if (k:Int) < 0 then((k:Int) + (n:Int)).toNat else min (k:Int).toNat n)=min k n
 rw [if_neg (by omega),Int.toNat_natCast]
theorem sIx_le (n d:Nat) (hd:d≤n) (o:Option Int):sIx n d o≤n:=by
 cases o with
 | none=>exact hd
 | some v=>
  show (if v < 0 then(v + (n:Int)).toNat else min v.toNat n)≤n
  by_cases hv:v < 0
  ·rw [if_pos hv];omega
  ·rw [if_neg hv];exact Nat.min_le_right _ _
theorem clip_eq (v:Int) (n d:Nat):(if v < 0 then max (v + (n:Int)) 0 else min v (n:Int))=((sIx n d (some v):Nat):Int):=by
 show (if v < 0 then max (v + (n:Int)) 0 else min v (n:Int))=(((if v < 0 then(v + (n:Int)).toNat else min v.toNat n):Nat):Int)
 by_cases hv:v < 0
 ·simp only [if_pos hv];omega
 ·simp only [if_neg hv];omega
theorem adjust_gen (lo hi:Option Int) (n:Nat):Builtin.Slice.sliceAdjust lo hi 1 (n:Int)=(((sIx n 0 lo:Nat):Int),((sIx n n hi:Nat):Int)):=by
 have h1:¬ ((1:Int) < 0):=by omega
 unfold Builtin.Slice.sliceAdjust
 simp only [h1,if_false]
 refine Prod.ext ?_ ?_
 ·cases lo with
  | none=>rfl
  | some v=>exact clip_eq v n 0
 ·cases hi with
  | none=>rfl
  | some v=>exact clip_eq v n n
theorem places_gen (i j:Nat):Builtin.Slice.slicePlaces (i:Int) (j:Int) 1=j - i:=by
 unfold Builtin.Slice.slicePlaces
 have h1:(1:Int) > 0:=by omega
 simp only [h1,if_true,Int.ediv_one]
 split <;> omega
theorem slicePart_ {v:Value}{o:Option Int}{Q:Option Int→Shared→Prop}(p:IsPart v o) (h:Q o s):wpAny (model prog w) A (Builtin.Slice.slicePartIndex v) Q E s:=by
 cases p with
 | none=>exact slicePart_none h
 | int i t=>exact slicePart_int h
theorem sliceApplied_gen {sl:Addr}{vl vu:Value}{lo hi:Option Int}{n:Nat}{Q:Int × Int × Nat→Shared→Prop}(hs:s.heap.IsSliceOf sl vl vu .none) (pl:IsPart vl lo) (pu:IsPart vu hi)
  (h:Q (((sIx n 0 lo:Nat):Int),1,sIx n n hi - sIx n 0 lo) s):wpAny (model prog w) A (Builtin.Slice.sliceApplied (.ref sl) (pure (n:Int))) Q E s:=by
 obtain⟨os,hos,hcs,hds⟩:=id hs
 unfold Builtin.Slice.sliceApplied Builtin.Slice.sliceFields
 refine wpAny_bind (wpAny_bind (wpAny_field hos hds (x:=vl) rfl (wpAny_bind (wpAny_field hos hds (x:=vu) rfl (wpAny_bind (wpAny_field hos hds (x:=.none) rfl (wpAny_pure ?_)))))))
 refine wpAny_bind (slicePart_none ?_)
 show wpAny _ _ (if ((1:Int) == 0)=true then _ else _) _ _ s
 rw [if_neg (by decide)]
 refine wpAny_bind (slicePart_ pl (wpAny_bind (slicePart_ pu (wpAny_bind (wpAny_pure ?_)))))
 show wpAny _ _ (match Builtin.Slice.sliceAdjust lo hi 1 (n:Int) with | (lo,hi)=>pure (lo,(1:Int),Builtin.Slice.slicePlaces lo hi 1)) _ _ s
 rw [adjust_gen lo hi n]
 show wpAny _ _ (pure (((sIx n 0 lo:Nat):Int),(1:Int),Builtin.Slice.slicePlaces ((sIx n 0 lo:Nat):Int) ((sIx n n hi:Nat):Int) 1)) _ _ s
 rw [places_gen]
 exact wpAny_pure h
theorem pick_gen (xs:Array Value) (i k:Nat):((List.range k).filterMap fun(m:Nat)=>xs[((i:Int) + (m:Int) * 1).toNat]?).toArray=((xs.toList.drop i).take k).toArray:=by
 have e:(fun(m:Nat)=>xs[((i:Int) + (m:Int) * 1).toNat]?)=fun m=>xs[i + m]?:=by
  funext m
  have:((i:Int) + (m:Int) * 1).toNat=i + m:=by omega
  rw [this]
 rw [e]
 have:=pick_run xs i k
 rw [List.filterMap_map] at this
 have e2:((fun x=>xs[x]?) ∘ fun x=>i + x)=fun m=>xs[i + m]?:=rfl
 rw [e2] at this
 rw [this]
theorem getItem_tuple_cut {t sl:Addr}{items:Array Value}{vl vu:Value}{lo hi:Option Int}{Q:Value→Shared→Prop}(ht:IsTup s.heap t items) (hs:s.heap.IsSliceOf sl vl vu .none) (pl:IsPart vl lo) (pu:IsPart vu hi)
  (hw:¬ (sIx items.size 0 lo=0∧sIx items.size items.size hi=items.size))
  (h:Q (.ref s.heap.objs.size) { s with heap:=s.heap.push { cls:=.type "tuple",data:=.seq ((items.toList.drop (sIx items.size 0 lo)).take (sIx items.size items.size hi - sIx items.size 0 lo)).toArray } })
  (hsz:items.size≤sizeLine):wpAny (model prog w) A (getItem (.ref t) (.ref sl)) Q E s:=by
 have htake:sizeOk (.seq ((items.toList.drop (sIx items.size 0 lo)).take (sIx items.size items.size hi - sIx items.size 0 lo)).toArray):=by
  show ((items.toList.drop (sIx items.size 0 lo)).take (sIx items.size items.size hi - sIx items.size 0 lo)).toArray.size≤sizeLine
  rw [List.size_toArray,List.length_take,List.length_drop,Array.length_toList]
  omega
 have hj:sIx items.size items.size hi≤items.size:=sIx_le _ _ (Nat.le_refl _) hi
 obtain⟨os,hos,hcs,hds⟩:=id hs
 have hTs:s.TypeIs (.ref sl) "slice":=⟨os,hos,hcs⟩
 unfold getItem
 try with_reducible refine wpAny_holding ?_
 first | refine wpAny_bind (wpAny_pure ?_) | skip
 refine wpAny_bind (wpAny_sequenceKey ht.typeIs (by decide) ?_)
 refine wpAny_bind (wpAny_callSpecial?_slot (name:=Str.ofString "__getitem__") ht.typeIs PyProof.Rows.slot_tuple_getitem
  (wpAny_call_entry PyProof.Rows.slot_tuple_getitem ht.typeIs entry_tuple_getitem ?_ (args_tuple_getitem _ _)))
 show wpAny _ _ (Builtin.Tuple.tupleItemsOf (.ref t) >>= _) _ _ s
 refine wpAny_bind (tupleItemsOf_ ht ?_)
 refine wpAny_bind (wpAny_typeOf hTs ?_)
 rw [if_pos (by decide)]
 refine wpAny_bind (sliceApplied_gen hs pl pu ?_)
 have hno:¬ ((((sIx items.size 0 lo:Nat):Int) == 0 && (1:Int) == 1 && (sIx items.size items.size hi - sIx items.size 0 lo) == items.size)=true):=by
  intro q
  rw [Bool.and_eq_true,Bool.and_eq_true] at q
  have q1:((sIx items.size 0 lo:Nat):Int)=0:=eq_of_beq q.1.1
  have q2:sIx items.size items.size hi - sIx items.size 0 lo=items.size:=eq_of_beq q.2
  exact hw ⟨by omega,by omega⟩
 show wpAny _ _ (if (((sIx items.size 0 lo:Nat):Int) == 0 && (1:Int) == 1 && (sIx items.size items.size hi - sIx items.size 0 lo) == items.size)=true then _ else _) _ _ s
 rw [if_neg hno,pick_gen]
 first
  | exact wpAny_bind (m:=Builtin.Tuple.tupleExact _) (wpAny_newObj_type (wpAny_pure ⟨_,rfl,wpAny_pure h⟩) htake)
  | exact wpAny_bind (m:=Builtin.Tuple.tupleExact _) (wpAny_newObj_type (wpAny_bind (wpAny_pure (wpAny_pure ⟨_,rfl,wpAny_pure h⟩))) htake)
  | exact wpAny_bind (wpAny_bind (m:=Builtin.Tuple.tupleExact _) (wpAny_newObj_type (wpAny_pure (wpAny_pure ⟨_,rfl,wpAny_pure h⟩)) htake))
  | exact wpAny_bind (wpAny_bind (m:=Builtin.Tuple.tupleExact _) (wpAny_newObj_type (wpAny_pure ⟨_,rfl,wpAny_pure h⟩) htake))
end
end HT
namespace L2
open PySem PySem.Spec PyProof.Rows
abbrev TO:=St→Hp→(Option Int→Hp→Prop)→Prop
def PO (X:Cx) (e:Option Expr) (t:TO):Prop:=
 ∀ (pins:List (Addr × Obj)) (s:Shared) (σ:St) (H:Hp) (Q:Option Int→Hp→Prop),Inv X pins σ H s→t σ H Q→
  wpAny (model X.prog X.w) X.A (evalPart e X.env) (fun u s'=>∃ o H',Inv X pins σ H' s'∧IsPart u o∧Q o H') X.xe s
def tNoPart:TO:=fun _ H Q=>Q none H
def tPart (t:TE):TO:=fun σ H Q=>t σ H fun x H1=>∃ i,x=.int i∧Q (some i) H1
theorem intsAre_of {ns:List Int}:∀ {us:List Value},Vals (ns.map V.int) us→IntsAre us ns:=by
 induction ns with
 | nil=>intro us r;rw [List.map_nil] at r;cases r;exact .nil
 | cons n ns ih=>
  intro us r
  rw [List.map_cons] at r
  cases r with
  | cons r1 r2=>
   obtain⟨t,e⟩:=r1
   subst e
   exact .cons n t (ih r2)
section
variable {X:Cx}{e:Expr}{te:TE}{lo hi:Option Expr}{tl th:TO}{pos p2:Pos}
theorem po_none:PO X none tNoPart:=by
 intro pins s σ H Q I h
 rw [evalPart_none]
 exact wpAny_pure ⟨none,H,I,.none,h⟩
theorem po_some (h:PE X e te):PO X (some e) (tPart te):=by
 intro pins s σ H Q I hw
 rw [evalPart_some]
 refine thn (h pins s σ H _ I hw) fun u s1 ⟨x,H1,I1,r1,q1⟩=>?_
 obtain⟨i,rfl,q⟩:=q1
 obtain⟨t,rfl⟩:=r1
 exact⟨some i,H1,I1,.int i t,q⟩
def SlR (X:Cx) (r:V→Option Int→Option Int→Hp→VK→Prop):Prop:=
 ∀ (pins:List (Addr × Obj)) (s:Shared) (σ:St) (H:Hp) (x:V) (v vl vu:Value) (lo hi:Option Int) (sl:Addr) (Q:VK),Inv X pins σ H s→RelV x v→s.heap.IsSliceOf sl vl vu .none→IsPart vl lo→IsPart vu hi→r x lo hi H Q→
  ∃ T id,typeLookup (.type T) "__getitem__"=pure (some (.builtin id))∧s.TypeIs v T∧wpAny (model X.prog X.w) X.A (getItem v (.ref sl)) (EP X pins σ Q) X.xe s
def tSl (r:V→Option Int→Option Int→Hp→VK→Prop) (te:TE) (tl th:TO):TE:=fun σ H Q=>te σ H fun x H1=>tl σ H1 fun l H2=>th σ H2 fun u H3=>r x l u H3 Q
theorem pe_slice {r:V→Option Int→Option Int→Hp→VK→Prop}(hr:SlR X r) (he:PE X e te) (hl:PO X lo tl) (hu:PO X hi th):PE X (.Subscript e (.Slice lo hi none p2) pos) (tSl r te tl th):=by
 intro pins s σ H Q I h
 refine Subscript_ (thn (he pins s σ H _ I h) fun v s1 ⟨x,H1,I1,r1,q1⟩=>?_)
 refine wpAny_Slice (thn (hl pins s1 σ H1 _ I1 q1) fun vl s2 ⟨l,H2,I2,pl,q2⟩=>thn (hu pins s2 σ H2 _ I2 q2) fun vu s3 ⟨u,H3,I3,pu,q3⟩=>?_)
 rw [evalPart_none]
 refine wpAny_pure ?_
 have I4:Inv X pins σ H3 { s3 with heap:=s3.heap.push { cls:=.type "slice",data:=.fields #[vl,vu,.none] } }:=I3.kept (t':=s3.toks) fun b ob q=>Heap.get?_push_of_some _ q
 obtain⟨T,id,hT,ht,hg⟩:=hr pins { s3 with heap:=s3.heap.push { cls:=.type "slice",data:=.fields #[vl,vu,.none] } } σ H3 x v vl vu l u s3.heap.objs.size Q I4 r1 (Heap.IsSliceOf.new ..) pl pu q3
 show wpAny (model X.prog X.w) X.A (subscriptTail e (.Slice lo hi none p2) v (.ref s3.heap.objs.size)) (EP X pins σ Q) X.xe { s3 with heap:=s3.heap.push { cls:=.type "slice",data:=.fields #[vl,vu,.none] } }
 exact tail_any (ops:=[.ref s3.heap.objs.size,v]) ht hT hg (by with_unfolding_all rfl)
def cutV (xs:List V) (lo hi:Option Int):List V:=(xs.drop (HT.sIx xs.length 0 lo)).take (HT.sIx xs.length xs.length hi - HT.sIx xs.length 0 lo)
theorem cutV_length (xs:List V) (lo hi:Option Int):(cutV xs lo hi).length≤xs.length:=by
 unfold cutV
 rw [List.length_take,List.length_drop]
 omega
def rSlT (K:PySem.W.Frag):V→Option Int→Option Int→Hp→VK→Prop:=fun x lo hi H Q=>∃ a xs,x=.ref a∧SqT K H a xs∧
 ¬ (HT.sIx xs.length 0 lo=0∧HT.sIx xs.length xs.length hi=xs.length)∧∀ p,H p=none→Q (.ref p) (upd H p (.tup (cutV xs lo hi)))
theorem sl_tup:SlR X (rSlT X.K):=by
 intro pins s σ H x v vl vu lo hi sl Q I rx hs pl pu h
 obtain⟨a,xs,rfl,hx,hw,q⟩:=h
 cases rx
 obtain⟨its,r,ht,hz⟩:=I.tuple hx
 have hlen:its.toArray.size=xs.length:=by rw [List.size_toArray];exact r.length.symm
 refine⟨"tuple",_,PyProof.Rows.slot_tuple_getitem.lookup,ht.typeIs,?_⟩
 refine HT.getItem_tuple_cut ht hs pl pu (by rw [hlen];exact hw) ?_ (by rw [hlen];exact hz)
 rw [hlen]
 refine⟨.ref s.heap.objs.size,_,I.laid (t':=s.toks) (o:=.tup (cutV xs lo hi)) (fun b ob q=>Heap.get?_push_of_some _ q) (Nat.le_refl _) ?_,rfl,q _ (I.hok.fresh (Nat.le_refl _))⟩
 exact⟨Nat.le_trans (cutV_length xs lo hi) hz,_,(r.drop (HT.sIx xs.length 0 lo)).take (HT.sIx xs.length xs.length hi - HT.sIx xs.length 0 lo),IsTup.new _ _⟩
end
end L2
namespace L2
open PySem PySem.Spec PyProof.Rows
def ixN (n:Nat) (i:Int):Option Nat:=if 0≤i then(if i < n then some i.toNat else none) else if -(n:Int)≤i then some (i + n).toNat else none
def atI {α:Type}(xs:List α) (i:Int):Option α:=(ixN xs.length i).bind fun j=>xs[j]?
theorem ixN_seq {n:Nat}{i:Int}{j:Nat}(h:ixN n i=some j):seqIndex? i n=some j∧j < n∧-(n:Int)≤i∧i < n:=by
 unfold ixN at h
 by_cases h0:0≤i
 ·rw [if_pos h0] at h
  by_cases h1:i < n
  ·rw [if_pos h1] at h
   have e:i.toNat=j:=Option.some.inj h
   exact⟨by rw [seqIndex_of h0 h1,e],by omega,by omega,h1⟩
  ·rw [if_neg h1] at h;cases h
 ·rw [if_neg h0] at h
  by_cases h1:-(n:Int)≤i
  ·rw [if_pos h1] at h
   have e:(i + n).toNat=j:=Option.some.inj h
   exact⟨by rw [seqIndex_neg (by omega) h1,e],by omega,h1,by omega⟩
  ·rw [if_neg h1] at h;cases h
theorem atI_get {α:Type}{xs:List α}{i:Int}{v:α}(h:atI xs i=some v):∃ j,seqIndex? i xs.length=some j∧xs[j]?=some v∧j < xs.length∧-(xs.length:Int)≤i∧i < xs.length:=by
 unfold atI at h
 cases e:ixN xs.length i with
 | none=>rw [e] at h;cases h
 | some j=>
  rw [e] at h
  obtain⟨h1,h2,h3,h4⟩:=ixN_seq e
  exact⟨j,h1,h,h2,h3,h4⟩
theorem atI_nat {α:Type}{xs:List α}{j:Nat}{v:α}(h:xs[j]?=some v):atI xs (j:Int)=some v:=by
 have hj:j < xs.length:=(List.getElem?_eq_some_iff.mp h).1
 have e:ixN xs.length (j:Int)=some j:=by
  unfold ixN
  rw [if_pos (by omega),if_pos (by omega)];simp
 unfold atI;rw [e];exact h
theorem atI_last {α:Type}(xs:List α) (v:α):atI (xs++[v]) (-1)=some v:=by
 have hl:(xs++[v]).length=xs.length + 1:=by simp
 have e:ixN (xs++[v]).length (-1)=some xs.length:=by
  unfold ixN
  rw [hl,if_neg (by decide),if_pos (by omega)]
  congr 1
  omega
 unfold atI
 rw [e]
 show (xs++[v])[xs.length]?=some v
 simp
def PlainIx (b:Expr):Prop:=∀ o i,subscripted b false o i=operate [o,i] (getItem o i)
def IxR (X:Cx) (r:R2):Prop:=
 ∀ (value slice:Expr) (pins:List (Addr × Obj)) (s:Shared) (σ:St) (H:Hp) (x y:V) (v u:Value) (Q:VK),Inv X pins σ H s→RelV x v→RelV y u→r x y H Q→
  subscripted slice false v u=operate [v,u] (getItem v u)→wpAny (model X.prog X.w) X.A (subscriptTail value slice v u) (EP X pins σ Q) X.xe s
def MtR (X:Cx) (id:String) (r:V→List V→Hp→VK→Prop):Prop:=
 ∀ (pins:List (Addr × Obj)) (s:Shared) (σ:St) (H:Hp) (x:V) (xs:List V) (v:Value) (us:List Value) (Q:VK),Inv X pins σ H s→RelV x v→Vals xs us→r x xs H Q→
  wpAny (model X.prog X.w) X.A (call (.builtin id) (v::us)) (EP X pins σ Q) X.xe s
section
variable {X:Cx}{a b:Expr}{ta tb:TE}{pos:Pos}
theorem pe_ix {r:R2}(hr:IxR X r) (ha:PE X a ta) (hb:PE X b tb) (hs:PlainIx b):PE X (.Subscript a b pos) (tOp r ta tb):=by
 intro pins s σ H Q I h
 exact Subscript_ (binT ha hb I h fun v u s2 x y H2 I2 rx ry q=>hr a b pins s2 σ H2 x y v u Q I2 rx ry q (hs _ _))
def rIxL (K:PySem.W.Frag):R2:=fun x y H Q=>∃ p xs i v,x=.ref p∧y=.int i∧SqL K H p xs∧atI xs i=some v∧Q v H
def rIxT (K:PySem.W.Frag):R2:=fun x y H Q=>∃ p xs i v,x=.ref p∧y=.int i∧SqT K H p xs∧atI xs i=some v∧Q v H
theorem ix_list:IxR X (rIxL X.K):=by
 intro value slice pins s σ H x y v u Q I rx ry h hs
 obtain⟨p,xs,i,z,rfl,rfl,hq,he,q⟩:=h
 cases rx
 obtain⟨t,rfl⟩:=ry
 obtain⟨its,r,pl,hz⟩:=I.list hq
 obtain⟨j,h1,h2,h3,h4,h5⟩:=atI_get he
 obtain⟨w,ew,rw'⟩:=r.get h2
 have hl:=r.length
 have hn:=line63
 have fin:EP X pins σ Q w s:=⟨z,H,I,rw',q⟩
 by_cases h0:0≤i
 ·have hj:i.toNat=j:=by
   rw [seqIndex_of h0 h5] at h1
   exact Option.some.inj h1
  exact item_listR pl.isList h0 (by omega) (by rw [hj];simpa using ew) fin hs
 ·have hj:(i + (its.toArray.size:Int)).toNat=j:=by
   rw [seqIndex_neg (by omega) h4] at h1
   rw [List.size_toArray,← hl]
   exact Option.some.inj h1
  exact subscriptTail_builtinR (x:=w) pl.isList.typeIs slot_list_getitem.lookup
   (wpAny_getItem_list_neg (Q:=fun r s'=>r=w∧EP X pins σ Q r s') pl.isList (by omega) (by rw [List.size_toArray] <;> omega) (by omega) (by rw [hj];simpa using ew) ⟨rfl,fin⟩) hs
theorem ix_tup:IxR X (rIxT X.K):=by
 intro value slice pins s σ H x y v u Q I rx ry h hs
 obtain⟨p,xs,i,z,rfl,rfl,hq,he,q⟩:=h
 cases rx
 obtain⟨t,rfl⟩:=ry
 obtain⟨its,r,pl,hz⟩:=I.tuple hq
 obtain⟨j,h1,h2,h3,h4,h5⟩:=atI_get he
 obtain⟨w,ew,rw'⟩:=r.get h2
 have hl:=r.length
 have hn:=line63
 have fin:EP X pins σ Q w s:=⟨z,H,I,rw',q⟩
 exact subscriptTail_builtinR (x:=w) pl.typeIs slot_tuple_getitem.lookup
  (getItem_tuple (j:=j) (Q:=fun r s'=>r=w∧EP X pins σ Q r s') pl (by omega) (by omega) (by rw [List.size_toArray,← hl];exact h1) (by simpa using ew) ⟨rfl,fin⟩) hs
theorem slice_bounds (lo hi:Option Int) (n:Nat):(sliceBounds lo hi none n).1=((HT.sIx n 0 lo:Nat):Int)∧(sliceBounds lo hi none n).2.1=((HT.sIx n n hi:Nat):Int)∧(sliceBounds lo hi none n).2.2=1:=by
 refine⟨?_,?_,rfl⟩
 ·cases lo with
  | none=>simp [sliceBounds,HT.sIx]
  | some i=>
   simp only [sliceBounds,HT.sIx,Option.getD_none,show (1:Int) > 0 by decide,if_true]
   by_cases h:i < 0
   ·simp only [h,if_true] <;> omega
   ·simp only [h,if_false] <;> omega
 ·cases hi with
  | none=>simp [sliceBounds,HT.sIx]
  | some i=>
   simp only [sliceBounds,HT.sIx,Option.getD_none,show (1:Int) > 0 by decide,if_true]
   by_cases h:i < 0
   ·simp only [h,if_true] <;> omega
   ·simp only [h,if_false] <;> omega
theorem slicePick_cut (its:List Value) (lo hi:Option Int):slicePick its.toArray lo hi none=((its.drop (HT.sIx its.length 0 lo)).take (HT.sIx its.length its.length hi - HT.sIx its.length 0 lo)).toArray:=by
 obtain⟨h1,h2,h3⟩:=slice_bounds lo hi its.toArray.size
 unfold slicePick
 rw [h1,h2,h3]
 simp only [sliceRange_one,pick_run,List.size_toArray] <;> rfl
def rSlL (K:PySem.W.Frag):V→Option Int→Option Int→Hp→VK→Prop:=fun x lo hi H Q=>∃ a xs,x=.ref a∧SqL K H a xs∧∀ p,H p=none→Q (.ref p) (upd H p (.lst (cutV xs lo hi)))
theorem sl_list:SlR X (rSlL X.K):=by
 intro pins s σ H x v vl vu lo hi sl Q I rx hs pl pu h
 obtain⟨a,xs,rfl,hx,q⟩:=h
 cases rx
 obtain⟨its,r,ht,hz⟩:=I.list hx
 have hlen:=r.length
 refine⟨"list",_,slot_list_getitem.lookup,ht.isList.typeIs,?_⟩
 refine wpAny_getItem_list_slice ht.isList hs pl pu .none (by simp) ?_ (by rw [List.size_toArray] <;> omega)
 rw [slicePick_cut,← hlen]
 refine⟨.ref s.heap.objs.size,_,I.laid (t':=s.toks) (o:=.lst (cutV xs lo hi)) (fun b ob q=>Heap.get?_push_of_some _ q) (Nat.le_refl _) ?_,rfl,q _ (I.hok.fresh (Nat.le_refl _))⟩
 exact⟨Nat.le_trans (cutV_length xs lo hi) hz,_,0,(r.drop (HT.sIx xs.length 0 lo)).take (HT.sIx xs.length xs.length hi - HT.sIx xs.length 0 lo),Heap.get?_push_size _ rfl⟩
def flatV:V→Bool
 | .non=>true
 | .bl _=>true
 | .int _=>true
 | .str _=>true
 | _=>false
def eqV:V→V→Bool
 | .non,.non=>true
 | .bl a,.bl b=>a == b
 | .bl a,.int b=>(if a then 1 else 0) == b
 | .int a,.bl b=>a == (if b then 1 else 0)
 | .int a,.int b=>a == b
 | .str a,.str b=>a == b
 | _,_=>false
theorem eqAt_V {A:Around}{s:Shared}{y x:V}{u v:Value}(ry:RelV y u) (rx:RelV x v) (fy:flatV y=true) (fx:flatV x=true):SeqAt.EqAt A s u v (eqV y x):=by
 cases y with
 | non=>
  cases ry
  cases x with
  | non=>cases rx;exact SeqAt.EqAt.same _
  | bl b=>cases rx;exact SeqAt.EqAt.none_bool b
  | int b=>obtain⟨t,rfl⟩:=rx;exact SeqAt.EqAt.none_int b t
  | str b=>obtain⟨t,rfl⟩:=rx;exact SeqAt.EqAt.none_str b t
  | _=>exact absurd (show false=true from fx) Bool.false_ne_true
 | bl a=>
  cases ry
  cases x with
  | non=>cases rx;exact SeqAt.EqAt.bool_none a
  | bl b=>cases rx;exact SeqAt.EqAt.bool_bool a b
  | int b=>obtain⟨t,rfl⟩:=rx;exact SeqAt.EqAt.bool_int a b t
  | str b=>obtain⟨t,rfl⟩:=rx;exact SeqAt.EqAt.bool_str a b t
  | _=>exact absurd (show false=true from fx) Bool.false_ne_true
 | int a=>
  obtain⟨t',rfl⟩:=ry
  cases x with
  | non=>cases rx;exact SeqAt.EqAt.int_none a t'
  | bl b=>cases rx;exact SeqAt.EqAt.int_bool a t' b
  | int b=>obtain⟨t,rfl⟩:=rx;exact SeqAt.EqAt.int_int a t' b t
  | str b=>obtain⟨t,rfl⟩:=rx;exact SeqAt.EqAt.int_str a t' b t
  | _=>exact absurd (show false=true from fx) Bool.false_ne_true
 | str a=>
  obtain⟨t',rfl⟩:=ry
  cases x with
  | non=>cases rx;exact SeqAt.EqAt.str_none a t'
  | bl b=>cases rx;exact SeqAt.EqAt.str_bool a t' b
  | int b=>obtain⟨t,rfl⟩:=rx;exact SeqAt.EqAt.str_int a t' b t
  | str b=>obtain⟨t,rfl⟩:=rx;exact SeqAt.EqAt.str_str a t' b t
  | _=>exact absurd (show false=true from fx) Bool.false_ne_true
 | _=>exact absurd (show false=true from fy) Bool.false_ne_true
def eqU (x:V) (u:Value):Bool:=match u with
 | .none=>eqV .non x
 | .bool b=>eqV (.bl b) x
 | .int i _=>eqV (.int i) x
 | .str z _=>eqV (.str z) x
 | _=>false
theorem eqU_of {x y:V}{u:Value}(r:RelV y u) (f:flatV y=true):eqU x u=eqV y x:=by
 cases y with
 | non=>cases r;rfl
 | bl b=>cases r;rfl
 | int i=>obtain⟨t,rfl⟩:=r;rfl
 | str z=>obtain⟨t,rfl⟩:=r;rfl
 | _=>exact absurd (show false=true from f) Bool.false_ne_true
theorem any_eqU {x:V}:∀ {xs:List V}{us:List Value},Vals xs us→xs.all flatV=true→us.any (eqU x)=xs.any fun y=>eqV y x
 | _,_,.nil,_=>rfl
 | y::xs,u::us,.cons r t,f=>by
  rw [List.all_cons,Bool.and_eq_true] at f
  rw [List.any_cons,List.any_cons,eqU_of r f.1,any_eqU t f.2]
theorem mem_eqAt {A:Around}{s:Shared}{x:V}{v:Value}(rx:RelV x v) (fx:flatV x=true):∀ {xs:List V}{us:List Value},Vals xs us→xs.all flatV=true→∀ u∈us,SeqAt.EqAt A s u v (eqU x u)
 | _,_,.nil,_=>fun u hu=>by cases hu
 | y::xs,u::us,.cons r t,f=>fun u' hu=>by
  rw [List.all_cons,Bool.and_eq_true] at f
  rcases List.mem_cons.mp hu with rfl | hu
  ·rw [eqU_of r f.1];exact eqAt_V r rx f.1 fx
  ·exact mem_eqAt rx fx t f.2 u' hu
def inV (x:V) (xs:List V):Bool:=xs.any fun y=>eqV y x
def rIn (K:PySem.W.Frag) (neg:Bool):R2:=fun x y H Q=>∃ p xs,y=.ref p∧(SqL K H p xs∨SqT K H p xs)∧flatV x=true∧xs.all flatV=true∧Q (.bl (if neg then !inV x xs else inV x xs)) H
theorem op_in_seq:OpR X (compareOp .In) (rIn X.K false):=by
 intro pins s σ H x y v u Q I rx ry h
 obtain⟨p,xs,rfl,hq,fx,fs,q⟩:=h
 cases ry
 rcases hq with hq | hq
 ·obtain⟨its,r,pl,hz⟩:=I.list hq
  refine SeqAt.in_listAt (eqU x) pl.isList (fun w hw=>mem_eqAt rx fx r fs w (by simpa using hw)) ⟨.bl _,H,I,rfl,?_⟩
  rw [show its.toArray.any (eqU x)=its.any (eqU x) by simp,any_eqU r fs]
  exact q
 ·obtain⟨its,r,pl,hz⟩:=I.tuple hq
  refine SeqAt.in_tupleAt (eqU x) pl (fun w hw=>mem_eqAt rx fx r fs w (by simpa using hw)) ⟨.bl _,H,I,rfl,?_⟩
  rw [show its.toArray.any (eqU x)=its.any (eqU x) by simp,any_eqU r fs]
  exact q
theorem call_len_seq:CallR X (.builtin "len") (fun xs H Q=>∃ p ys,xs=[.ref p]∧(SqL X.K H p ys∨SqT X.K H p ys)∧Q (.int ys.length) H):=by
 intro pins s σ H xs us Q I r h
 obtain⟨p,ys,rfl,hq,q⟩:=h
 obtain⟨u,rfl,rx⟩:=vals1 r
 cases rx
 have hn:=line63
 rcases hq with hq | hq
 ·obtain⟨its,r',pl,hz⟩:=I.list hq
  have hlen:=r'.length
  exact Calls.call_len_list pl.isList (by simp only [List.size_toArray] <;> omega) ⟨.int ys.length,H,I.tok _,⟨s.toks + 1,by rw [List.size_toArray,hlen]⟩,q⟩
 ·obtain⟨its,r',pl,hz⟩:=I.tuple hq
  have hlen:=r'.length
  exact len_tuple pl (by simp only [List.size_toArray] <;> omega) ⟨.int ys.length,H,I.tok _,⟨s.toks + 1,by rw [List.size_toArray,hlen]⟩,q⟩
theorem call_list_of:CallR X (.type "list") (fun xs H Q=>∃ p ys,xs=[.ref p]∧(SqL X.K H p ys∨SqT X.K H p ys)∧∀ l,H l=none→Q (.ref l) (upd H l (.lst ys))):=by
 intro pins s σ H xs us Q I r h
 obtain⟨p,ys,rfl,hq,q⟩:=h
 obtain⟨u,rfl,rx⟩:=vals1 r
 cases rx
 have fin:∀ (its:List Value),Vals ys its→ys.length≤sizeLine→∀ (h':Heap) (c':Nat),(∀ b o',s.heap.get? b=some o'→h'.get? b=some o')→
   h'.get? s.heap.objs.size=some { cls:=.type "list",dict:=none,data:=.seq its.toArray c',slots:=#[] }→EP X pins σ Q (.ref s.heap.objs.size) { s with heap:=h' }:=fun its r' hz h' c' kp e=>
  ⟨.ref s.heap.objs.size,_,I.laid (t':=s.toks) kp (Nat.le_refl _) (show ObjOk X.prog X.w _ h' _ (.lst ys) from⟨hz,its,c',r',e⟩),rfl,q _ (I.hok.fresh (Nat.le_refl _))⟩
 rcases hq with hq | hq
 ·obtain⟨its,r',pl,hz⟩:=I.list hq
  have hlen:=r'.length
  obtain⟨o,ho,hc,n,hd⟩:=pl.isList
  exact call_list_seq p (.inl rfl) ho hc hd (fun h' c' kp e=>fin its r' hz h' c' kp e) (by simp only [List.size_toArray] <;> omega)
 ·obtain⟨its,r',pl,hz⟩:=I.tuple hq
  have hlen:=r'.length
  obtain⟨o,ho,hc,n,hd⟩:=pl
  exact call_list_seq p (.inr rfl) ho hc hd (fun h' c' kp e=>fin its r' hz h' c' kp e) (by simp only [List.size_toArray] <;> omega)
theorem call_tuple_of:CallR X (.type "tuple") (fun xs H Q=>∃ p ys,xs=[.ref p]∧((SqL X.K H p ys∧∀ l,H l=none→Q (.ref l) (upd H l (.tup ys)))∨(SqT X.K H p ys∧Q (.ref p) H))):=by
 intro pins s σ H xs us Q I r h
 obtain⟨p,ys,rfl,h⟩:=h
 obtain⟨u,rfl,rx⟩:=vals1 r
 cases rx
 rcases h with ⟨hq,q⟩ | ⟨hq,q⟩
 ·obtain⟨its,r',pl,hz⟩:=I.list hq
  have hlen:=r'.length
  refine call_tuple_list pl.isList (fun h' kp=>?_) (by simp only [List.size_toArray] <;> omega)
  have I1:Inv X pins σ H { s with heap:=h' }:=I.kept (t':=s.toks) kp
  have I2:Inv X pins σ (upd H h'.objs.size (.tup ys)) { s with heap:=h'.push { cls:=.type "tuple",data:=.seq its.toArray } }:=
   I1.laid (t':=s.toks) (fun b o e=>Heap.get?_push_of_some _ e) (Nat.le_refl _) (show ObjOk X.prog X.w _ _ _ (.tup ys) from⟨hz,its,r',IsTup.new _ _⟩)
  exact⟨.ref h'.objs.size,_,I2,rfl,q _ (I1.hok.fresh (Nat.le_refl _))⟩
 ·obtain⟨its,r',pl,hz⟩:=I.tuple hq
  exact call_tuple_same pl ⟨.ref p,H,I,rfl,q⟩
def tyV (K:PySem.W.Frag) (T:String) (x:V) (H:Hp):Prop:=match x with
 | .str _=>T="str"
 | .int _=>T="int"
 | .ref p=>(T="list"∧∃ xs,SqL K H p xs)∨(T="tuple"∧∃ o,K.lookup p=some o∧o.cls=.type "tuple"∧o.dict=none)∨
   (T="dict"∧((∃ kvs,H p=some (.dK kvs))∨∃ kvs,H p=some (.dT kvs)))∨(T="set"∧∃ S n,H p=some (.set S n))
 | _=>False
theorem tyV_is {pins:List (Addr × Obj)}{σ:St}{H:Hp}{s:Shared}{T:String}{x:V}{v:Value}(I:Inv X pins σ H s) (r:RelV x v) (ty:tyV X.K T x H):
  s.TypeIs v T∧∀ a,v=.ref a→∃ ob,s.heap.get? a=some ob∧ob.dict=none:=by
 cases x with
 | str z=>
  obtain⟨t,rfl⟩:=r
  cases (show T="str" from ty)
  exact⟨typeIs_str s z t,fun _ e=>nomatch e⟩
 | int i=>
  obtain⟨t,rfl⟩:=r
  cases (show T="int" from ty)
  exact⟨typeIs_int s i t,fun _ e=>nomatch e⟩
 | ref p=>
  cases r
  rcases ty with ⟨rfl,xs,hq⟩ | ⟨rfl,o,hk,hc,hd⟩ | ⟨rfl,hk⟩ | ⟨rfl,S,n,hk⟩
  ·obtain⟨its,_,pl,_⟩:=I.list hq
   refine⟨pl.isList.typeIs,fun a e=>?_⟩
   cases e
   obtain⟨o,n,e,c,hd,_⟩:=pl
   exact⟨o,e,hd⟩
  ·refine⟨⟨o,I.kIn p o hk,hc⟩,fun a e=>?_⟩
   cases e
   exact⟨o,I.kIn _ o hk,hd⟩
  ·have z:∃ o,s.heap.get? p=some o∧o.ExactDict:=by
    rcases hk with ⟨kvs,hk⟩ | ⟨kvs,hk⟩
    ·obtain⟨_,_,_,_,o,_,_,e,ex,_⟩:=I.hok p _ hk
     exact⟨o,e,ex⟩
    ·obtain⟨_,_,_,_,o,_,_,e,ex,_⟩:=I.hok p _ hk
     exact⟨o,e,ex⟩
   obtain⟨o,e,ex⟩:=z
   refine⟨⟨o,e,ex.1⟩,fun a e2=>?_⟩
   cases e2
   exact⟨o,e,ex.2.1⟩
  ·obtain⟨o,_,_,_,e,ex,_⟩:=I.hok p _ hk
   refine⟨⟨o,e,ex.1⟩,fun a e2=>?_⟩
   cases e2
   exact⟨o,e,ex.2.1⟩
 | _=>exact False.elim ty
def tBM (K:PySem.W.Frag) (T:String) (r:V→List V→Hp→VK→Prop) (to:TE) (t:TA):TE:=fun σ H Q=>to σ H fun x H1=>tyV K T x H1∧t σ H1 fun xs H2=>r x xs H2 Q
variable {o e:Expr}{es:List Expr}{to:TE}{t:TA}{name:Str}{apos cpos:Pos}{T id:String}{r:V→List V→Hp→VK→Prop}
theorem pe_bm (pa:PlainAttrs T) (slot:Slot T name id) (hty:typeOf (.builtin id)=pure (.type "method_descriptor")) (hm:MtR X id r) (ho:PE X o to) (ha:PA X (e::es) t)
  (hbase:attributeBase o name X.env (eval o X.env)=eval o X.env:=by rfl)
  (hfew:((backTo cpos (starEach (e::es) X.env)).all (fun x=>!x.1) && (backToKw cpos (keywordEach [] X.env)).all (fun x=>x.1.isSome)
   && decide ((e::es).length + ([]:List Keyword).length + (if ([]:List Keyword).isEmpty then 0 else 1) < 30))=true:=by rfl)
  (hline:(apos.endLine == cpos.line)=true:=by rfl) (hs:starEach (e::es) X.env=(false,eval e X.env)::starEach es X.env:=by rfl) (hplain:(backTo cpos (starEach es X.env)).any (·.1)=false:=by rfl):
  PE X (.Call (.Attribute o name apos) (e::es) [] cpos) (tBM X.K T r to t):=by
 intro pins s σ H Q I h
 refine wpAny_Call_method_late hbase hfew hline rfl (thn (ho pins s σ H _ I h) fun v s1 ⟨x,H1,I1,r1,ty,q1⟩=>?_)
 obtain⟨h1,h2⟩:=tyV_is I1 r1 ty
 refine⟨T,id,pa,slot,hty,h1,h2,?_⟩
 have hA:=ha cpos pins s1 σ H1 _ I1 q1
 rw [hs] at hA ⊢
 refine Calls.callWith_builtin (by show (false || (backTo cpos (starEach es X.env)).any (·.1))=false;rw [hplain] <;> rfl) (Calls.evalArgs_plain ?_)
 exact thn hA fun us s2 ⟨vs,H2,I2,r2,q2⟩=>hm pins s2 σ H2 x vs v us Q I2 r1 r2 q2
end
end L2
namespace L2
open PySem PySem.Spec PyProof.Rows
def MtM (X:Cx) (id:String) (r:V→List V→Hp→VK→Prop):Prop:=
 ∀ (pins:List (Addr × Obj)) (s:Shared) (σ:St) (H:Hp) (x:V) (xs:List V) (v:Value) (us:List Value) (Q:VK),Inv X pins σ H s→RelV x v→Vals xs us→r x xs H Q→
  wpAny (model X.prog X.w) X.A (call (.builtin id) (v::us)) (EP X pins σ Q) X.xe s
theorem Vals.one:∀ {x:V}{us:List Value},Vals [x] us→∃ u,us=[u]∧RelV x u
 | _,_,.cons r .nil=>⟨_,rfl,r⟩
theorem Vals.reverse {xs:List V}{us:List Value}(h:Vals xs us):Vals xs.reverse us.reverse:=by
 induction h with
 | nil=>exact .nil
 | cons r t ih=>rw [List.reverse_cons,List.reverse_cons];exact Vals.append ih (.cons r .nil)
theorem Vals.rep {xs:List V}{us:List Value}(h:Vals xs us):∀ k:Nat,Vals (List.replicate k xs).flatten (List.replicate k us).flatten
 | 0=>.nil
 | k + 1=>by
  rw [List.replicate_succ,List.replicate_succ,List.flatten_cons,List.flatten_cons]
  exact Vals.append h (Vals.rep h k)
theorem foldl_rep (its:List Value):∀ (k:Nat) (acc:List Value),
  List.foldl (fun x1 x2=>x1++x2) acc.toArray (List.replicate k its.toArray)=(acc++(List.replicate k its).flatten).toArray
 | 0,acc=>by simp
 | k + 1,acc=>by
  have e:acc.toArray++its.toArray=(acc++its).toArray:=by simp
  have e2:(acc++its)++(List.replicate k its).flatten=acc++(List.replicate (k + 1) its).flatten:=by
   rw [List.replicate_succ,List.flatten_cons,List.append_assoc]
  rw [← e2,← foldl_rep its k (acc++its),← e,List.replicate_succ,List.foldl_cons]
section
variable {X:Cx}{pins:List (Addr × Obj)}{σ:St}{H:Hp}{s:Shared}{l b:Addr}{xs ys zs:List V}
theorem Inv.lset {its its':List Value}{n:Nat}{f:Array Value→Array Value}{t':Nat}(I:Inv X pins σ H s) (hH:H l=some (.lst xs))
  (e:s.heap.get? l=some { cls:=.type "list",data:=.seq its.toArray n }) (hf:f its.toArray=its'.toArray) (hv:Vals ys its') (hz:ys.length≤sizeLine):
  Inv X pins σ (upd H l (.lst ys)) { s with heap:=s.heap.update l (Obj.mapSeq f),toks:=t' }:=by
 have q:=PySem.IsL.update e f
 rw [hf] at q
 refine I.write (x:=l) (e:=l) (by rw [hH];exact trivial) (.inl rfl) (fun b' u hb hu=>(Heap.get?_update_other s.heap (Obj.mapSeq f) (Ne.symm hb)).trans hu) ⟨_,q⟩ ?_
 exact⟨hz,its',_,hv,q⟩
theorem Inv.lnew {its:List Value}{t':Nat}(I:Inv X pins σ H s) (hv:Vals ys its) (hz:ys.length≤sizeLine):
  Inv X pins σ (upd H s.heap.objs.size (.lst ys)) { s with heap:=s.heap.push { cls:=.type "list",data:=.seq its.toArray },toks:=t' }:=
 I.laid (fun _ _ q=>Heap.get?_push_of_some _ q) (Nat.le_refl _) ⟨hz,its,0,hv,Heap.get?_push_size _ rfl⟩
theorem Inv.fresh (I:Inv X pins σ H s):H s.heap.objs.size=none:=I.hok.fresh (Nat.le_refl _)
theorem Inv.lstM (I:Inv X pins σ H s) (hH:H l=some (.lst xs)):xs.length≤sizeLine∧∃ (its:List Value) (n:Nat),Vals xs its∧xs.length=its.length∧s.heap.get? l=some { cls:=.type "list",data:=.seq its.toArray n }:=by
 obtain⟨z,its,n,r,e⟩:=I.hok l _ hH
 exact⟨z,its,n,r,r.length,e⟩
theorem notLongL {n:Nat}(h:n≤sizeLine):Builtin.List.listTooLong n=false:=by
 unfold Builtin.List.listTooLong
 exact decide_eq_false (by omega)
end
section
variable {X:Cx}
def rAppend:V→List V→Hp→VK→Prop:=fun x vs H Q=>∃ l xs y,x=.ref l∧vs=[y]∧H l=some (.lst xs)∧xs.length < sizeLine∧Q .non (upd H l (.lst (xs++[y])))
theorem mt_append:MtM X "list.append" rAppend:=by
 intro pins s σ H x vs v us Q I rx rv h
 obtain⟨l,xs,y,rfl,rfl,hH,hz,q⟩:=h
 cases rx
 obtain⟨u,rfl,ru⟩:=rv.one
 obtain⟨z,its,n,r,hl,e⟩:=I.lstM hH
 refine call_meets F.slot_list_append ⟨_,e,rfl⟩ F.entry_list_append (F.args_list_append_2 _ _) (PySem.list_append l its.toArray n u (by rw [List.size_toArray];omega)) ⟨e,?_⟩
 refine⟨.non,_,I.lset (its':=its++[u]) hH e (by simp) (r.append (.cons ru .nil)) ?_,rfl,q⟩
 rw [List.length_append,List.length_singleton]
 omega
def rCat:R2:=fun x y H Q=>∃ l b xs zs,x=.ref l∧y=.ref b∧H l=some (.lst xs)∧H b=some (.lst zs)∧xs.length + zs.length≤sizeLine∧∀ p,H p=none→Q (.ref p) (upd H p (.lst (xs++zs)))
theorem op_cat:OpR X (binaryOp .Add) rCat:=by
 intro pins s σ H x y v u Q I rx ry h
 obtain⟨l,b,xs,zs,rfl,rfl,hH,hB,hz,q⟩:=h
 cases rx
 cases ry
 obtain⟨z,its,n,r,hl,e⟩:=I.lstM hH
 obtain⟨z2,its2,n2,r2,hl2,e2⟩:=I.lstM hB
 refine PySem.P.add_list e e2 ?_ (by rw [List.size_toArray,List.size_toArray];omega)
 have ea:its.toArray++its2.toArray=(its++its2).toArray:=by simp
 rw [ea]
 exact⟨.ref _,_,I.lnew (t':=s.toks) (r.append r2) (by rw [List.length_append];omega),rfl,q _ I.fresh⟩
def rRep:R2:=fun x y H Q=>∃ l k xs,x=.ref l∧y=.int k∧H l=some (.lst xs)∧-(2 ^ 63)≤k∧k < 2 ^ 63∧xs.length * k.toNat≤sizeLine∧
 ∀ p,H p=none→Q (.ref p) (upd H p (.lst (List.replicate k.toNat xs).flatten))
theorem len_rep {α:Type}(xs:List α) (k:Nat):(List.replicate k xs).flatten.length=k * xs.length:=by
 induction k with
 | zero=>simp
 | succ k ih=>rw [List.replicate_succ,List.flatten_cons,List.length_append,ih,Nat.succ_mul,Nat.add_comm]
theorem op_rep:OpR X (binaryOp .Mult) rRep:=by
 intro pins s σ H x y v u Q I rx ry h
 obtain⟨l,k,xs,rfl,rfl,hH,h1,h2,hz,q⟩:=h
 cases rx
 obtain⟨t,rfl⟩:=ry
 obtain⟨z,its,n,r,hl,e⟩:=I.lstM hH
 have hlen:its.toArray.size * k.toNat≤sizeLine:=by rw [List.size_toArray,← hl];exact hz
 have hcap:¬ its.toArray.size * k.toNat > (2 ^ 63 - 1) / 8:=by
  have:(sizeLine:Nat)≤(2 ^ 63 - 1) / 8:=by decide
  omega
 have hfit:¬ (!Builtin.List.listFitsIndex k)=true:=by
  rw [fitsIndex_both h1 h2]
  exact Bool.false_ne_true
 have hlong:¬ Builtin.List.listTooLong (its.toArray.size * k.toNat)=true:=by
  rw [notLongL hlen]
  exact Bool.false_ne_true
 have hnew:List.foldl (fun x1 x2=>x1++x2) #[] (List.replicate (if its.toArray.isEmpty=true then 0 else k.toNat) its.toArray)=(List.replicate k.toNat its).flatten.toArray:=by
  have f0:∀ m:Nat,List.foldl (fun x1 x2=>x1++x2) #[] (List.replicate m its.toArray)=(List.replicate m its).flatten.toArray:=fun m=>by
   have:=foldl_rep its m []
   rw [List.nil_append] at this
   exact this
  rw [f0]
  cases its with
  | nil=>simp
  | cons a r'=>rw [if_neg (by simp)]
 refine wpAny_binaryOp_repeat_ref (T:="list") (U:="int") (by decide) ⟨_,e,rfl⟩ (fun s'=>typeIs_int s' k t) noFill_list_mul F.fills_int_mul F.slot_int_rmul repeat_list F.slot_int_index.lookup
  (call_meets F.slot_int_rmul (typeIs_int s k t) F.entry_int_rmul (F.args_int_rmul_2 _ _) (int___rmul___int_list k t l its.toArray n)
   ⟨e,rfl,⟨_,e,rfl⟩,call_meets F.slot_list_mul ⟨_,e,rfl⟩ F.entry_list_mul (F.args_list_mul_2 _ _) (AutoListH.list___mul___list_int_3 l its.toArray n k t hfit hcap hlong) ⟨e,?_⟩⟩)
 rw [hnew]
 exact⟨.ref _,_,I.lnew (t':=s.toks) (r.rep k.toNat) (by rw [len_rep,Nat.mul_comm];exact hz),rfl,q _ I.fresh⟩
end
section
variable {prog:Program}{w:World}{A:Around}{E:Value→Shared→Prop}{s:Shared}
end
section
variable {X:Cx}
end
end L2
namespace Att
open PySem PySem.W PySem.Calls PyProof.Rows
theorem ints_of_wellAll {P:Params}{h:Heap}:∀ (ns:List Int) (vs:List Value),WellAll P h vs (ns.map WData.int)→IntsAre vs ns:=by
 intro ns
 induction ns with
 | nil=>
  intro vs w
  rw [List.map_nil] at w
  cases w
  exact .nil
 | cons n ns ih=>
  intro vs w
  rw [List.map_cons] at w
  cases w with
  | cons a b=>
   cases a
   exact .cons _ _ (ih _ b)
theorem script_of {l:OpenLaw}{n:Nat}(hn:l.most=some n){P:Params}{h:Heap}{args:List WData}{vals:List Value}
  (hpre:l.row.toRowW.claim.pre args=true) (hwl:WellAll P h vals args):
  ∃ a vs ns,vals=[Value.ref a]∧args=[WData.list (ns.map WData.int)]∧h.get? a=some { cls:=.type "list",data:=.seq vs.toArray }∧IntsAre vs ns∧ns.length≤n:=by
 have hsh:WShape.hasAll [] args [.list .int]=true:=(pre_splitW hpre).1
 have hc:l.pre.holds [] { args:=args }=true:=(pre_splitW hpre).2
 obtain⟨d,r,rfl,h1,h2⟩:=hasAllW_cons hsh
 obtain rfl:=hasAllW_nil h2
 obtain⟨xs,rfl,h3⟩:=hasW_list h1
 obtain⟨ns,rfl⟩:=items_int h3
 have hlen:ns.length≤n:=by
  unfold OpenLaw.pre at hc
  have h4:(WTm.not (.lt (.lit (.int (n:Int))) (.len (.arg 0)))).holds [] { args:=[.list (ns.map .int)] }=true:=by
   have h4:=(holds_andW hc).1
   rw [hn] at h4
   exact h4
  have h5:=condW_of h4 (w_not (w_lt w_lit (w_len_list (w_arg rfl))))
  rw [List.length_map] at h5
  refine Nat.le_of_not_lt fun q=>?_
  have q':(n:Int) < ((ns.length:Nat):Int):=by omega
  first
   | (rw [decide_eq_true q'] at h5;exact absurd h5 (by decide))
   | (simp at h5;omega)
 cases hwl with
 | cons w1 w2=>
  cases w2
  cases w1 with
  | list ho hall=>exact⟨_,_,ns,rfl,rfl,ho,ints_of_wellAll ns _ hall,hlen⟩
theorem post_true (l:OpenLaw) (args:List WData):l.row.toRowW.claim.post args (.bool true) args=true:=
 postW_of (r:=l.row.toRowW) (X:=(true == true))
  (show WShape.has [] (.bool true) .bool=true by first | rfl | decide | simp [WShape.has,WShape.arms,WShape.armsAll])
  (show (WTm.eq .res (.lit (.bool true))).value [] { args:=args,res:=some (.bool true),after:=args }=some (.bool (true == true)) from w_eq_bool (w_res rfl) w_lit) rfl
section
variable {prog:Program}{w:World}{A:Around}{E:Value→Shared→Prop}{s:Shared}{K:Frag}
end
end Att
namespace L2
open PySem PySem.Spec PyProof.Rows
theorem vals_ints:∀ {vs:List Value}{ns:List Int},IntsAre vs ns→Vals (ns.map V.int) vs
 | _,_,.nil=>.nil
 | _,_,.cons n t h=>.cons ⟨t,rfl⟩ (vals_ints h)
def Only (H:Hp):Prop:=∀ b,H b=none∨∃ o xs,H b=some (.frz o (.lst xs))
theorem law_call {P:Program}{w:World}{K:PySem.W.Frag}{mg mb:Str→Option Value}{CX:CXT}{k:Nat}{fa a:Addr}{fd:FuncData}{x:Str}{sp:Sp}{s₁:Shared}{vs:List Value}{ns:List Int}
  (KX:K.In s₁.heap) (hns:s₁.heap.Ns mainGlobals mg) (hb:s₁.heap.Ns builtinsNs mb) (hbb:∀ x:Str,x≠"__name__"→mb x=bootBuiltins x) (hlim:s₁.heap.NoLimit) (hg:s₁.gens=#[])
  (ha:s₁.heap.get? a=some { cls:=.type "list",data:=.seq vs.toArray }) (hi:IntsAre vs ns) (hl:ns.length≤sizeLine) (hr:Room k callerA)
  (F:∀ base:Heap,K.In base→base.Ns mainGlobals mg→FnOk P w K mg base CX k fa fd [x] sp) (hbind:∀ (s:Shared) (u:Value),BindsTo s fd ⟨[u],[]⟩ [(x,u)])
  (hsp:∀ H:Hp,Only H→SqL K H a (ns.map V.int)→sp [.ref a] H (fun v _=>v=.bl true) fun _ _ _=>False)
  (hCX:∀ H e s',CX [] H s₁ (fun _ _ _=>False) e s'→False):
  codeAny (model P w) callerA (.call (.ref fa) ⟨[.ref a],[]⟩) (fun r s'=>r=.ok (.ret (.bool true))∧OldK s₁.heap s'.heap∧s'.os=s₁.os∧AllBare s'.gens) s₁:=by
 have rv:=vals_ints hi
 have lenV:=hi.length
 have core:∀ H:Hp,Only H→SqL K H a (ns.map V.int)→HOk P w H s₁.heap→(∀ b,H b≠none→b=a)→(H a≠none→K.lookup a=none)→
   codeAny (model P w) callerA (.call (.ref fa) ⟨[.ref a],[]⟩) (fun r s'=>r=.ok (.ret (.bool true))∧OldK s₁.heap s'.heap∧s'.os=s₁.os∧AllBare s'.gens) s₁:=by
  intro H hO hS hok hA hK
  have base_of:∀ {b:Addr}{o:Obj},s₁.heap.get? b=some o→H b=none→(hidT s₁.heap H).get? b=some o:=fun e n=>hidT_get e n
  have noA:∀ {b:Addr}{o:Obj}{es:Array DictEntry}{ep:Nat},s₁.heap.get? b=some o→o.data=.dict es ep→H b=none:=fun{b o es ep} e d=>by
   cases q:H b with
   | none=>rfl
   | some u=>
    have e':b=a:=hA b (by rw [q];simp)
    subst e'
    rw [ha] at e;cases e
    have d':Data.seq vs.toArray _=Data.dict es ep:=d
    cases d'
  have nsK:∀ {b:Addr}{m:Str→Option Value},s₁.heap.Ns b m→(hidT s₁.heap H).Ns b m:=fun{b m} ⟨o,es,ep,e,d,r⟩=>⟨o,es,ep,base_of e (noA e d),d,r⟩
  have hKb:K.In (hidT s₁.heap H):=fun b o e=>base_of (KX b o e) (by
   cases q:H b with
   | none=>rfl
   | some u=>
    have e':b=a:=hA b (by rw [q];simp)
    subst e'
    rw [hK (by rw [q];simp)] at e;cases e)
  have hM:Mod K mg (hidT s₁.heap H):=⟨hKb,nsK hns,⟨mb,nsK hb,hbb⟩,let ⟨mc,h1,h2⟩:=hlim;⟨mc,nsK h1,h2⟩⟩
  have e0:Env0 P w K mg (hidT s₁.heap H) callerA [] s₁ H:=⟨rfl,hM,fun b o e=>of_hidT e,Nat.le_of_eq (hidT_size _ _),trivial,fun b hb=>absurd (show b∈([]:List Addr) from hb) (by simp),hok,.of_eq hg⟩
  refine codeAny_mono ((F _ hKb (nsK hns)).run callerA [] s₁ H ⟨[.ref a],[]⟩ [.ref a] [.ref a] _ _ hr e0 (hbind s₁ (.ref a)) (.cons rfl .nil) (hsp H hO hS)) fun r s' h=>?_
  cases r with
  | error e=>exact(hCX H e s' h).elim
  | ok fl=>
   cases fl with
   | next=>exact False.elim h
   | brk=>exact False.elim h
   | cont=>exact False.elim h
   | ret u=>
    obtain⟨v,H',os,bare,un,hok',r',q⟩:=h
    have q':v=.bl true:=q
    subst q'
    obtain rfl:u=Value.bool true:=r'
    refine⟨rfl,OldK.of_keep fun b o e=>?_,os,bare⟩
    cases q:H b with
    | none=>exact un.keep b o e q (by intro z;exact absurd (show b∈([]:List Addr) from z) (by simp)) (by simp)
    | some u=>
     rcases hO b with z | ⟨ob,xs,z⟩
     ·rw [q] at z;cases z
     ·have z2:=un.frzs b ob _ z
      obtain⟨e1,_⟩:=hok b _ z
      obtain⟨e2,_⟩:=hok' b _ z2
      rw [e] at e1;cases e1
      exact e2
 cases hk:K.lookup a with
 | some o=>
  have e:=KX a o hk
  rw [ha] at e
  cases e
  refine core (fun _=>none) (fun _=>.inl rfl) (.inr ⟨_,vs.toArray,_,hk,rfl,rfl,rfl,by rw [List.size_toArray,lenV];exact hl,by simpa using rv⟩) (fun b u z=>by have z':(none:Option HO)=some u:=z;cases z') (fun b z=>absurd rfl z) fun z=>absurd rfl z
 | none=>
  refine core (fun b=>if b=a then some (.frz { cls:=.type "list",data:=.seq vs.toArray } (.lst (ns.map V.int))) else none) (fun b=>?_) (.inl (.inr ⟨{ cls:=.type "list",data:=.seq vs.toArray },if_pos rfl⟩)) (fun b u z=>?_) (fun b z=>?_) fun _=>hk
  ·by_cases hb:b=a
   ·exact .inr ⟨_,_,if_pos hb⟩
   ·exact .inl (if_neg hb)
  ·by_cases hb:b=a
   ·have z':=(if_pos hb).symm.trans z
    cases z'
    subst hb
    exact⟨ha,by rw [List.length_map];exact hl,vs,_,rv,ha⟩
   ·have z':=(if_neg hb).symm.trans z
    cases z'
  ·by_cases hb:b=a
   ·exact hb
   ·exact absurd (if_neg hb) z
end L2
namespace L2
open PySem PySem.Spec PyProof.Rows
end L2
namespace L2
open PySem PySem.Spec PyProof.Rows
def inClass (s:Stmt) (j:Nat):Stmt:=match s with
 | .ClassDef _ _ _ body _ _ _ _ _ _ _=>body.getD j (.Pass ⟨0,0,0,0⟩)
 | _=>.Pass ⟨0,0,0,0⟩
def defArgs (s:Stmt):Arguments:=match s with
 | .FunctionDef _ a _ _ _ _ _ _ _ _=>a
 | _=>{ posonlyargs:=[],args:=[],vararg:=none,kwonlyargs:=[],kw_defaults:=[],kwarg:=none,defaults:=[] }
def defBody (s:Stmt):List Stmt:=match s with
 | .FunctionDef _ _ b _ _ _ _ _ _ _=>b
 | _=>[]
def defScope (s:Stmt):Scope:=match s with
 | .FunctionDef _ _ _ _ _ _ sc _ _ _=>sc
 | _=>{ kind:=.function,names:=[],isGenerator:=false,isCoroutine:=false }
abbrev CX0:CXT:=fun _ _ _ _ _ _=>False
abbrev E0:XK:=fun _ _ _=>False
theorem pass0 {X:Cx}:Passes CX0 X E0:=fun _ _ _ _ _ _ _ h=>h.elim
structure Fun (K:PySem.W.Frag) (x qual:Str) (st:Stmt) (f:Addr) (fd:FuncData):Prop where
 ex:∃ (oc:Value) (od:Option Addr) (kV doc pm:Value) (an:Option Addr) (cdv ct:Value) (osl:Array (Option Value)),
  fd=PySem.W.fnOf x qual (defArgs st) (defBody st) (defScope st) .none kV doc pm an cdv ct∧K.lookup f=some ⟨oc,od,.func fd,osl⟩∧PySem.W.codeIn K cdv qual=true
 kp:PySem.W.keepIn K (.ref f)=true
section
variable {P:Program}{w:World}{K:PySem.W.Frag}{mg:Str→Option Value}{base:Heap}
theorem Fun.ok {x qual:Str}{st:Stmt}{f:Addr}{fd:FuncData}{N ps:List Str}{k:Nat}{sp:Sp}(F:Fun K x qual st f fd) (S:FnScope N ps (defScope st)) (len:∀ vs H Q E,sp vs H Q E→vs.length=ps.length)
  (hbody:∀ (cdv:Value) (A:Around) (outer:List Env) (s:Shared) (H:Hp) (vs:List V) (Q:VK) (E:XK),Room k (A.deeper (envOfC qual (defScope st) s.heap.objs.size f cdv))→sp vs H Q E→
   ∃ t,PSs (cxOf CX0 P w K mg base N qual (defScope st) f cdv A outer s H E).nox (defBody st) t∧t { nx:=fun _ H'=>Q .non H',rt:=Q } (start N vs) H):FnOk P w K mg base CX0 (k + 1) f fd ps sp:=by
 obtain⟨oc,od,kV,doc,pm,an,cdv,ct,osl,rfl,lk,hcd⟩:=F.ex
 refine fn_of lk hcd S len fun A outer s H vs Q E hr hsp=>?_
 obtain⟨t,h,q⟩:=hbody cdv A outer s H vs Q E hr hsp
 exact⟨t,h.nox,q⟩
theorem Fun.binds {x qual:Str}{st:Stmt}{f:Addr}{fd:FuncData}{ps:List Str}(F:Fun K x qual st f fd)
  (h:∀ (kV doc pm:Value) (an:Option Addr) (cdv ct:Value) (us:List Value),us.length=ps.length→bindArgs (PySem.W.fnOf x qual (defArgs st) (defBody st) (defScope st) .none kV doc pm an cdv ct) ⟨us,[]⟩=pure (ps.zip us)):Binds K fd ps []:=by
 obtain⟨oc,od,kV,doc,pm,an,cdv,ct,osl,rfl,lk,hcd⟩:=F.ex
 exact .all (h kV doc pm an cdv ct)
theorem fun_mk {x qual:Str}{st:Stmt}{f:Addr}{oc:Value}{od an:Option Addr}{osl:Array (Option Value)}{kV doc pm cdv ct:Value}(l:K.lookup f=some ⟨oc,od,.func (PySem.W.fnOf x qual (defArgs st) (defBody st) (defScope st) .none kV doc pm an cdv ct),osl⟩)
  (c:PySem.W.codeIn K cdv qual=true) (k:PySem.W.keepIn K (.ref f)=true):Fun K x qual st f (PySem.W.fnOf x qual (defArgs st) (defBody st) (defScope st) .none kV doc pm an cdv ct):=⟨⟨oc,od,kV,doc,pm,an,cdv,ct,osl,rfl,l,c⟩,k⟩
end
section
variable {X:Cx}
theorem pv (i:Nat){x:Str}{pos:Pos}(hN:X.N[i]?=some x:=by rfl) (hv:Vis X.env.scope x:=by first | exact Or.inl rfl | exact Or.inr (Or.inl rfl) | exact Or.inr (Or.inr rfl)) (hd:(x == ("__debug__":Str))=false:=by decide)
  (hcd:(x == ("__classdict__":Str))=false:=by decide):PE X (.Name x pos) (tVar i):=pe_var hN hv hd hcd
end
def Same (H H':Hp):Prop:=∀ b o,H b=some o→H' b=some o
theorem Same.refl (H:Hp):Same H H:=fun _ _ h=>h
theorem Same.trans {H H1 H2:Hp}(a:Same H H1) (b:Same H1 H2):Same H H2:=fun c o h=>b c o (a c o h)
theorem Same.free {H H':Hp}(e:Same H H'){l:Addr}(h:H' l=Option.none):H l=Option.none:=by
 cases q:H l with
 | none=>rfl
 | some o=>
  rw [e l o q] at h
  cases h
theorem Same.seq {K:PySem.W.Frag}{H H':Hp}{a:Addr}{xs:List V}(e:Same H H') (h:SqL K H a xs):SqL K H' a xs:=by
 rcases h with (h | ⟨o,h⟩) | h
 ·exact .inl (.inl (e _ _ h))
 ·exact .inl (.inr ⟨o,e _ _ h⟩)
 ·exact .inr h
end L2
set_option Elab.async false
set_option linter.all false
set_option maxRecDepth 100000
namespace L2
open PySem PySem.Spec PyProof.Rows
section
variable {κ:Type} [DecidableEq κ]
def valV (kvs:List (κ × V)) (k:κ):Option V:=(kvs.find? fun kv=>decide (kv.1=k)).map (·.2)
def putK (kvs:List (κ × V)) (k:κ) (v:V):List (κ × V):=
 if (kvs.any fun kv=>decide (kv.1=k))=true then kvs.map (fun kv=>if kv.1=k then(kv.1,v) else kv) else kvs++[(k,v)]
def dropK (kvs:List (κ × V)) (k:κ):List (κ × V):=kvs.filter fun kv=>decide (kv.1≠k)
theorem valV_pos {p:κ × V}{r:List (κ × V)}{k:κ}(e:p.1=k):valV (p::r) k=some p.2:=by simp [valV,List.find?_cons,e]
theorem valV_neg {p:κ × V}{r:List (κ × V)}{k:κ}(e:¬ p.1=k):valV (p::r) k=valV r k:=by simp [valV,List.find?_cons,e]
theorem valV_any (k:κ):∀ kvs:List (κ × V),(kvs.any fun kv=>decide (kv.1=k))=(valV kvs k).isSome
 | []=>rfl
 | p::r=>by
  rw [List.any_cons]
  by_cases e:p.1=k
  ·simp only [valV_pos e,decide_eq_true e,Bool.true_or,Option.isSome_some]
  ·rw [valV_neg e,decide_eq_false e,Bool.false_or];exact valV_any k r
theorem length_putK (kvs:List (κ × V)) (k:κ) (v:V):(putK kvs k v).length≤kvs.length + 1:=by
 unfold putK
 split
 ·rw [List.length_map];omega
 ·rw [List.length_append,List.length_cons,List.length_nil];omega
theorem RelO.isSome_eq {o:Option V}{u:Option Value}(r:RelO o u):o.isSome=u.isSome:=by
 cases o with
 | none=>cases u with
  | none=>rfl
  | some _=>exact(show False from r).elim
 | some _=>cases u with
  | none=>exact(show False from r).elim
  | some _=>rfl
theorem KV.val {kvs:List (κ × V)}{vs:List (κ × Value)} (r:KV kvs vs) (k:κ):RelO (valV kvs k) (valueAt vs k):=by
 unfold KV at r
 induction r with
 | nil=>exact True.intro
 | @cons p q ps qs h t ih=>
  obtain⟨h1,h2⟩:=h
  by_cases e:p.1=k
  ·have e':q.1=k:=h1.symm.trans e
   have b:valueAt (q::qs) k=some q.2:=by simp [valueAt,List.find?_cons,e']
   rw [valV_pos e,b];exact h2
  ·have e':¬ q.1=k:=fun z=>e (h1.trans z)
   have b:valueAt (q::qs) k=valueAt qs k:=by simp [valueAt,List.find?_cons,e']
   rw [valV_neg e,b];exact ih
theorem KV.any {kvs:List (κ × V)}{vs:List (κ × Value)} (r:KV kvs vs) (k:κ):(kvs.any fun kv=>decide (kv.1=k))=vs.any fun kv=>decide (kv.1=k):=by
 unfold KV at r
 induction r with
 | nil=>rfl
 | cons h t ih=>rw [List.any_cons,List.any_cons,ih,h.1]
theorem KV.repl {kvs:List (κ × V)}{vs:List (κ × Value)} (r:KV kvs vs) (k:κ){y:V}{u:Value}(ry:RelV y u):
  KV (kvs.map fun kv=>if kv.1=k then(kv.1,y) else kv) (vs.map fun kv=>if kv.1=k then(kv.1,u) else kv):=by
 unfold KV at r ⊢
 induction r with
 | nil=>exact .nil
 | @cons p q ps qs h t ih=>
  rw [List.map_cons,List.map_cons]
  refine .cons ?_ ih
  obtain⟨h1,h2⟩:=h
  by_cases e:p.1=k
  ·rw [if_pos e,if_pos (h1.symm.trans e)];exact⟨h1,ry⟩
  ·rw [if_neg e,if_neg (fun z=>e (h1.trans z))];exact⟨h1,h2⟩
theorem KV.put {kvs:List (κ × V)}{vs:List (κ × Value)} (r:KV kvs vs) (k:κ){y:V}{u:Value}(ry:RelV y u):KV (putK kvs k y) (stored vs k u):=by
 unfold putK stored
 rw [r.any k]
 by_cases e:(vs.any fun kv=>decide (kv.1=k))=true
 ·rw [if_pos e,if_pos e];exact r.repl k ry
 ·rw [if_neg e,if_neg e];exact Paired.snoc r ⟨rfl,ry⟩
theorem KV.drop {kvs:List (κ × V)}{vs:List (κ × Value)} (r:KV kvs vs) (k:κ):KV (dropK kvs k) (without vs k):=by
 unfold KV at r ⊢
 unfold dropK without
 induction r with
 | nil=>exact .nil
 | @cons p q ps qs h t ih=>
  obtain⟨h1,h2⟩:=h
  rw [List.filter_cons,List.filter_cons]
  by_cases e:p.1=k
  ·have a:¬ decide (p.1≠k)=true:=by simp [e]
   have b:¬ decide (q.1≠k)=true:=by simp [h1.symm.trans e]
   rw [if_neg a,if_neg b];exact ih
  ·have e':¬ q.1=k:=fun z=>e (h1.trans z)
   have a:decide (p.1≠k)=true:=by simp [e]
   have b:decide (q.1≠k)=true:=by simp [e']
   rw [if_pos a,if_pos b];exact .cons ⟨h1,h2⟩ ih
theorem KV.length {kvs:List (κ × V)}{vs:List (κ × Value)} (r:KV kvs vs):kvs.length=vs.length:=Paired.length r
theorem dropK_le (kvs:List (κ × V)) (k:κ):(dropK kvs k).length≤kvs.length:=List.length_filter_le _ _
end
theorem kV_is {P:Program}{w:World}{k:Key}{u:Value}(r:RelV (kV k) u):(mixKind P w).is k u=true:=by
 cases k with
 | inl i=>obtain⟨t,e⟩:=(show ∃ t,u=Value.int i t from r);subst e;exact mixKind_int P w i t
 | inr x=>obtain⟨t,e⟩:=(show ∃ t,u=Value.str x t from r);subst e;exact mixKind_str P w x t
theorem items_are {P:Program}{w:World}:∀ {ks:List Key}{us:List Value},Vals (ks.map kV) us→ItemsAre (mixKind P w) ks us
 | [],_,r=>by rw [List.map_nil] at r;cases r;exact .nil
 | k::ks,_,r=>by
  rw [List.map_cons] at r
  cases r with
  | cons h t=>exact .cons (kV_is h) (items_are t)
abbrev KT (H:Hp):List (List Key × V)→List (List Key × Addr × Value)→Prop:=Paired fun p q=>p.1=q.1∧H q.2.1=some (.tup (p.1.map kV))∧RelV p.2 q.2.2
theorem KT.val {H:Hp}{kvs:List (List Key × V)}{xs:List (List Key × Addr × Value)} (r:KT H kvs xs) (k:List Key):RelO (valV kvs k) ((atKey xs k).map (·.2)):=by
 induction r with
 | nil=>exact True.intro
 | @cons p q ps qs h t ih=>
  obtain⟨h1,_,h2⟩:=h
  by_cases e:p.1=k
  ·have e':q.1=k:=h1.symm.trans e
   have b:atKey (q::qs) k=some q.2:=by simp [atKey,List.find?_cons,e']
   rw [valV_pos e,b];exact h2
  ·have e':¬ q.1=k:=fun z=>e (h1.trans z)
   have b:atKey (q::qs) k=atKey qs k:=by simp [atKey,List.find?_cons,e']
   rw [valV_neg e,b];exact ih
theorem KT.repl {H:Hp}{kvs:List (List Key × V)}{xs:List (List Key × Addr × Value)} (r:KT H kvs xs) (k:List Key){y:V}{u:Value}(ry:RelV y u):
  KT H (kvs.map fun kv=>if kv.1=k then(kv.1,y) else kv) (xs.map (putAt k u)):=by
 induction r with
 | nil=>exact .nil
 | @cons p q ps qs h t ih=>
  rw [List.map_cons,List.map_cons]
  refine .cons ?_ ih
  obtain⟨h1,h2,h3⟩:=h
  unfold putAt
  by_cases e:p.1=k
  ·rw [if_pos e,if_pos (h1.symm.trans e)];exact⟨h1,h2,ry⟩
  ·rw [if_neg e,if_neg (fun z=>e (h1.trans z))];exact⟨h1,h2,h3⟩
theorem KT.put {H:Hp}{kvs:List (List Key × V)}{xs:List (List Key × Addr × Value)} (r:KT H kvs xs) (k:List Key){b:Addr}{y:V}{u:Value}(hb:H b=some (.tup (k.map kV))) (ry:RelV y u):
  KT H (putK kvs k y) (storedH xs k b u):=by
 have e:(kvs.any fun kv=>decide (kv.1=k))=(atKey xs k).isSome:=by
  rw [valV_any,(r.val k).isSome_eq,Option.isSome_map]
 unfold putK storedH
 rw [e]
 by_cases q:(atKey xs k).isSome=true
 ·rw [if_pos q,if_pos q];exact r.repl k ry
 ·rw [if_neg q,if_neg q];exact Paired.snoc r ⟨rfl,hb,ry⟩
theorem KT.keeps {H H':Hp}{kvs:List (List Key × V)}{xs:List (List Key × Addr × Value)} (r:KT H kvs xs) (ht:∀ b ys,H b=some (.tup ys)→H' b=some (.tup ys)):KT H' kvs xs:=
 Paired.mapP r fun _ _ z=>⟨z.1,ht _ _ z.2.1,z.2.2⟩
section
variable {P:Program}{w:World}{H:Hp}{h:Heap}{a:Addr}
theorem rd_of {u:HO}(ok:HOk P w H h) (e:Rd H a u):ObjOk P w H h a u:=e.ok ok
theorem dk_rd {kvs:List (Key × V)} (ok:HOk P w H h) (e:Rd H a (.dK kvs)):kvs.length≤sizeLine∧(a == sysModules)=false∧∃ vs,KV kvs vs∧h.DictOf (mixKind P w) a vs:=
 show ObjOk P w H h a (.dK kvs) from rd_of ok e
theorem dk_of {kvs:List (Key × V)} (ok:HOk P w H h) (e:H a=some (.dK kvs)):kvs.length≤sizeLine∧(a == sysModules)=false∧∃ vs,KV kvs vs∧h.DictOf (mixKind P w) a vs:=dk_rd ok (.inl e)
theorem key_of {ks:List Key}(ok:HOk P w H h) (e:H a=some (.tup (ks.map kV))):(tupleKind (mixKind P w)).is h ks a:=by
 obtain⟨_,its,r,o,h1,h2,n,h3⟩:=(show ObjOk P w H h a (.tup (ks.map kV)) from ok a _ e)
 exact⟨o,its.toArray,n,h1,h2,h3,by simpa using items_are r⟩
theorem dt_rd {kvs:List (List Key × V)} (ok:HOk P w H h) (e:Rd H a (.dT kvs)):kvs.length≤sizeLine∧(a == sysModules)=false∧
  ∃ xs,KT H kvs xs∧h.DictOfH (tupleKind (mixKind P w)) a xs:=by
 obtain⟨z,y,xs,r,o,es,ep,h1,h2,h3,h4,h5⟩:=(show ObjOk P w H h a (.dT kvs) from rd_of ok e)
 refine⟨z,y,xs,r,o,es,ep,h1,h2,h3,h4,fun x hx=>?_,h5⟩
 have all:∀ {l:List (List Key × V)}{m:List (List Key × Addr × Value)},KT H l m→∀ x∈m,(tupleKind (mixKind P w)).is h x.1 x.2.1:=by
  intro l m q
  induction q with
  | nil=>intro x hx;exact nomatch hx
  | @cons p q ps qs hq t ih=>
   intro x hx
   rcases List.mem_cons.mp hx with e | hx
   ·subst e
    exact key_of ok (by rw [← hq.1];exact hq.2.1)
   ·exact ih x hx
 exact all r x hx
theorem dt_of {kvs:List (List Key × V)} (ok:HOk P w H h) (e:H a=some (.dT kvs)):kvs.length≤sizeLine∧(a == sysModules)=false∧
  ∃ xs,KT H kvs xs∧h.DictOfH (tupleKind (mixKind P w)) a xs:=dt_rd ok (.inl e)
end
def DGet (H:Hp) (a:Addr) (y:V) (r:Option V):Prop:=
 (∃ kvs k,Rd H a (.dK kvs)∧y=kV k∧r=valV kvs k)∨∃ kvs k b,Rd H a (.dT kvs)∧y=.ref b∧H b=some (.tup (k.map kV))∧r=valV kvs k
def DPut (H:Hp) (a:Addr) (y v:V) (H':Hp):Prop:=
 (∃ kvs k,H a=some (.dK kvs)∧y=kV k∧kvs.length < sizeLine∧H'=upd H a (.dK (putK kvs k v)))∨
 ∃ kvs k b,H a=some (.dT kvs)∧y=.ref b∧H b=some (.tup (k.map kV))∧kvs.length < sizeLine∧H'=upd H a (.dT (putK kvs k v))
theorem DGet.k {H:Hp}{a:Addr}{kvs:List (Key × V)}{k:Key}(e:H a=some (.dK kvs)):DGet H a (kV k) (valV kvs k):=.inl ⟨kvs,k,.inl e,rfl,rfl⟩
theorem DPut.k {H:Hp}{a:Addr}{kvs:List (Key × V)}{k:Key}{v:V}(e:H a=some (.dK kvs)) (hl:kvs.length < sizeLine):DPut H a (kV k) v (upd H a (.dK (putK kvs k v))):=.inl ⟨kvs,k,e,rfl,hl,rfl⟩
section
variable {X:Cx}{pins:List (Addr × Obj)}{σ:St}{H:Hp}{s:Shared}{a:Addr}{y v:V}{u r:Value}{o:Option V}{A:Around}{E:Value→Shared→Prop}
theorem Inv.big (I:Inv X pins σ H s):sysModules < s.heap.objs.size:=by
 have h:mainGlobals < s.heap.objs.size:=(I.mod.glob.keeps I.bk).lt
 exact Nat.lt_trans (by decide) h
theorem d_getItem {Q:Value→Shared→Prop}(hu:A.units + 1 < cLine) (I:Inv X pins σ H s) (g:DGet H a y (some v)) (ry:RelV y u) (h:∀ w' s',Inv X pins σ H s'→RelV v w'→Q w' s'):
  wpAny (model X.prog X.w) A (getItem (.ref a) u) Q E s:=by
 rcases g with ⟨kvs,k,e,ey,l⟩ | ⟨kvs,k,b,e,ey,eb,l⟩
 ·subst ey
  obtain⟨z,hd,vs,rel,dd⟩:=dk_rd I.hok e
  obtain⟨w',hw,rw'⟩:=RelO.some_of (v:=v) (o:=valueAt vs k) (by rw [l];exact rel.val k)
  exact wpAny_getItem_of (kV_is ry) dd.mapOf hw (h w' _ (I.tok _) rw')
 ·subst ey
  cases (show u=Value.ref b from ry)
  obtain⟨z,hd,xs,rel,dd⟩:=dt_rd I.hok e
  obtain⟨w',hw,rw'⟩:=RelO.some_of (v:=v) (o:=(atKey xs k).map (·.2)) (by rw [l];exact rel.val k)
  obtain⟨p,hp,hp2⟩:=Option.map_eq_some_iff.mp hw
  refine wpAny_getItem_heap (tupleKind_room_in1 hu) (key_of I.hok eb) dd hp ?_
  rw [hp2]
  exact h w' _ (I.tok _) rw'
theorem d_notIn {Q:Value→Shared→Prop}(hu:A.units + 1 < cLine) (I:Inv X pins σ H s) (g:DGet H a y o) (ry:RelV y u) (h:∀ s',Inv X pins σ H s'→Q (.bool (!o.isSome)) s'):
  wpAny (model X.prog X.w) A (compareOp .NotIn u (.ref a)) Q E s:=by
 rcases g with ⟨kvs,k,e,ey,l⟩ | ⟨kvs,k,b,e,ey,eb,l⟩
 ·subst ey
  obtain⟨z,hd,vs,rel,dd⟩:=dk_rd I.hok e
  refine wpAny_notIn_of (kV_is ry) hd dd.mapOf ?_
  rw [← (rel.val k).isSome_eq,← l]
  exact h _ (I.tok _)
 ·subst ey
  cases (show u=Value.ref b from ry)
  obtain⟨z,hd,xs,rel,dd⟩:=dt_rd I.hok e
  refine wpAny_notIn_heap (tupleKind_room_in1 hu) (key_of I.hok eb) hd dd ?_
  have q:=(rel.val k).isSome_eq
  rw [Option.isSome_map] at q
  rw [← q,← l]
  exact h _ (I.tok _)
theorem d_write {h':Heap}{t':Nat}{ob:HO}(I:Inv X pins σ H s) (mu:Mut (H a)) (hs:Heap.SameBut a s.heap h') (he:∃ q,h'.get? a=some q) (new:ObjOk X.prog X.w (upd H a ob) h' a ob):
  Inv X pins σ (upd H a ob) { s with heap:=h',toks:=t' }:=
 I.write (x:=a) (e:=a) mu (.inl rfl) (fun b q hb z=>(hs.2 b hb).trans z) he new
theorem dk_new {P:Program}{w:World}{H':Hp}{h':Heap}{kvs:List (Key × V)}{vs:List (Key × Value)} (z:kvs.length≤sizeLine) (hd:(a == sysModules)=false) (rel:KV kvs vs) (dd:h'.DictOf (mixKind P w) a vs):
  ObjOk P w H' h' a (.dK kvs):=⟨z,hd,vs,rel,dd⟩
theorem d_setItem {H':Hp}{Q:Unit→Shared→Prop}(hu:A.units + 1 < cLine) (I:Inv X pins σ H s) (g:DPut H a y v H') (ry:RelV y u) (rv:RelV v r) (h:∀ s',Inv X pins σ H' s'→Q () s'):
  wpAny (model X.prog X.w) A (setItem (.ref a) u r) Q E s:=by
 rcases g with ⟨kvs,k,e,ey,l,eH⟩ | ⟨kvs,k,b,e,ey,eb,l,eH⟩
 ·subst ey eH
  obtain⟨z,hd,vs,rel,dd⟩:=dk_of I.hok e
  have hz:vs.length≤sizeLine:=by rw [← rel.length];exact z
  have hl:(putK kvs k v).length≤sizeLine:=by have:=length_putK kvs k v;omega
  refine wpAny_setItem_pairs (hsz:=hz) (kV_is ry) dd fun h' dd' hs=>h _ ?_
  have he:∃ q,h'.get? a=some q:=let ⟨q,_,_,hq,_⟩:=dd';⟨q,hq⟩
  exact d_write I (by rw [e];exact True.intro) hs he (dk_new hl hd (rel.put k rv) dd')
 ·subst ey eH
  cases (show u=Value.ref b from ry)
  obtain⟨z,hd,xs,rel,dd⟩:=dt_of I.hok e
  have hz:xs.length≤sizeLine:=by rw [← Paired.length rel];exact z
  have hl:(putK kvs k v).length≤sizeLine:=by have:=length_putK kvs k v;omega
  refine wpAny_setItem_heap (hsz:=hz) (tupleKind_room_in1 hu) (key_of I.hok eb) dd fun h' dd' hs=>h _ ?_
  obtain⟨q,es,ep,hq,h2,h3,h4,_,h5⟩:=dd'
  refine d_write I (by rw [e];exact True.intro) hs ⟨q,hq⟩ ⟨hl,hd,_,(rel.put k eb rv).keeps fun c ys ec=>?_,q,es,ep,hq,h2,h3,h4,h5⟩
  rw [upd_ne (ne_of ec e (fun z=>nomatch z))]
  exact ec
end
section
variable {X:Cx}{pins:List (Addr × Obj)}{σ:St}{H:Hp}{s:Shared}{a:Addr}{kvs:List (Key × V)}{k:Key}{u:Value}{A:Around}{E:Value→Shared→Prop}
theorem d_pop {v:V}{more:List Value}{Q:Value→Shared→Prop}(I:Inv X pins σ H s) (e:H a=some (.dK kvs)) (ry:RelV (kV k) u) (l:valV kvs k=some v) (hm:more=[]∨∃ x,more=[x])
  (h:∀ w' s',Inv X pins σ (upd H a (.dK (dropK kvs k))) s'→RelV v w'→Q w' s'):wpAny (model X.prog X.w) A (call (.builtin "dict.pop") (.ref a::u::more)) Q E s:=by
 obtain⟨z,hd,vs,rel,dd⟩:=dk_of I.hok e
 obtain⟨w',hw,rw'⟩:=RelO.some_of (v:=v) (o:=valueAt vs k) (by rw [← l];exact rel.val k)
 have hp:(keyPart u).isSome=true:=by
  cases k with
  | inl i=>obtain⟨t,q⟩:=(show ∃ t,u=Value.int i t from ry);subst q;rfl
  | inr x=>obtain⟨t,q⟩:=(show ∃ t,u=Value.str x t from ry);subst q;rfl
 have ha:argsOk "dict.pop" ⟨.ref a::u::more,[]⟩:=by
  rcases hm with q | ⟨x,q⟩
  ·subst q;exact PySem.F.args_dict_pop_2 _ _
  ·subst q;exact PySem.F.args_dict_pop_3 _ _ _
 refine call_meetsIn PySem.F.slot_dict_pop dd.typeIs PySem.F.entry_dict_pop ha (meets_dict_pop_there (mixKind X.prog X.w) a (kV_is ry) more hm hp)
  ⟨vs,w',dd,by rw [← rel.length];exact z,hw,fun h' dd' hs=>h w' _ ?_ rw'⟩
 have he:∃ q,h'.get? a=some q:=let ⟨q,_,_,hq,_⟩:=dd';⟨q,hq⟩
 exact d_write I (by rw [e];exact True.intro) hs he (dk_new (Nat.le_trans (dropK_le kvs k) z) hd (rel.drop k) dd')
theorem d_len {Q:Value→Shared→Prop}(I:Inv X pins σ H s) (e:Rd H a (.dK kvs)) (h:∀ t s',Inv X pins σ H s'→Q (.int kvs.length t) s'):wpAny (model X.prog X.w) A (call (.builtin "len") [.ref a]) Q E s:=by
 obtain⟨z,hd,vs,rel,dd⟩:=dk_rd I.hok e
 refine call_len_dict hd dd (by rw [← rel.length];rw [sizeLine_eq] at z;omega) ?_
 rw [← rel.length]
 exact h _ _ (I.tok _)
end
def NoSl (i:Expr):Prop:=∀ ov iv,subscripted i false ov iv=operate [ov,iv] (getItem ov iv)
theorem subD_of {prog:Program}{w:World}{A:Around}{E:Value→Shared→Prop}{s:Shared}{env:Env}{value slice:Expr}{pos:Pos}{T id:String}{Q:Value→Shared→Prop}
  (hl:typeLookup (.type T) "__getitem__"=pure (some (.builtin id))) (hs:NoSl slice)
  (h:wpAny (model prog w) A (eval value env) (fun o s₁=>wpAny (model prog w) A (eval slice env) (fun i s₂=>s₂.TypeIs o T∧wpAny (model prog w) A (getItem o i) Q E s₂) E s₁) E s):
  wpAny (model prog w) A (eval (.Subscript value slice pos) env) Q E s:=by
 refine Subscript_ (wpAny_mono h (fun o s₁ h₁=>wpAny_mono h₁ (fun i s₂ h₂=>?_) fun _ _ x=>x) fun _ _ x=>x)
 obtain⟨hT,h₂⟩:=h₂
 unfold subscriptTail
 refine wpAny_bind ?_
 rw [getitemInPython_of_ne hT.not_modules]
 refine wpAny_bind (wpAny_specialOf hT hl ?_)
 have fin:wpAny (model prog w) A (subscripted slice false o i) (fun r s₃=>wpAny (model prog w) A (letTemporaryGo value o r >>= fun _=>pure r) Q E s₃) E s₂:=by
  rw [hs o i]
  exact wpAny_operating (wpAny_mono h₂ (fun r s₃ h₃=>wpAny_bind (wpAny_letTemporaryGo (wpAny_pure h₃))) fun _ _ x=>x)
 first
  | exact wpAny_pure (wpAny_bind fin)
  | exact wpAny_bind (wpAny_pure (wpAny_bind fin))
  | exact wpAny_bind fin
theorem dict_typeIs {X:Cx}{pins:List (Addr × Obj)}{σ:St}{H:Hp}{s:Shared}{a:Addr}{y:V}{o:Option V}(I:Inv X pins σ H s) (g:DGet H a y o):s.TypeIs (.ref a) "dict":=by
 rcases g with ⟨kvs,k,e,_,_⟩ | ⟨kvs,k,b,e,_,_,_⟩
 ·obtain⟨_,_,vs,_,dd⟩:=dk_rd I.hok e
  exact dd.typeIs
 ·obtain⟨_,_,xs,_,dd⟩:=dt_rd I.hok e
  exact dd.typeIs
def tDGet (td ty:TE):TE:=fun σ H Q=>td σ H fun x H1=>ty σ H1 fun y H2=>∃ a v,x=.ref a∧DGet H2 a y (some v)∧Q v H2
def tDNotIn (ty td:TE):TE:=fun σ H Q=>ty σ H fun y H1=>td σ H1 fun x H2=>∃ a o,x=.ref a∧DGet H2 a y o∧Q (.bl (!o.isSome)) H2
def sDPut (td ty tv:TE):TS:=fun D σ H=>tv σ H fun v H1=>td σ H1 fun x H2=>ty σ H2 fun y H3=>∃ a H4,x=.ref a∧DPut H3 a y v H4∧D.nx σ H4
section
variable {X:Cx}{o i e value:Expr}{pos pos' tpos:Pos}{td ty tv:TE}
theorem pe_dget (hu:X.A.units + 1 < cLine) (ho:PE X o td) (hi:PE X i ty) (hs:NoSl i):PE X (.Subscript o i pos) (tDGet td ty):=by
 intro pins s σ H Q I h
 refine subD_of PySem.F.slot_dict_getitem.lookup hs (thn (ho pins s σ H _ I h) fun u s1 ⟨x,H1,I1,rx,q1⟩=>thn (hi pins s1 σ H1 _ I1 q1) fun iv s2 ⟨y,H2,I2,ry,a,v,ex,g,q2⟩=>?_)
 subst ex
 obtain rfl:u=Value.ref a:=rx
 exact⟨dict_typeIs I2 g,d_getItem hu I2 g ry fun w' s3 I3 rw'=>⟨v,H2,I3,rw',q2⟩⟩
theorem pc_dnotin (hu:X.A.units + 1 < cLine) (hi:PE X i ty) (ho:PE X o td):PC X .NotIn i o (tDNotIn ty td):=by
 intro pins s σ H Q I h
 refine thn (hi pins s σ H _ I h) fun iv s1 ⟨y,H1,I1,ry,q1⟩=>thn (ho pins s1 σ H1 _ I1 q1) fun u s2 ⟨x,H2,I2,rx,a,ov,ex,g,q2⟩=>?_
 subst ex
 obtain rfl:u=Value.ref a:=rx
 exact d_notIn hu I2 g ry fun s3 I3=>⟨.bl (!ov.isSome),H2,I3,rfl,q2⟩
theorem ps_dput (hu:X.A.units + 1 < cLine) (ho:PE X o td) (hi:PE X i ty) (hv:PE X value tv) (hs:swapsWith value (some (.Subscript o i pos')) pos.line X.env=pure false):
  PS X (.Assign [.Subscript o i pos'] value pos) (sDPut td ty tv):=by
 intro pins s σ H D I h
 refine wpAny_Assign_Subscript (thn (hv pins s σ H _ I h) fun r s1 ⟨v,H1,I1,rv,q1⟩=>thn (ho pins s1 σ H1 _ I1 q1) fun u s2 ⟨x,H2,I2,rx,q2⟩=>thn (hi pins s2 σ H2 _ I2 q2) fun iv s3 ⟨y,H3,I3,ry,a,H4,ex,g,q3⟩=>?_) hs
 subst ex
 obtain rfl:u=Value.ref a:=rx
 exact d_setItem hu I3 g ry rv fun s4 I4=>⟨σ,H4,I4,q3⟩
end
theorem dk_empty {P:Program}{w:World}{H:Hp}(h:Heap) (hb:sysModules < h.objs.size):ObjOk P w H (h.push { cls:=.type "dict",data:=.dict #[] }) h.objs.size (.dK []):=
 ⟨Nat.zero_le _,beq_eq_false_iff_ne.mpr (Ne.symm (Nat.ne_of_lt hb)),[],.nil,Heap.DictOf.new h⟩
def tDNewK:TE:=fun _ H Q=>∀ p,H p=none→Q (.ref p) (upd H p (.dK []))
section
variable {X:Cx}{pos:Pos}
theorem pe_dnewK:PE X (.Dict [] [] pos) tDNewK:=fun pins s σ H Q I h=>
 wpAny_Dict_empty ⟨.ref s.heap.objs.size,_,I.laid (a:=s.heap.objs.size) (o:=.dK []) (t':=s.toks) (fun _ _ q=>Heap.get?_push_of_some _ q) (Nat.le_refl _) (dk_empty s.heap I.big),rfl,h _ (I.hok.fresh (Nat.le_refl _))⟩
end
def mergeK (kvs more:List (Key × V)):List (Key × V):=more.foldl (fun acc kv=>putK acc kv.1 kv.2) kvs
theorem KV.merge:∀ {more:List (Key × V)}{rs:List (Key × Value)}{kvs:List (Key × V)}{vs:List (Key × Value)},KV more rs→KV kvs vs→KV (mergeK kvs more) (merged vs rs):=by
 intro more rs kvs vs r
 unfold KV at r
 induction r generalizing kvs vs with
 | nil=>intro q;exact q
 | @cons p q ps qs h t ih=>
  intro r0
  have e:KV (putK kvs p.1 p.2) (stored vs q.1 q.2):=by
   have:=r0.put p.1 h.2
   rw [← h.1];exact this
  exact ih e
theorem length_mergeK:∀ (more kvs:List (Key × V)),(mergeK kvs more).length≤kvs.length + more.length
 | [],kvs=>by show kvs.length≤kvs.length + 0;omega
 | p::r,kvs=>by
  have h1:=length_mergeK r (putK kvs p.1 p.2)
  have h2:=length_putK kvs p.1 p.2
  show (mergeK (putK kvs p.1 p.2) r).length≤_
  rw [List.length_cons];omega
structure M1 (X:Cx) (o:Expr) (m:Str) (apos:Pos) (e:Expr) (cpos:Pos):Prop where
 base:attributeBase o m X.env (eval o X.env)=eval o X.env
 few:((backTo cpos (starEach [e] X.env)).all (fun x=>!x.1) && (backToKw cpos (keywordEach [] X.env)).all (fun x=>x.1.isSome)
  && decide (([e]:List Expr).length + ([]:List Keyword).length + (if ([]:List Keyword).isEmpty then 0 else 1) < 30))=true
 line:(apos.endLine == cpos.line)=true
 trees:backTo cpos (starEach [e] X.env)=[(false,eval e X.env)]
structure M2 (X:Cx) (o:Expr) (m:Str) (apos:Pos) (e f:Expr) (cpos:Pos):Prop where
 base:attributeBase o m X.env (eval o X.env)=eval o X.env
 few:((backTo cpos (starEach [e,f] X.env)).all (fun x=>!x.1) && (backToKw cpos (keywordEach [] X.env)).all (fun x=>x.1.isSome)
  && decide (([e,f]:List Expr).length + ([]:List Keyword).length + (if ([]:List Keyword).isEmpty then 0 else 1) < 30))=true
 line:(apos.endLine == cpos.line)=true
 trees:backTo cpos (starEach [e,f] X.env)=[(false,eval e X.env),(false,eval f X.env)]
def IsD (H:Hp) (a:Addr):Prop:=(∃ kvs,Rd H a (.dK kvs))∨∃ kvs,Rd H a (.dT kvs)
theorem isD_at {X:Cx}{pins:List (Addr × Obj)}{σ:St}{H:Hp}{s:Shared}{a:Addr}(I:Inv X pins σ H s) (d:IsD H a):
  s.TypeIs (.ref a) "dict"∧(∀ b,Value.ref a=.ref b→∃ ob,s.heap.get? b=some ob∧ob.dict=none)∧(a == sysModules)=false:=by
 rcases d with ⟨kvs,e⟩ | ⟨kvs,e⟩
 ·obtain⟨_,hd,vs,_,dd⟩:=dk_rd I.hok e
  refine⟨dd.typeIs,fun b q=>?_,hd⟩
  cases q
  obtain⟨ob,_,_,h1,h2,_⟩:=dd
  exact⟨ob,h1,h2.2.1⟩
 ·obtain⟨_,hd,xs,_,dd⟩:=dt_rd I.hok e
  refine⟨dd.typeIs,fun b q=>?_,hd⟩
  cases q
  obtain⟨ob,_,_,h1,h2,_⟩:=dd
  exact⟨ob,h1,h2.2.1⟩
section
variable {X:Cx}{pins:List (Addr × Obj)}{σ:St}{H:Hp}{s:Shared}{a:Addr}{y d:V}{u r:Value}{o:Option V}{A:Around}{E:Value→Shared→Prop}
end
def tDPop1 (td ty:TE):TE:=fun σ H Q=>td σ H fun x H1=>∃ a,x=.ref a∧IsD H1 a∧ty σ H1 fun y H2=>∃ kvs k v,H2 a=some (.dK kvs)∧y=kV k∧valV kvs k=some v∧Q v (upd H2 a (.dK (dropK kvs k)))
section
variable {X:Cx}{o e f:Expr}{apos cpos:Pos}{td ty tx:TE}
theorem pe_dpop1 (ho:PE X o td) (he:PE X e ty) (m:M1 X o "pop" apos e cpos):PE X (.Call (.Attribute o "pop" apos) [e] [] cpos) (tDPop1 td ty):=by
 intro pins s σ H Q I h
 refine wpAny_Call_method m.base m.few m.line PySem.F.plainAttrs_dict PySem.F.slot_dict_pop PySem.F.type_dict_pop (thn (ho pins s σ H _ I h) fun u s1 ⟨x,H1,I1,rx,a,ex,d,q1⟩=>?_)
 subst ex
 obtain rfl:u=Value.ref a:=rx
 obtain⟨t1,t2,_⟩:=isD_at I1 d
 refine⟨t1,t2,?_⟩
 rw [m.trees]
 refine Calls.callWith_builtin rfl (Calls.evalArgs_plain (Calls.spliced_cons (thn (he pins s1 σ H1 _ I1 q1) fun iv s2 ⟨y,H2,I2,ry,kvs,k,v,ea,ey,l,q2⟩=>Calls.spliced_nil ?_)))
 subst ey
 exact d_pop I2 ea ry l (.inl rfl) fun w' s3 I3 rw'=>⟨v,_,I3,rw',q2⟩
end
section
variable {X:Cx}{pins:List (Addr × Obj)}{σ:St}{H:Hp}{s:Shared}{a:Addr}{kvs:List (Key × V)}{A:Around}{E:Value→Shared→Prop}
end
section
variable {X:Cx}{pins:List (Addr × Obj)}{σ:St}{H:Hp}{s:Shared}{a:Addr}{y:V}{u:Value}{A:Around}{E:Value→Shared→Prop}
end
end L2
namespace L2
open PySem PySem.Spec PyProof.Rows
section
variable {X:Cx}
theorem call_lenD:CallR X (.builtin "len") (fun xs H Q=>∃ a kvs,xs=[V.ref a]∧H a=some (.dK kvs)∧Q (.int kvs.length) H):=by
 intro pins s σ H xs us Q I r h
 obtain⟨a,kvs,rfl,ha,q⟩:=h
 obtain⟨u,rfl,ru⟩:=vals1 r
 cases ru
 exact d_len I (.inl ha) fun t s' I'=>⟨.int kvs.length,H,I',⟨t,rfl⟩,q⟩
end
section
variable {κ:Type} [DecidableEq κ]
theorem valV_not {kvs:List (κ × V)}{k:κ}(h:valV kvs k=none):¬ k∈kvs.map (·.1):=by
 intro m
 obtain⟨p,hp,e⟩:=List.mem_map.mp m
 have q:(kvs.any fun kv=>decide (kv.1=k))=true:=List.any_eq_true.mpr ⟨p,hp,decide_eq_true e⟩
 rw [valV_any,h] at q
 exact absurd q (by simp)
theorem nd_snoc:∀ {l:List κ}{k:κ},l.Nodup→¬ k∈l→(l++[k]).Nodup
 | [],k,_,_=>by simp
 | a::r,k,h,hk=>by
  obtain⟨h1,h2⟩:=List.nodup_cons.mp h
  show (a::(r++[k])).Nodup
  refine List.nodup_cons.mpr ⟨fun m=>?_,nd_snoc h2 fun m=>hk (List.mem_cons.mpr (Or.inr m))⟩
  rcases List.mem_append.mp m with q | q
  ·exact h1 q
  ·exact hk (List.mem_cons.mpr (Or.inl (List.mem_singleton.mp q).symm))
end
end L2
set_option Elab.async false
set_option linter.all false
set_option maxRecDepth 100000
namespace L2
open PySem PySem.Spec PyProof.Rows
def cxComp (X:Cx) (scope:Scope) (cl:List (Str × Addr)) (N:List Str) (C:Addr) (ex:List Addr) (s₀:Shared) (H₀:Hp):Cx where
 prog:=X.prog
 w:=X.w
 K:=X.K
 mg:=X.mg
 base:=X.base
 A:=X.A
 N:=N
 s₀:=s₀
 H₀:=H₀
 env:=compEnvC scope cl C X.env
 outer:=X.stack
 stack:=X.stack
 ex:=ex
 fn:=fun _=>false
 calm:=X.calm
 pn:=X.pn
 xe:=fun _ _=>False
theorem z377 {X:Cx}{scope:Scope}{cl:List (Str × Addr)}{N:List Str}{C:Addr}{ex:List Addr}{s₀:Shared}{H₀:Hp}(c:Calm X):Calm (cxComp X scope cl N C ex s₀ H₀):=c
structure z8 (X:Cx) (scope:Scope) (tn cn:List Str) (caps:List Nat):Prop where
 kind:scope.kind=.function
 nocell:∀ y∈scope.names,y.2≠.cell
 names:∀ y∈scope.names,y.2=.local→scope.names.lookup y.1=some .local
 caught:∀ y∈scope.names,y.2=.free→X.env.kindOf y.1=some .cell∨X.env.kindOf y.1=some .free
 free:∀ y∈cn,scope.names.lookup y=some .free
 slots:caps.map (fun j=>X.N[j]?)=cn.map some
theorem z8.of {X:Cx}{scope osc:Scope}{tn cn:List Str}{caps:List Nat}(ho:X.env.scope=osc) (kind:scope.kind=.function) (nocell:∀ y∈scope.names,y.2≠.cell)
  (names:∀ y∈scope.names,y.2=.local→scope.names.lookup y.1=some .local) (caught:∀ y∈scope.names,y.2=.free→osc.names.lookup y.1=some .cell∨osc.names.lookup y.1=some .free) (free:∀ y∈cn,scope.names.lookup y=some .free)
  (slots:caps.map (fun j=>X.N[j]?)=cn.map some):z8 X scope tn cn caps:=
 ⟨kind,nocell,names,fun y hy hf=>by show X.env.scope.names.lookup y.1=_∨X.env.scope.names.lookup y.1=_;rw [ho];exact caught y hy hf,free,slots⟩
def capσ (σ:St) (caps:List Nat):St:=caps.map fun j=>(σ[j]?).getD none
theorem z80 (env:Env):∀ (names:List (Str × NameKind)) (cs:List (Str × Addr)),(∀ x∈names,x.2=.free→∃ c,env.cells.lookup x.1=some c)→(∀ y c,cs.lookup y=some c→env.cells.lookup y=some c)→
  ∃ cl:List (Str × Addr),(forIn names cs fun(x:Str × NameKind) (r:List (Str × Addr))=>(if (x.2 == NameKind.free)=true then do let a ← cellOf env x.1;pure (ForInStep.yield ((x.1,a)::r)) else pure (ForInStep.yield r):Sem (ForInStep (List (Str × Addr)))))=pure cl∧
   (∀ y c,cl.lookup y=some c→env.cells.lookup y=some c)∧(∀ x∈names,x.2=.free→∃ c,cl.lookup x.1=some c)∧∀ y c,cs.lookup y=some c→∃ c',cl.lookup y=some c'
 | [],cs,_,h2=>⟨cs,by simp,h2,fun x h=>absurd h (by simp),fun y c h=>⟨c,h⟩⟩
 | (n,k)::r,cs,h1,h2=>by
  by_cases hk:(k == NameKind.free)=true
  ·obtain⟨c,hc⟩:=h1 (n,k) List.mem_cons_self (by simpa using hk)
   have h2':∀ y d,((n,c)::cs).lookup y=some d→env.cells.lookup y=some d:=fun y d h=>by
    rw [List.lookup_cons] at h
    split at h
    ·rename_i e
     have e':y=n:=by simpa using e
     cases h
     rw [e'];exact hc
    ·exact h2 y d h
   obtain⟨cl,e,p1,p2,p3⟩:=z80 env r ((n,c)::cs) (fun x hx=>h1 x (List.mem_cons_of_mem _ hx)) h2'
   refine⟨cl,?_,p1,fun x hx hf=>?_,fun y d h=>?_⟩
   ·rw [List.forIn_cons]
    simp only [hk,if_true,cellOf,hc,pure_bind]
    exact e
   ·rcases List.mem_cons.mp hx with e1 | e1
    ·subst e1
     exact p3 n c (by rw [List.lookup_cons];simp)
    ·exact p2 x e1 hf
   ·by_cases hy:(y == n)=true
    ·exact p3 y c (by rw [List.lookup_cons,hy])
    ·exact p3 y d (by rw [List.lookup_cons];simp only [Bool.not_eq_true] at hy;rw [hy];exact h)
  ·obtain⟨cl,e,p1,p2,p3⟩:=z80 env r cs (fun x hx=>h1 x (List.mem_cons_of_mem _ hx)) h2
   refine⟨cl,?_,p1,fun x hx hf=>?_,p3⟩
   ·rw [List.forIn_cons]
    simp only [hk,if_false,pure_bind,Bool.false_eq_true]
    exact e
   ·rcases List.mem_cons.mp hx with e1 | e1
    ·subst e1
     exact absurd (by simpa using hf) hk
    ·exact p2 x e1 hf
theorem z149 {scope:Scope}{env:Env}(h:∀ x∈scope.names,x.2=.free→∃ c,env.cells.lookup x.1=some c):
  ∃ cl:List (Str × Addr),closureFor scope env=pure cl∧(∀ y c,cl.lookup y=some c→env.cells.lookup y=some c)∧∀ x∈scope.names,x.2=.free→∃ c,cl.lookup x.1=some c:=by
 obtain⟨cl,e,p1,p2,_⟩:=z80 env scope.names [] h (fun y c h=>by simp at h)
 refine⟨cl,?_,p1,p2⟩
 unfold closureFor
 simp only [bind_pure]
 first
  | exact e
  | (rw [← e];rfl)
  | (rw [← e];congr 1;funext x r;obtain⟨n,k⟩:=x;by_cases hk:(k == NameKind.free)=true <;> simp [hk])
theorem z68 {env:Env}:∀ {names:List (Str × NameKind)}{x:Str},names.lookup x=some .free→
  (names.map fun(n,k)=>if (k == NameKind.free && env.scope.kind == .function && env.kindOf n == some .cell) then(n,NameKind.cell) else(n,k)).lookup x=some .cell∨
  (names.map fun(n,k)=>if (k == NameKind.free && env.scope.kind == .function && env.kindOf n == some .cell) then(n,NameKind.cell) else(n,k)).lookup x=some .free
 | [],_,h=>by simp at h
 | (n,k)::r,x,h=>by
  have ih:=@z68 env r x
  show List.lookup x ((if (k == NameKind.free && env.scope.kind == .function && env.kindOf n == some .cell)=true then(n,NameKind.cell) else(n,k))::_)=_∨List.lookup x ((if (k == NameKind.free && env.scope.kind == .function && env.kindOf n == some .cell)=true then(n,NameKind.cell) else(n,k))::_)=_
  cases hx:x == n with
  | true=>
   simp only [List.lookup_cons,hx] at h
   cases h
   by_cases hc:(NameKind.free == NameKind.free && env.scope.kind == .function && env.kindOf n == some .cell)=true
   ·rw [if_pos hc];simp [List.lookup_cons,hx]
   ·rw [if_neg hc];simp [List.lookup_cons,hx]
  | false=>
   simp only [List.lookup_cons,hx] at h
   by_cases hc:(k == NameKind.free && env.scope.kind == .function && env.kindOf n == some .cell)=true
   ·rw [if_pos hc];simp only [List.lookup_cons,hx];exact ih h
   ·rw [if_neg hc];simp only [List.lookup_cons,hx];exact ih h
theorem z263 {env:Env}:∀ {names:List (Str × NameKind)}{x:Str},(∀ y∈names,y.2≠.cell)→
  ((names.map fun(n,k)=>if (k == NameKind.free && env.scope.kind == .function && env.kindOf n == some .cell) then(n,NameKind.cell) else(n,k)).lookup x=some .cell∨
  (names.map fun(n,k)=>if (k == NameKind.free && env.scope.kind == .function && env.kindOf n == some .cell) then(n,NameKind.cell) else(n,k)).lookup x=some .free)→names.lookup x=some .free
 | [],_,_,h=>by simp at h
 | (n,k)::r,x,hn,h=>by
  have ih:=@z263 env r x (fun y hy=>hn y (List.mem_cons_of_mem _ hy))
  have h:List.lookup x ((if (k == NameKind.free && env.scope.kind == .function && env.kindOf n == some .cell)=true then(n,NameKind.cell) else(n,k))::_)=_∨List.lookup x ((if (k == NameKind.free && env.scope.kind == .function && env.kindOf n == some .cell)=true then(n,NameKind.cell) else(n,k))::_)=_:=h
  cases hx:x == n with
  | true=>
   simp only [List.lookup_cons,hx]
   by_cases hc:(k == NameKind.free && env.scope.kind == .function && env.kindOf n == some .cell)=true
   ·have:(k == NameKind.free)=true:=by
     simp only [Bool.and_eq_true] at hc;exact hc.1.1
    have:k=.free:=by simpa using this
    rw [this]
   ·rw [if_neg hc] at h
    simp only [List.lookup_cons,hx] at h
    rcases h with h | h
    ·exact absurd (Option.some.inj h) (hn (n,k) List.mem_cons_self)
    ·rw [Option.some.inj h]
  | false=>
   simp only [List.lookup_cons,hx]
   by_cases hc:(k == NameKind.free && env.scope.kind == .function && env.kindOf n == some .cell)=true
   ·rw [if_pos hc] at h;simp only [List.lookup_cons,hx] at h;exact ih h
   ·rw [if_neg hc] at h;simp only [List.lookup_cons,hx] at h;exact ih h
section
variable {X:Cx}{scope:Scope}{tn cn:List Str}{caps:List Nat}{pins:List (Addr × Obj)}{σ:St}{H:Hp}{s:Shared}{fp:List Addr}{cl:List (Str × Addr)}{ob:Obj}
theorem z652 (S:z8 X scope tn cn caps) (I:Inv X pins σ H s) (hcl:∀ y c,cl.lookup y=some c→X.env.cells.lookup y=some c) (hcl2:∀ x∈scope.names,x.2=.free→∃ c,cl.lookup x.1=some c)
  (hf:∀ b∈fp,FpOk X pins H b) (hfp:∀ b∈fp,b < s.heap.objs.size) (N:List Str):
  (cxComp X scope cl N (s.heap.push ob).objs.size (s.heap.objs.size::fp) { s with heap:=s.heap.push ob } H).Ok:=by
 have hC:(s.heap.push ob).objs.size=s.heap.objs.size + 1:=by rw [Heap.size_push]
 refine⟨I.ok.mod,S.kind,I.ok.glob,I.ok.blt,Nat.le_refl _,fun x y c h1 h2=>I.ok.inj x y c (hcl x c h1) (hcl y c h2),fun x hx=>?_,fun x c h=>absurd h (by simp [cxComp]),I.ok.hd,I.ok.frames,.inl rfl,fun b hb=>?_,
  fun b o e=>⟨Heap.get?_push_of_some _ (I.bs b o e).1,(I.bs b o e).2⟩,?_,fun b o e hb=>?_,fun b hb z=>?_,?_,I.stkFree⟩
 ·exact hcl2 (x,.free) (PySem.mem_of_lookup (z263 S.nocell hx)) rfl
 ·rcases List.mem_cons.mp (show b∈s.heap.objs.size::fp from hb) with e | hb
  ·subst e
   refine⟨fun z=>?_,fun x c e z=>?_⟩
   ·have z':s.heap.objs.size=(s.heap.push ob).objs.size:=z
    omega
   ·obtain⟨v,q⟩:=I.cell x c (hcl x c e)
    exact absurd q.lt (by rw [z];exact Nat.lt_irrefl _)
  ·refine⟨fun z=>?_,fun x c e=>(hf b hb).2.2.2.2.1 x c (hcl x c e)⟩
   have z':b=(s.heap.push ob).objs.size:=z
   have h1:=hfp b hb
   rw [z',hC] at h1
   exact Nat.lt_irrefl _ (Nat.lt_of_succ_lt h1)
 ·show X.base.objs.size≤(s.heap.push ob).objs.size
  have h1:=I.ok.bsz
  have h2:=I.sz
  omega
 ·rcases List.mem_cons.mp (show b∈s.heap.objs.size::fp from hb) with e1 | hb
  ·subst e1
   exact absurd (Heap.lt_size (I.bk _ o e)) (Nat.lt_irrefl _)
  ·rcases (hf b hb).2.2.2.1 with z | z
   ·exact I.ok.noex b o e z
   ·have h1:=I.ok.bsz
    have h2:=Heap.lt_size e
    exact Nat.lt_irrefl _ (Nat.lt_of_lt_of_le h2 (Nat.le_trans h1 z))
 ·have z':=I.stkSub b z
  rcases List.mem_cons.mp (show b∈s.heap.objs.size::fp from hb) with e1 | hb
  ·subst e1
   rcases List.mem_cons.mp z' with z1 | z1
   ·exact absurd I.lt (by rw [← z1];exact Nat.lt_irrefl _)
   ·exact I.nofs (Nat.le_refl _) z1
  ·rcases List.mem_cons.mp z' with z1 | z1
   ·exact(hf b hb).2.1 z1
   ·exact(hf b hb).2.2.1 z1
 ·exact I.stack.of_keeps fun b o e _=>⟨o,Heap.get?_push_of_some _ e,rfl⟩
theorem z587 (S:z8 X scope tn cn caps) (I:Inv X pins σ H s) (hcl:∀ y c,cl.lookup y=some c→X.env.cells.lookup y=some c) (hcl2:∀ x∈scope.names,x.2=.free→∃ c,cl.lookup x.1=some c)
  (hf:∀ b∈fp,FpOk X pins H b) (hfp:∀ b∈fp,b < s.heap.objs.size) (hob:∀ v,ob.data≠.cell v) (hfr:ob.isFreed=false){h1:Heap}{m0:Str→Option Value}{tk:Nat}(hn:h1.Ns (s.heap.push ob).objs.size m0)
  (hk:∀ b o,(s.heap.push ob).get? b=some o→h1.get? b=some o):
  Inv (cxComp X scope cl (tn++cn) (s.heap.push ob).objs.size (s.heap.objs.size::fp) { s with heap:=s.heap.push ob } H) (X.pn++pins++[(s.heap.objs.size,ob)]) (List.replicate tn.length none++capσ σ caps) H { s with heap:=h1,toks:=tk }:=by
 have hC:(s.heap.push ob).objs.size=s.heap.objs.size + 1:=by rw [Heap.size_push]
 have hk':∀ b o,s.heap.get? b=some o→h1.get? b=some o:=fun b o e=>hk b o (Heap.get?_push_of_some _ e)
 have hlen:caps.length=cn.length:=by have:=congrArg List.length S.slots;simpa using this
 refine⟨z652 S I hcl hcl2 hf hfp _,rfl,I.bare,Un.kept hk,⟨m0,hn,fun i x v e1 e2 e3=>?_⟩,fun x c e=>?_,I.hok.fresh (by rw [hC];exact Nat.le_succ _),fun x c e=>I.freeC x c (hcl x c e),fun p hp=>?_,I.hok.kept hk',?_⟩
 ·have e1:(tn++cn)[i]?=some x:=e1
  by_cases hi:i < tn.length
  ·rw [List.getElem?_append_left (by simpa using hi),List.getElem?_replicate,if_pos hi] at e2
   cases e2
  ·have hi':tn.length≤i:=Nat.le_of_not_lt hi
   rw [List.getElem?_append_right (by simpa using hi'),List.length_replicate] at e2
   rw [List.getElem?_append_right hi'] at e1
   have hx:x∈cn:=List.mem_of_getElem? e1
   have hsl:(caps.map fun j=>X.N[j]?)[i - tn.length]?=(cn.map some)[i - tn.length]?:=by rw [S.slots]
   rw [List.getElem?_map,List.getElem?_map,e1] at hsl
   unfold capσ at e2
   rw [List.getElem?_map] at e2
   cases hj:caps[i - tn.length]? with
   | none=>rw [hj] at e2;cases e2
   | some j=>
    rw [hj] at hsl e2
    have hN:X.N[j]?=some x:=Option.some.inj hsl
    have e2:(σ[j]?).getD none=some v:=Option.some.inj e2
    have hσ:σ[j]?=some (some v):=by
     cases q:σ[j]? with
     | none=>rw [q] at e2;cases e2
     | some y=>rw [q] at e2;rw [← e2];rfl
    have hkx:=S.caught (x,.free) (PySem.mem_of_lookup (S.free x hx)) rfl
    obtain⟨m,_,hl⟩:=I.loc
    obtain⟨u,r,l⟩:=hl j x v hN hσ (by rcases hkx with z | z;exact .inr (.inl z);exact .inr (.inr z))
    refine⟨u,r,?_⟩
    rcases l with ⟨k,_⟩ | ⟨k,c,e,z⟩
    ·rcases hkx with z | z
     ·rw [show X.env.kindOf x=_ from k] at z;cases z
     ·rw [show X.env.kindOf x=_ from k] at z;cases z
    ·obtain⟨c',ec⟩:=hcl2 (x,.free) (PySem.mem_of_lookup (S.free x hx)) rfl
     have e':=hcl x c' ec
     rw [e] at e'
     cases e'
     obtain⟨oc,ho,hd⟩:=z
     exact .inr ⟨z68 (S.free x hx),c,ec,oc,hk' c oc ho,hd⟩
 ·obtain⟨v,oc,ho,hd⟩:=I.cell x c (hcl x c e)
  exact⟨v,oc,hk' c oc ho,hd⟩
 ·have hp:p∈X.pn++pins++[(s.heap.objs.size,ob)]:=(List.mem_append.mp hp).elim (fun z=>List.mem_append_left _ (List.mem_append_left _ z)) id
  rcases List.mem_append.mp hp with hp | hp
  ·obtain⟨e,n,ne,nf,d⟩:=I.pin p hp
   refine⟨hk' _ _ e,n,fun z=>?_,fun z=>?_,d⟩
   ·have z':p.1=(s.heap.push ob).objs.size:=z
    have h1:=Heap.lt_size e
    rw [z',hC] at h1
    exact Nat.lt_irrefl _ (Nat.lt_of_succ_lt h1)
   ·rcases List.mem_cons.mp (I.stkSub p.1 z) with z1 | z1
    ·exact ne z1
    ·exact nf z1
  ·have e:p=(s.heap.objs.size,ob):=by simpa using hp
   subst e
   refine⟨hk _ _ (Heap.get?_push_size _ hfr),I.hok.fresh (Nat.le_refl _),fun z=>?_,fun z=>?_,hob⟩
   ·have z':s.heap.objs.size=(s.heap.push ob).objs.size:=z
    omega
   ·rcases List.mem_cons.mp (I.stkSub s.heap.objs.size z) with z1 | z1
    ·exact absurd I.lt (by rw [← z1];exact Nat.lt_irrefl _)
    ·exact I.nofs (Nat.le_refl _) z1
 ·show (List.replicate tn.length none++capσ σ caps).length=(tn++cn).length
  unfold capσ
  simp [hlen]
theorem z591 {N:List Str}{σ0:St}{H':Hp}{s':Shared}{C:Addr}{s3:Shared}{its:List Value}{n:Nat}{ys:List V}(I:Inv X pins σ H s) (hf:∀ b∈fp,FpOk X pins H b) (hfp:∀ b∈fp,b < s.heap.objs.size) (hC:s.heap.objs.size < C)
  (hs3:∀ b o,s.heap.get? b=some o→s3.heap.get? b=some o) (hos:s3.os=s.os)
  (I':Inv (cxComp X scope cl N C (s.heap.objs.size::fp) s3 H) (X.pn++pins++[(s.heap.objs.size,{ cls:=.type "list",data:=.seq its.toArray n })]) σ0 H' s') (rv:Vals ys its) (hz:ys.length≤sizeLine):
  Inv X pins σ (upd H' s.heap.objs.size (.lst ys)) s'∧H' s.heap.objs.size=none∧FpOk X pins (upd H' s.heap.objs.size (.lst ys)) C∧∃ m,s'.heap.Ns C m:=by
 have pD:=I'.pin (s.heap.objs.size,{ cls:=.type "list",data:=.seq its.toArray n }) (by show _∈X.pn++(X.pn++pins++[_]);simp)
 have hD:H' s.heap.objs.size=none:=pD.2.1
 have base:Un (frs X.stack) (s.heap.objs.size::fp) H H' s3.heap s'.heap:=I'.base
 have old:∀ b o,s.heap.get? b=some o→b≠s.heap.objs.size:=fun b o e=>Nat.ne_of_lt (Heap.lt_size e)
 have nex:∀ b o,s.heap.get? b=some o→b ∉ fp→b ∉ s.heap.objs.size::fp:=fun b o e h z=>by
  rcases List.mem_cons.mp z with z | z
  ·exact old b o e z
  ·exact h z
 have oldT:∀ b u,H b=some u→b≠s.heap.objs.size:=fun b u e=>Nat.ne_of_lt (I.hok.lt e)
 refine⟨I.call' (ch:=fp) (I'.os.trans hos) ⟨fun b o e n hb hx=>base.keep b o (hs3 b o e) n hb (nex b o e hx),fun b o e n hb hx=>base.slot b o (hs3 b o e) n hb (nex b o e hx),fun b o e n hx=>?_,fun b o e hx=>base.there b o (hs3 b o e) (nex b o e hx),
  fun b xs e=>?_,fun b o u e=>?_,fun b ps e=>?_⟩ (fun a o e=>?_) I'.bare fun b hb=>?_,hD,I.fpOk (Nat.le_of_lt hC) ?_,?_⟩
 ·rw [upd_ne (old b o e)];exact base.free b o (hs3 b o e) n (nex b o e hx)
 ·rw [upd_ne (oldT b _ e)];exact base.tups b xs e
 ·rw [upd_ne (oldT b _ e)];exact base.frzs b o u e
 ·rw [upd_ne (oldT b _ e)];exact base.tbls b ps e
 ·by_cases ha:a=s.heap.objs.size
  ·subst ha
   rw [upd_same] at e
   cases e
   exact⟨hz,its,n,rv,pD.1⟩
  ·rw [upd_ne ha] at e
   exact(I'.hok a o e).stay (fun _ _ _ q=>q) (fun c q=>by rw [upd_ne (ne_of_none q hD)];exact q) fun c xs q=>by rw [upd_ne (ne_of_none q hD)];exact q
 ·have q:=hf b hb
  exact⟨q.2.2.2.1,q.2.1,q.2.2.2.2.1,q.2.2.2.2.2⟩
 ·rw [upd_ne (Nat.ne_of_gt hC)];exact I'.free
 ·obtain⟨m,hn,_⟩:=I'.loc
  exact⟨m,hn⟩
end
def PTs (X:Cx) (ifs:List Expr) (t:TT):Prop:=
 ∀ (pins:List (Addr × Obj)) (s:Shared) (σ:St) (H:Hp) (Q:Bool→Hp→Prop),Inv X pins σ H s→t σ H Q→
  wpAny (model X.prog X.w) X.A (forIn ifs true fun c r=>if r=true then do let ok ← isTrue c X.env (eval c X.env);pure (ForInStep.yield ok) else pure (ForInStep.yield r)) (TP X pins σ Q) X.xe s
def tYes:TT:=fun _ H Q=>Q true H
theorem z333 {X:Cx}:PTs X [] tYes:=fun _ _ _ H _ I h=>wpAny_tests_nil ⟨H,I,h⟩
theorem z240 {X:Cx}{c:Expr}{t:TT}(h:PT X c t):PTs X [c] t:=fun pins s σ H Q I hw=>wpAny_tests_one (h pins s σ H Q I hw)
theorem z339 {prog:Program}{w:World}{A:Around}{R:Result→Shared→Prop}{s:Shared}{elt target iter:Expr}{ifs:List Expr}{scope:Scope}{pos:Pos}{it acc:Value}{env:Env}(I:Nat→Shared→Prop)
  (turn:∀ n s,I n s→wpAny (model prog w) A (pyNext it) (fun r s₁=>match r with
   | none=>R (.ok .next) s₁
   | some v=>wpAny (model prog w) A (letOwnedTupleGo target it v) (fun _ s₁'=>wpAny (model prog w) A (assign target env v) (fun _ s₂=>
     wpAny (model prog w) A (forIn ifs true fun c r=>if r=true then do let ok ← isTrue c env (eval c env);pure (ForInStep.yield ok) else pure (ForInStep.yield r)) (fun ok s₃=>
      if ok=true then wpAny (model prog w) A (eval elt env) (fun x s₄=>
       wpAny (model prog w) A (call (.builtin "list.append") [acc,x]) (fun _ s₅=>∃ m,m < n∧I m s₅) (fun _ _=>False) s₄) (fun _ _=>False) s₃
      else ∃ m,m < n∧I m s₃) (fun _ _=>False) s₂) (fun _ _=>False) s₁') (fun _ _=>False) s₁) (fun _ _=>False) s)
  (n:Nat) (h:I n s):
  codeAny (model prog w) A (.compLoop (.ListComp elt [⟨target,iter,ifs,0⟩] scope pos) 0 it acc env) R s:=by
 refine codeAny_loop rfl I (fun n s hI=>?_) n h
 show wpAny _ A ((compTurn (.ListComp elt [⟨target,iter,ifs,0⟩] scope pos) 0 it acc env).onRaise (fun x=>do noteFrame x env;theTreesLotGoes x)) _ _ s
 refine wpAny_noted ?_
 rw [compTurn_list]
 refine wpAny_bind (wpAny_standAt (wpAny_bind (wpAny_mono (turn n s hI) (fun r s₁ h₁=>?_) fun _ _ h'=>h'.elim)))
 cases r with
 | none=>exact wpAny_pure h₁
 | some v=>
  refine wpAny_bind (wpAny_mono h₁ (fun _ s₁' h₁'=>?_) fun _ _ h'=>h'.elim)
  refine wpAny_bind (wpAny_mono h₁' (fun _ s₂ h₂=>wpAny_bind (wpAny_mono h₂ (fun ok s₃ h₃=>?_) fun _ _ h'=>h'.elim)) fun _ _ h'=>h'.elim)
  cases ok with
  | false=>exact wpAny_pure ⟨rfl,h₃⟩
  | true=>
   exact wpAny_bind (wpAny_bind (wpAny_mono h₃ (fun x s₄ h₄=>wpAny_bind (wpAny_mono h₄ (fun _ s₅ h₅=>wpAny_pure (wpAny_pure ⟨rfl,h₅⟩)) fun _ _ h'=>h'.elim)) fun _ _ h'=>h'.elim))
def CompW (J:It) (g:TG) (tt:TT) (te:TE) (σ0:St) (W:Nat→Nat→List V→Hp→Prop) (F:List V→Hp→Prop):Prop:=
 ∀ i m ys H,W i m ys H→(J.stop i H∧ys.length≤sizeLine∧F ys H)∨(J.go i H∧∃ N:List V→Hp→Prop,(∀ ys' H',N ys' H'→∃ m',m' < m∧W (i + 1) m' ys' H')∧
  ∀ x H',J.yld i H x H'→g x σ0 H' fun σ2 H2=>(σ2.length=σ0.length∧∀ (j:Nat) (v:V),σ0[j]?=some (some v)→σ2[j]?=some (some v))∧
   tt σ2 H2 fun b H3=>if b=true then te σ2 H3 fun y H4=>ys.length≤sizeLine∧N (ys++[y]) H4 else N ys H3)
section
variable {X:Cx}{scope:Scope}{tn cn:List Str}{caps:List Nat}
theorem z323 {tg iter elt:Expr}{ifs:List Expr}{pos:Pos}{g:TG}{tt:TT}{te:TE}{pins:List (Addr × Obj)}{σ:St}{H:Hp}{s:Shared}{it:Addr}{fp:List Addr}{tnn:Nat→Heap→Prop}{J:It}{cl:List (Str × Addr)}
  {W:Nat→Nat→List V→Hp→Prop}{F:List V→Hp→Prop}{m0:Nat}{E:Value→Shared→Prop}{RR:Value→Addr→Result→Shared→Prop}
  (S:z8 X scope tn cn caps) (hc:Calm X) (hcl:∀ y c,cl.lookup y=some c→X.env.cells.lookup y=some c) (hcl2:∀ x∈scope.names,x.2=.free→∃ c,cl.lookup x.1=some c)
  (hg:∀ C ex s₀ H₀,PG (cxComp X scope cl (tn++cn) C ex s₀ H₀) tg g) (ht:∀ C ex s₀ H₀,PTs (cxComp X scope cl (tn++cn) C ex s₀ H₀) ifs tt) (he:∀ C ex s₀ H₀,PE (cxComp X scope cl (tn++cn) C ex s₀ H₀) elt te)
  (I:Inv X pins σ H s) (T:Turn X.prog X.w X.K tg J fp it tnn) (st:tnn 0 s.heap) (hf:∀ b∈fp,FpOk X pins H b) (hW:CompW J g tt te (List.replicate tn.length none++capσ σ caps) W F) (w0:W 0 m0 [] H)
  (hRR:∀ D C s' H' ys m,H' D=none→F ys H'→Inv X pins σ (upd H' D (.lst ys)) s'→FpOk X pins (upd H' D (.lst ys)) C→s'.heap.Ns C m→RR (.ref D) C (.ok .next) s'):
  wpAny (model X.prog X.w) X.A (newList []) (fun acc s₃=>wpAny (model X.prog X.w) X.A (newFunctionEnv scope X.env.globals cl [] X.env.qual none .none (some X.env)) (fun cenv s₄=>
   codeAny (model X.prog X.w) X.A (.compStart (.ListComp elt [⟨tg,iter,ifs,0⟩] scope pos) 0 (.ref it) acc { cenv with scope:=relabel scope X.env }) (RR acc cenv.locals) s₄) E s₃) E s:=by
 have hfp:∀ b∈fp,b < s.heap.objs.size:=fun b hb=>let ⟨o,e,_⟩:=T.obj 0 s.heap st b hb;Heap.lt_size e
 refine wpAny_newObj_type (wpAny_newFunctionEnv S.nocell (by intro y hy;simp at hy) (fun h₁ hns₁ hsb₁=>?_) S.kind)
 dsimp only at hns₁ hsb₁ ⊢
 have hk:∀ b o,(s.heap.push { cls:=.type "list",dict:=none,data:=.seq ([]:List Value).toArray }).get? b=some o→h₁.get? b=some o:=fun b o e=>
  hsb₁.extBut b o (Nat.ne_of_lt (Heap.lt_size e)) (Heap.get?_push_of_some _ e)
 have I1:=z587 (tk:=s.toks + ([]:List (Str × Value)).length) S I hcl hcl2 hf hfp (ob:={ cls:=.type "list",dict:=none,data:=.seq ([]:List Value).toArray }) (fun v z=>by cases z) rfl hns₁ hk
 have hC:(s.heap.push { cls:=.type "list",dict:=none,data:=.seq ([]:List Value).toArray }).objs.size=s.heap.objs.size + 1:=by rw [Heap.size_push]
 generalize hCe:(s.heap.push { cls:=.type "list",dict:=none,data:=.seq ([]:List Value).toArray }).objs.size=C at *
 have st1:tnn 0 h₁:=T.keep 0 _ _ st fun b hb o e=>hk b o (Heap.get?_push_of_some _ e)
 have hE:∀ b o,s.heap.get? b=some o→({ s with heap:=s.heap.push { cls:=.type "list",dict:=none,data:=.seq ([]:List Value).toArray } }:Shared).heap.get? b=some o:=fun b o e=>Heap.get?_push_of_some _ e
 generalize hs3:({ s with heap:=s.heap.push { cls:=.type "list",dict:=none,data:=.seq ([]:List Value).toArray } }:Shared)=s3 at *
 have hos:s3.os=s.os:=by rw [← hs3]
 have hfp0:∀ b∈fp,H b=none:=fun b hb=>(hf b hb).1
 have stat:∀ {its:List Value}{n:Nat}{H':Hp},(∀ b∈fp,H' b=none)→∀ b∈fp,FpOk (cxComp X scope cl (tn++cn) C (s.heap.objs.size::fp) s3 H) (X.pn++pins++[(s.heap.objs.size,{ cls:=.type "list",data:=.seq its.toArray n })]) H' b:=fun{its n H'} hn b hb=>by
  have q:=hf b hb
  have hlt:=hfp b hb
  refine⟨hn b hb,fun z=>?_,fun z=>?_,.inl (List.mem_cons_of_mem _ hb),fun x c e=>q.2.2.2.2.1 x c (hcl x c e),fun p hp z=>?_⟩
  ·have z':b=C:=z
   rw [z',hC] at hlt
   exact Nat.lt_irrefl _ (Nat.lt_of_succ_lt hlt)
  ·rcases List.mem_cons.mp (I.stkSub b z) with z1 | z1
   ·exact q.2.1 z1
   ·exact q.2.2.1 z1
  ·have hp:p∈X.pn++pins++[(s.heap.objs.size,_)]:=(List.mem_append.mp hp).elim (fun z=>List.mem_append_left _ (List.mem_append_left _ z)) id
   rcases List.mem_append.mp hp with hp | hp
   ·exact q.2.2.2.2.2 p hp z
   ·have e:=List.mem_singleton.mp hp
    rw [e] at z
    have z':s.heap.objs.size=b:=z
    rw [← z'] at hlt
    exact Nat.lt_irrefl _ hlt
 have loop:∀ s₄:Shared,s₄={ s with heap:=h₁,toks:=s.toks + ([]:List (Str × Value)).length }→
   codeAny (model X.prog X.w) X.A (.compLoop (.ListComp elt [⟨tg,iter,ifs,0⟩] scope pos) 0 (.ref it) (.ref s.heap.objs.size) (compEnvC scope cl C X.env)) (RR (.ref s.heap.objs.size) C) s₄:=by
  rintro s₄ rfl
  refine z339 (fun n s'=>∃ i ys its k H',Inv (cxComp X scope cl (tn++cn) C (s.heap.objs.size::fp) s3 H) (X.pn++pins++[(s.heap.objs.size,{ cls:=.type "list",data:=.seq (List.toArray its) k })]) (List.replicate tn.length none++capσ σ caps) H' s'∧
   tnn i s'.heap∧(∀ b∈fp,H' b=none)∧Vals ys its∧W i n ys H') ?_ m0 ⟨0,[],[],0,H,I1,st1,hfp0,.nil,w0⟩
  rintro n s5 ⟨i,ys,its,k,H5,I5,st5,fr5,rv5,w5⟩
  rcases hW i n ys H5 w5 with ⟨stop,hz,f5⟩ | ⟨go,Nw,hNw,step⟩
  ·refine wpAny_mono (T.done (cxComp X scope cl (tn++cn) C (s.heap.objs.size::fp) s3 H) rfl rfl rfl (z377 hc) i _ s5 _ H5 (fun _ _=>False) I5 (stat fr5) st5 stop) (fun r s6 h6=>?_) fun _ _ z=>z
   obtain⟨hr,I6⟩:=h6
   subst hr
   obtain⟨J1,J2,J3,m,J4⟩:=z591 I hf hfp (by omega) hE hos I6 rv5 hz
   exact hRR _ _ _ _ _ m J2 f5 J1 J3 J4
  ·refine wpAny_mono (T.item (cxComp X scope cl (tn++cn) C (s.heap.objs.size::fp) s3 H) rfl rfl rfl (z377 hc) i _ s5 _ H5 (fun _ _=>False) I5 (stat fr5) st5 go) (fun r s6 h6=>?_) fun _ _ z=>z
   obtain⟨u,hr,h6⟩:=h6
   subst hr
   refine wpAny_mono h6 (fun _ s7 h7=>?_) fun _ _ z=>z
   obtain⟨x,H7,I7,r7,y7,st7,fr7⟩:=h7
   have I7':=I7.pinned (stat fr7) (T.obj _ _ st7)
   refine wpAny_mono (hg C (s.heap.objs.size::fp) s3 H _ s7 _ H7 x u _ I7' r7 (step x H7 y7)) (fun _ s8 h8=>?_) fun _ _ z=>z
   obtain⟨σ8,H8,I8,⟨hl8,hk8⟩,q8⟩:=h8
   have back:∀ {H9:Hp}{s9:Shared},Inv (cxComp X scope cl (tn++cn) C (s.heap.objs.size::fp) s3 H) (X.pn++pins++[(s.heap.objs.size,{ cls:=.type "list",data:=.seq (List.toArray its) k })]++pinsAt fp s7.heap) σ8 H9 s9→
     tnn (i + 1) s9.heap∧(∀ b∈fp,H9 b=none):=fun{H9 s9} I9=>by
    refine⟨T.keep _ _ _ st7 fun b hb o e=>(I9.pin (b,o) (List.mem_append_right _ (List.mem_append_right _ (mem_pinsAt hb e)))).1,fun b hb=>?_⟩
    obtain⟨o,e,d⟩:=T.obj _ _ st7 b hb
    exact(I9.pin (b,o) (List.mem_append_right _ (List.mem_append_right _ (mem_pinsAt hb e)))).2.1
   refine wpAny_mono (ht C (s.heap.objs.size::fp) s3 H _ s8 σ8 H8 _ I8 q8) (fun ok s9 h9=>?_) fun _ _ z=>z
   obtain⟨H9,I9,q9⟩:=h9
   cases ok with
   | false=>
    rw [if_neg (by decide)] at q9 ⊢
    obtain⟨m',hm,w9⟩:=hNw _ _ q9
    obtain⟨b1,b2⟩:=back I9
    exact⟨m',hm,i + 1,ys,its,k,H9,I9.unpinned.weak hl8.symm hk8,b1,b2,rv5,w9⟩
   | true=>
    rw [if_pos rfl] at q9 ⊢
    refine wpAny_mono (he C (s.heap.objs.size::fp) s3 H _ s9 σ8 H9 _ I9 q9) (fun yv s10 h10=>?_) fun _ _ z=>z
    obtain⟨y,H10,I10,r10,hz10,n10⟩:=h10
    obtain⟨m',hm,w10⟩:=hNw _ _ n10
    obtain⟨b1,b2⟩:=back I10
    have pD:=I10.pin (s.heap.objs.size,{ cls:=.type "list",data:=.seq (List.toArray its) k }) (List.mem_append_right _ (List.mem_append_left _ (List.mem_append_right _ (List.mem_singleton.mpr rfl))))
    refine wpAny_list_append_plain (hsz:=by rw [List.size_toArray,← rv5.length];exact hz10) ⟨k,pD.1⟩ fun h11 hl11 hs11=>?_
    obtain⟨k',e11⟩:=hl11
    have I10':Inv (cxComp X scope cl (tn++cn) C (s.heap.objs.size::fp) s3 H) (X.pn++pins) σ8 H10 s10:=I10.pins_of fun p hp=>I10.pin p (List.mem_append_right _ (List.mem_append_left _ (List.mem_append_left _ hp)))
    have I11:=I10'.turned (t':=s10.toks) (h':=h11) (it:=s.heap.objs.size) (fun b o hb e=>hs11.extBut b o hb e) pD.2.1 pD.2.2.1 (.inl List.mem_cons_self) (fun x c e z=>?_) (fun p hp z=>?_)
    ·refine⟨m',hm,i + 1,ys++[y],its++[yv],k',H10,?_,?_,b2,rv5.append (.cons r10 .nil),w10⟩
     ·refine(I11.pins_of fun p hp=>?_).weak hl8.symm hk8
      rcases List.mem_append.mp hp with hp | hp
      ·exact I11.pin p (List.mem_append_right _ hp)
      ·have e:=List.mem_singleton.mp hp
       subst e
       refine⟨?_,pD.2.1,pD.2.2.1,pD.2.2.2.1,fun v z=>by cases z⟩
       show h11.get? s.heap.objs.size=_
       rw [e11]
       simp
     ·refine T.keep _ _ _ b1 fun b hb o e=>hs11.extBut b o (fun z=>?_) e
      have h1:=hfp b hb
      rw [z] at h1
      exact Nat.lt_irrefl _ h1
    ·obtain⟨v,q⟩:=I.cell x c (hcl x c e)
     exact absurd q.lt (by rw [z];exact Nat.lt_irrefl _)
    ·have hp:p∈X.pn++pins:=(List.mem_append.mp hp).elim (fun z=>List.mem_append_left _ z) id
     exact absurd (Heap.lt_size (I.pin p hp).1) (by rw [z];exact Nat.lt_irrefl _)
 exact codeAny_compStart_list (loop _ rfl) (T.self X.A 0 _ _ _ st1 (loop _ rfl))
def tComp (wi:TI) (k:Nat) (caps:List Nat) (g:TG) (tt:TT) (te:TE):TE:=fun σ H Q=>wi σ H fun J H1=>∃ W:Nat→Nat→List V→Hp→Prop,(∃ m,W 0 m [] H1)∧
 CompW J g tt te (List.replicate k none++capσ σ caps) W fun ys H'=>∀ D,H' D=none→Q (.ref D) (upd H' D (.lst ys))
theorem z228 {tg iter elt:Expr}{ifs:List Expr}{pos:Pos}{wi:TI}{g:TG}{tt:TT}{te:TE}(S:z8 X scope tn cn caps) (hc:Calm X) (hi:PI X tg iter wi)
  (hg:∀ cl C ex s₀ H₀,PG (cxComp X scope cl (tn++cn) C ex s₀ H₀) tg g) (ht:∀ cl C ex s₀ H₀,PTs (cxComp X scope cl (tn++cn) C ex s₀ H₀) ifs tt) (he:∀ cl C ex s₀ H₀,PE (cxComp X scope cl (tn++cn) C ex s₀ H₀) elt te)
  (hs:∀ x,foldedSetIterable iter X.env x=pure x:=by intro _;rfl):PE X (.ListComp elt [⟨tg,iter,ifs,0⟩] scope pos) (tComp wi tn.length caps g tt te):=by
 intro pins s σ H Q I h
 obtain⟨cl,hcl0,hcl,hcl2⟩:=z149 (scope:=scope) (env:=X.env) fun x hx hf=>I.ok.has x.1 (S.caught x hx hf)
 rw [eval_ListComp]
 refine wpAny_comprehension_free (use:=none) rfl hs hcl0 S.kind S.names (thn (hi pins s σ H _ I h) fun v s1 h1=>thn h1 fun itv s2 h2=>?_)
 obtain⟨it,fp,tnn,J,H2,e,I2,T,st2,f2,W,⟨m0,w0⟩,turn⟩:=h2
 subst e
 refine z323 (RR:=fun acc C=>compPost (model X.prog X.w) X.A X.xe none (EP X pins σ Q) acc C) S hc hcl hcl2 (hg cl) (ht cl) (he cl) I2 T st2 f2 turn w0 ?_
 intro D C s' H' ys m hD f I' fC hn
 refine⟨m,hn,fun h' hs'=>?_⟩
 have I'':=I'.turned (t':=s'.toks) (h':=h') (it:=C) (fun b o hb e=>hs'.extBut b o hb e) fC.1 fC.2.1 fC.2.2.2.1 fC.2.2.2.2.1 fC.2.2.2.2.2
 exact⟨.ref D,_,I'',rfl,f D hD⟩
def sComp (i:Nat) (wi:TI) (k:Nat) (caps:List Nat) (g:TG) (tt:TT) (te:TE):TS:=fun D σ H=>wi σ H fun J H1=>∃ W:Nat→Nat→List V→Hp→Prop,(∃ m,W 0 m [] H1)∧
 CompW J g tt te (List.replicate k none++capσ σ caps) W fun ys H'=>∀ p,H' p=none→D.nx (σ.set i (some (.ref p))) (upd H' p (.lst ys))
theorem z324 {tg iter elt:Expr}{ifs:List Expr}{pos spos py:Pos}{y:Str}{i:Nat}{wi:TI}{g:TG}{tt:TT}{te:TE}(S:z8 X scope tn cn caps) (hc:Calm X) (hN:X.N.Nodup) (hy:X.N[i]?=some y) (hl:X.env.scope.names.lookup y=some .local)
  (hi:PI X tg iter wi)
  (hg:∀ cl C ex s₀ H₀,PG (cxComp X scope cl (tn++cn) C ex s₀ H₀) tg g) (ht:∀ cl C ex s₀ H₀,PTs (cxComp X scope cl (tn++cn) C ex s₀ H₀) ifs tt) (he:∀ cl C ex s₀ H₀,PE (cxComp X scope cl (tn++cn) C ex s₀ H₀) elt te)
  (hsw:swapsWith (.ListComp elt [⟨tg,iter,ifs,0⟩] scope pos) (some (.Name y py)) spos.line X.env=pure true)
  (hs:∀ x,foldedSetIterable iter X.env x=pure x:=by intro _;rfl):PS X (.Assign [.Name y py] (.ListComp elt [⟨tg,iter,ifs,0⟩] scope pos) spos) (sComp i wi tn.length caps g tt te):=by
 intro pins s σ H D I h
 obtain⟨cl,hcl0,hcl,hcl2⟩:=z149 (scope:=scope) (env:=X.env) fun x hx hf=>I.ok.has x.1 (S.caught x hx hf)
 rw [exec_Assign_Name_used _ _ _ _ hsw]
 refine wpAny_bind (wpAny_standAt (wpAny_bind ?_))
 show wpAny _ X.A (do let _ ← comprehension (.ListComp elt [⟨tg,iter,ifs,0⟩] scope pos) scope X.env _ (newList []) false (eval iter X.env) (some (assign (.Name y py) X.env))) _ _ s
 refine wpAny_bind (wpAny_mono (wpAny_comprehension_free (use:=some (assign (.Name y py) X.env)) (Q:=fun _ s'=>SP X pins D .next s') rfl hs hcl0 S.kind S.names
  (thn (hi pins s σ H _ I h) fun v s1 h1=>thn h1 fun itv s2 h2=>?_)) (fun _ s' hq=>wpAny_pure (wpAny_pure hq)) fun _ _ e=>e)
 obtain⟨it,fp,tnn,J,H2,e,I2,T,st2,f2,W,⟨m0,w0⟩,turn⟩:=h2
 subst e
 refine z323 (RR:=fun acc C=>compPost (model X.prog X.w) X.A X.xe (some (assign (.Name y py) X.env)) (fun _ s'=>SP X pins D .next s') acc C) S hc hcl hcl2 (hg cl) (ht cl) (he cl) I2 T st2 f2 turn w0 ?_
 intro p C s' H' ys m hD f I' fC hn
 show wpAny _ X.A (assign (.Name y py) X.env (.ref p)) _ _ _
 refine wpAny_assign_Name (store_ok2 (v:=.ref p) I' hN hy (.inl hl) rfl (fun s4 I4 ⟨a,hs4,ha⟩=>?_) (.inr hl))
 have hCa:C≠a:=by
  rcases ha with ha | ha
  ·rw [ha];exact fC.2.1
  ·exact fun z=>fC.2.2.2.2.1 y a ha z.symm
 refine⟨m,hn.sameBut hs4 hCa,fun h' hs'=>?_⟩
 have I'':=I4.turned (t':=s4.toks) (h':=h') (it:=C) (fun b o hb e=>hs'.extBut b o hb e) fC.1 fC.2.1 fC.2.2.2.1 fC.2.2.2.2.1 fC.2.2.2.2.2
 exact⟨_,_,I'',f p hD⟩
end
structure SrcIs (J:It) (H:Hp) (xs:List V):Prop where
 go:∀ i,i < xs.length→J.go i H
 yld:∀ i x H',i < xs.length→J.yld i H x H'→H'=H∧xs[i]?=some x
 stop:J.stop xs.length H
theorem src_list {K:PySem.W.Frag}{H:Hp}{a:Addr}{xs:List V}(h:SqL K H a xs):SrcIs (Itl K a) H xs:=
 ⟨fun i hi=>⟨xs,xs[i],h,by simp [hi]⟩,fun i x H' _ y=>⟨y.1,y.2 xs h⟩,⟨xs,h,Nat.le_refl _⟩⟩
theorem z642 {K:PySem.W.Frag}{H:Hp}{a:Addr}{xs:List V}(h:SqT K H a xs):SrcIs (Itt K a) H xs:=
 ⟨fun i hi=>⟨xs,xs[i],h,by simp [hi]⟩,fun i x H' _ y=>⟨y.1,y.2 xs h⟩,⟨xs,h,Nat.le_refl _⟩⟩
theorem z220 {x:V}{cs:St}:((some x::cs:St).length=(none::cs:St).length)∧∀ (j:Nat) (v:V),(none::cs:St)[j]?=some (some v)→(some x::cs:St)[j]?=some (some v):=by
 refine⟨by simp,fun j v h=>?_⟩
 cases j with
 | zero=>simp at h
 | succ j=>simpa using h
theorem z380 {J:It}{H:Hp}{xs:List V}{tt:TT}{te:TE}{cs:St}{F:List V→Hp→Prop}(S:SrcIs J H xs) (p:V→Bool) (f:V→V) (htt:∀ x∈xs,∀ Q:Bool→Hp→Prop,Q (p x) H→tt (some x::cs) H Q)
  (hte:∀ x∈xs,p x=true→∀ Q:VK,Q (f x) H→te (some x::cs) H Q) (hn:xs.length≤sizeLine) (hF:F ((xs.filter p).map f) H):
  ∃ W:Nat→Nat→List V→Hp→Prop,(∃ m,W 0 m [] H)∧CompW J (gName 0) tt te (none::cs) W F:=by
 refine⟨fun i m ys H'=>m=xs.length - i∧i≤xs.length∧H'=H∧ys=((xs.take i).filter p).map f,⟨xs.length,by simp,Nat.zero_le _,rfl,by simp⟩,?_⟩
 rintro i m ys H' ⟨rfl,hi,rfl,rfl⟩
 have hlen:(((xs.take i).filter p).map f).length≤sizeLine:=by
  rw [List.length_map]
  refine Nat.le_trans (List.length_filter_le _ _) ?_
  rw [List.length_take]
  omega
 by_cases hlt:i < xs.length
 ·refine .inr ⟨S.go i hlt,fun ys' H''=>H''=H'∧ys'=((xs.take (i + 1)).filter p).map f,fun ys' H'' h=>⟨xs.length - (i + 1),by omega,rfl,hlt,h.1,h.2⟩,fun x H'' y=>?_⟩
  obtain⟨rfl,hx⟩:=S.yld i x H'' hlt y
  have hm:x∈xs:=List.mem_of_getElem? hx
  have htk:xs.take (i + 1)=xs.take i++[x]:=by
   rw [List.take_add_one,hx];rfl
  show _∧_
  refine⟨z220,?_⟩
  refine htt x hm _ ?_
  cases hp:p x with
  | true=>
   rw [if_pos rfl]
   refine hte x hm hp _ ⟨hlen,rfl,?_⟩
   rw [htk,List.filter_append,List.map_append]
   simp [hp]
  | false=>
   rw [if_neg (by decide)]
   refine⟨rfl,?_⟩
   rw [htk,List.filter_append,List.map_append]
   simp [hp]
 ·have e:i=xs.length:=by omega
  subst e
  refine .inl ⟨S.stop,hlen,?_⟩
  rw [List.take_length]
  exact hF
theorem z635 {J:It}{H:Hp}{n:Nat}{x:Nat→V}{tt:TT}{te:TE}{cs:St}{F:List V→Hp→Prop}(Pv:Nat→List V→Hp→Prop) (h0:Pv 0 [] H)
  (hgo:∀ i ys H,i < n→Pv i ys H→J.go i H∧∀ y H',J.yld i H y H'→H'=H∧y=x i) (hstop:∀ ys H,Pv n ys H→J.stop n H)
  (hs:∀ i ys H,i < n→Pv i ys H→tt (some (x i)::cs) H fun b H3=>if b=true then te (some (x i)::cs) H3 fun y H4=>ys.length≤sizeLine∧Pv (i + 1) (ys++[y]) H4 else Pv (i + 1) ys H3)
  (hd:∀ ys H,Pv n ys H→ys.length≤sizeLine∧F ys H):
  ∃ W:Nat→Nat→List V→Hp→Prop,(∃ m,W 0 m [] H)∧CompW J (gName 0) tt te (none::cs) W F:=by
 refine⟨fun i m ys H=>m=n - i∧i≤n∧Pv i ys H,⟨n,by simp,Nat.zero_le _,h0⟩,?_⟩
 rintro i m ys H ⟨rfl,hi,p⟩
 by_cases hlt:i < n
 ·obtain⟨g1,g2⟩:=hgo i ys H hlt p
  refine .inr ⟨g1,Pv (i + 1),fun ys' H' h=>⟨n - (i + 1),by omega,rfl,hlt,h⟩,fun y H' yl=>?_⟩
  obtain⟨rfl,rfl⟩:=g2 y H' yl
  exact⟨z220,hs i ys _ hlt p⟩
 ·have e:i=n:=by omega
  subst e
  obtain⟨h1,h2⟩:=hd ys H p
  exact .inl ⟨hstop ys H p,h1,h2⟩
theorem cxK {CX:CXT}{P:Program}{w:World}{K:PySem.W.Frag}{mg:Str→Option Value}{base:Heap}{N:List Str}{qual:Str}{scope:Scope}{f:Addr}{cd:Value}{A:Around}{outer:List Env}{s:Shared}{H:Hp}{E:XK}:(cxOf CX P w K mg base N qual scope f cd A outer s H E).K=K:=rfl
theorem cxA {CX:CXT}{P:Program}{w:World}{K:PySem.W.Frag}{mg:Str→Option Value}{base:Heap}{N:List Str}{qual:Str}{scope:Scope}{f:Addr}{cd:Value}{A:Around}{outer:List Env}{s:Shared}{H:Hp}{E:XK}:(cxOf CX P w K mg base N qual scope f cd A outer s H E).A=A.deeper (envOfC qual scope s.heap.objs.size f cd):=rfl
theorem cxKc {X:Cx}{scope:Scope}{cl:List (Str × Addr)}{N:List Str}{C:Addr}{ex:List Addr}{s₀:Shared}{H₀:Hp}:(cxComp X scope cl N C ex s₀ H₀).K=X.K:=rfl
theorem cxAc {X:Cx}{scope:Scope}{cl:List (Str × Addr)}{N:List Str}{C:Addr}{ex:List Addr}{s₀:Shared}{H₀:Hp}:(cxComp X scope cl N C ex s₀ H₀).A=X.A:=rfl
end L2
set_option Elab.async false
set_option linter.all false
set_option maxRecDepth 100000
namespace L2
open PySem PySem.Spec PyProof.Rows
section
variable {X:Cx}
theorem all_range (bs:List Bool):(List.range bs.length).all (fun i=>bs.getD i false)=bs.all id:=by
 rw [Bool.eq_iff_iff,List.all_eq_true,List.all_eq_true]
 constructor
 ·intro h b hb
  obtain⟨i,hi,e⟩:=List.mem_iff_getElem.mp hb
  have q:=h i (List.mem_range.mpr hi)
  simpa [List.getD,hi,e] using q
 ·intro h i hi
  have hi':=List.mem_range.mp hi
  have q:=h bs[i] (List.getElem_mem hi')
  simpa [List.getD,hi'] using q
theorem z322:CallR X (.builtin "all") (fun xs H Q=>∃ (a:Addr) (bs:List Bool),xs=[.ref a]∧X.A.handled=none∧SqL X.K H a (bs.map V.bl)∧Q (.bl (bs.all id)) H):=by
 intro pins s σ H xs us Q I r h
 obtain⟨a,bs,rfl,hh,hq,q⟩:=h
 obtain⟨u,rfl,ru⟩:=vals1 r
 cases ru
 obtain⟨its,rv,p,hz⟩:=I.list hq
 have hl:=rv.length
 rw [List.length_map] at hl
 obtain⟨o,ho,_⟩:=id p.isList
 have hlt:=Heap.lt_size ho
 refine call_all_walk (wpAny_pyIter_list p.isList ?_)
 refine⟨s.heap.objs.size,_,_,_,_,_,fun i=>bs.getD i false,rfl,Walks.list (A:=X.A.in1) hh s.heap.objs.size a (Nat.ne_of_lt hlt) its.toArray,⟨⟨_,Heap.get?_push_size _ rfl,rfl,rfl⟩,p.isList.at fun o e=>Heap.get?_push_of_some _ e⟩,?_,fun h' tk hk=>?_⟩
 ·intro i v s' Q' E' hv hQ
  have hv:its.toArray[i]?=some v:=hv
  have hi:its[i]?=some v:=by simpa using hv
  have hib:i < bs.length:=by rw [hl];exact(List.getElem?_eq_some_iff.mp hi).1
  obtain⟨u,hu,ru⟩:=rv.get (i:=i) (x:=V.bl bs[i]) (by simp [hib])
  rw [hi] at hu
  cases hu
  cases ru
  refine wpAny_truthy_bool ?_
  have e:bs.getD i false=bs[i]:=by simp [List.getD,hib]
  rw [← e]
  exact hQ
 ·rw [List.size_toArray,← hl,all_range]
  refine⟨.bl (bs.all id),H,I.kept fun b o e=>?_,rfl,q⟩
  exact hk b o (fun z=>Nat.lt_irrefl _ (by have:=Heap.lt_size e;rw [List.mem_singleton.mp z] at this;exact this)) (Heap.get?_push_of_some _ e)
end
end L2
set_option Elab.async false
set_option linter.all false
set_option maxRecDepth 100000
namespace L2
open PySem PySem.Spec PyProof.Rows
mutual
inductive Den (K:PySem.W.Frag) (H:Hp):V→PyData→Prop
 | non:Den K H .non .none
 | bl (b:Bool):Den K H (.bl b) (.bool b)
 | int (i:Int):Den K H (.int i) (.int i)
 | str (x:Str):Den K H (.str x) (.str x)
 | lst {a:Addr}{xs:List V}{ds:List PyData}:SqL K H a xs→DenAll K H xs ds→Den K H (.ref a) (.list ds)
 | tup {a:Addr}{xs:List V}{ds:List PyData}:SqT K H a xs→DenAll K H xs ds→Den K H (.ref a) (.tuple ds)
inductive DenAll (K:PySem.W.Frag) (H:Hp):List V→List PyData→Prop
 | nil:DenAll K H [] []
 | cons {x:V}{xs:List V}{d:PyData}{ds:List PyData}:Den K H x d→DenAll K H xs ds→DenAll K H (x::xs) (d::ds)
end
section
variable {X:Cx}{pins:List (Addr × Obj)}{σ:St}{H:Hp}{s:Shared}
mutual
theorem Den.reads (I:Inv X pins σ H s):∀ {x:V}{d:PyData}{u:Value},Den X.K H x d→RelV x u→∃ as,Reads s.heap u d as
 | _,_,_,.non,r=>by cases r;exact⟨_,Reads.none⟩
 | _,_,_,.bl b,r=>by cases r;exact⟨_,Reads.bool b⟩
 | _,_,_,.int i,r=>by obtain⟨t,rfl⟩:=r;exact⟨_,Reads.int i t⟩
 | _,_,_,.str x,r=>by obtain⟨t,rfl⟩:=r;exact⟨_,Reads.str x t⟩
 | _,_,_,.lst h hs,r=>by
  cases r
  obtain⟨its,rv,p,hz⟩:=I.list h
  obtain⟨as,q⟩:=DenAll.reads I hs rv
  obtain⟨o,ho,hc,n,hd⟩:=p.isList
  exact⟨_,reads_list_at ho hc hd (by simpa using q)⟩
 | _,_,_,.tup h hs,r=>by
  cases r
  obtain⟨its,rv,p,hz⟩:=I.tuple h
  obtain⟨as,q⟩:=DenAll.reads I hs rv
  obtain⟨o,ho,hc,n,hd⟩:=(show s.heap.IsTuple _ _ from p)
  exact⟨_,reads_tuple_at ho hc hd (by simpa using q)⟩
theorem DenAll.reads (I:Inv X pins σ H s):∀ {xs:List V}{ds:List PyData}{us:List Value},DenAll X.K H xs ds→Vals xs us→∃ as,ReadsAll s.heap us ds as
 | _,_,_,.nil,r=>by cases r;exact⟨_,ReadsAll.nil⟩
 | _,_,_,.cons h hs,r=>by
  cases r with
  | cons r rr=>
   obtain⟨as,q⟩:=Den.reads I h r
   obtain⟨bs,p⟩:=DenAll.reads I hs rr
   exact⟨_,ReadsAll.cons q p⟩
end
def rEqD (K:PySem.W.Frag) (neg:Bool):R2:=fun x y H Q=>∃ d e,Den K H x d∧Den K H y e∧SeqAt.shaped d=true∧SeqAt.shaped e=true∧Q (.bl (if neg then !PyData.eqv d e else PyData.eqv d e)) H
theorem op_eqD (hu:X.A.units + 64 < cLine):OpR X (compareOp .Eq) (rEqD X.K false):=by
 intro pins s σ H x y v u Q I rx ry h
 obtain⟨d,e,hd,he,sd,se,q⟩:=h
 obtain⟨as,ra⟩:=hd.reads I rx
 obtain⟨bs,rb⟩:=he.reads I ry
 exact eq_dataH ra rb sd se hu (fin_bl I q rfl)
theorem op_neD (hu:X.A.units + 64 < cLine):OpR X (compareOp .NotEq) (rEqD X.K true):=by
 intro pins s σ H x y v u Q I rx ry h
 obtain⟨d,e,hd,he,sd,se,q⟩:=h
 obtain⟨as,ra⟩:=hd.reads I rx
 obtain⟨bs,rb⟩:=he.reads I ry
 exact ne_dataH ra rb sd se hu (fin_bl I q rfl)
end
theorem z187 {K:PySem.W.Frag}{H:Hp}:∀ ns:List Int,DenAll K H (ns.map V.int) (ns.map PyData.int)
 | []=>.nil
 | n::r=>.cons (.int n) (z187 r)
section
variable {X:Cx}
theorem z56:CallR X (.builtin "isinstance") (fun xs H Q=>∃ x n t b,xs=[x,.ty n]∧TyOf X.K H x t∧PySem.W.kitOne X.K t (.type n)=some b∧Q (.bl b) H):=by
 intro pins s σ H xs us Q I r h
 obtain⟨x,n,t,b,rfl,ty,e,q⟩:=h
 obtain⟨u,v,rfl,ru,rv⟩:=vals2 r
 cases rv
 exact isinst_ok I ru ty e fun tk=>⟨.bl b,H,I.tok _,rfl,q⟩
end
end L2
set_option Elab.async false
set_option linter.all false
set_option maxRecDepth 100000
namespace L2
open PySem PySem.Spec PyProof.Rows
namespace RevF
end RevF
section
variable {X:Cx}
end
end L2
set_option Elab.async false
set_option linter.all false
set_option maxRecDepth 100000
namespace L2
open PySem PySem.Spec PyProof.Rows
section
variable {X:Cx}
end
end L2
set_option Elab.async false
set_option linter.all false
set_option maxRecDepth 100000
namespace L2
open PySem PySem.Spec PyProof.Rows
theorem vis_of {X:Cx}{sc:Scope}{x:Str}(h:Vis sc x) (e:X.env.scope=sc:=by rfl):Vis X.env.scope x:=e ▸ h
theorem gl_of {X:Cx}{sc:Scope}{x:Str}(h:sc.names.lookup x=some .globalImplicit) (e:X.env.scope=sc:=by rfl):Gl X x:=by
 show X.env.scope.names.lookup x=_
 rw [e]
 exact h
theorem loc_of {X:Cx}{sc:Scope}{x:Str}(h:sc.names.lookup x=some .local∨sc.names.lookup x=some .cell) (e:X.env.scope=sc:=by rfl):Loc X.env.scope x:=e ▸ h
def plainE:Expr→Bool
 | .Starred _ _=>false
 | _=>true
def plainAll:List Expr→Bool
 | []=>true
 | e::r=>plainE e && plainAll r
theorem stp {e:Expr}{es:List Expr}{env:Env}(h:plainE e=true):starEach (e::es) env=(false,eval e env)::starEach es env:=by
 cases e <;> first | rfl | cases h
theorem st1 {e:Expr}{env:Env}(h:plainE e=true):starEach [e] env=[(false,eval e env)]:=by
 rw [stp h];rfl
theorem st2 {e d:Expr}{env:Env}(h:plainE e=true) (h2:plainE d=true):starEach [e,d] env=[(false,eval e env),(false,eval d env)]:=by
 rw [stp h,st1 h2]
theorem anp {env:Env}{pos:Pos}:∀ {es:List Expr},plainAll es=true→(backTo pos (starEach es env)).any (·.1)=false
 | [],_=>rfl
 | e::r,h=>by
  have h':(plainE e && plainAll r)=true:=h
  rw [Bool.and_eq_true] at h'
  rw [stp h'.1]
  show (false || (backTo pos (starEach r env)).any (·.1))=false
  rw [anp h'.2]
  rfl
end L2
set_option Elab.async false
set_option linter.all false
set_option maxRecDepth 100000
namespace HT
open PySem PyProof.Rows
section
variable {prog:Program}{w:World}{A:Around}{E:Value→Shared→Prop}{s:Shared}
theorem z200 {t sl:Addr}{items:Array Value}{vl vu:Value}{lo hi:Option Int}{Q:Value→Shared→Prop}(ht:IsTup s.heap t items) (hs:s.heap.IsSliceOf sl vl vu .none) (pl:IsPart vl lo) (pu:IsPart vu hi)
  (hw:sIx items.size 0 lo=0∧sIx items.size items.size hi=items.size)
  (h:Q (.ref t) s):wpAny (model prog w) A (getItem (.ref t) (.ref sl)) Q E s:=by
 obtain⟨os,hos,hcs,hds⟩:=id hs
 have hTs:s.TypeIs (.ref sl) "slice":=⟨os,hos,hcs⟩
 unfold getItem
 try with_reducible refine wpAny_holding ?_
 first | refine wpAny_bind (wpAny_pure ?_) | skip
 refine wpAny_bind (wpAny_sequenceKey ht.typeIs (by decide) ?_)
 refine wpAny_bind (wpAny_callSpecial?_slot (name:=Str.ofString "__getitem__") ht.typeIs PyProof.Rows.slot_tuple_getitem
  (wpAny_call_entry PyProof.Rows.slot_tuple_getitem ht.typeIs entry_tuple_getitem ?_ (args_tuple_getitem _ _)))
 show wpAny _ _ (Builtin.Tuple.tupleItemsOf (.ref t) >>= _) _ _ s
 refine wpAny_bind (tupleItemsOf_ ht ?_)
 refine wpAny_bind (wpAny_typeOf hTs ?_)
 rw [if_pos (by decide)]
 refine wpAny_bind (sliceApplied_gen hs pl pu ?_)
 have hyes:(((sIx items.size 0 lo:Nat):Int) == 0 && (1:Int) == 1 && (sIx items.size items.size hi - sIx items.size 0 lo) == items.size)=true:=by
  rw [hw.1,hw.2]
  simp
 show wpAny _ _ (if (((sIx items.size 0 lo:Nat):Int) == 0 && (1:Int) == 1 && (sIx items.size items.size hi - sIx items.size 0 lo) == items.size)=true then _ else _) _ _ s
 rw [if_pos hyes]
 unfold Builtin.Tuple.tupleIsExact
 refine wpAny_bind (wpAny_bind (wpAny_typeOf ht.typeIs (wpAny_pure ?_)))
 rw [if_pos (by decide)]
 refine wpAny_bind (wpAny_rule ?_)
 exact wpAny_pure ⟨_,rfl,wpAny_pure h⟩
end
end HT
namespace L2
open PySem PySem.Spec PyProof.Rows
section
variable {X:Cx}
def rSlA (K:PySem.W.Frag):V→Option Int→Option Int→Hp→VK→Prop:=fun x lo hi H Q=>∃ a xs,x=.ref a∧SqT K H a xs∧
 ((HT.sIx xs.length 0 lo=0∧HT.sIx xs.length xs.length hi=xs.length)→Q (.ref a) H)∧
 (¬ (HT.sIx xs.length 0 lo=0∧HT.sIx xs.length xs.length hi=xs.length)→∀ p,H p=none→Q (.ref p) (upd H p (.tup (cutV xs lo hi))))
theorem z565:SlR X (rSlA X.K):=by
 intro pins s σ H x v vl vu lo hi sl Q I rx hs pl pu h
 obtain⟨a,xs,rfl,hx,h1,h2⟩:=h
 by_cases hw:HT.sIx xs.length 0 lo=0∧HT.sIx xs.length xs.length hi=xs.length
 ·cases rx
  obtain⟨its,r,ht,hz⟩:=I.tuple hx
  have hlen:its.toArray.size=xs.length:=by rw [List.size_toArray];exact r.length.symm
  refine⟨"tuple",_,PyProof.Rows.slot_tuple_getitem.lookup,ht.typeIs,?_⟩
  exact HT.z200 ht hs pl pu (by rw [hlen];exact hw) ⟨.ref a,H,I,rfl,h1 hw⟩
 ·exact sl_tup pins s σ H _ v vl vu lo hi sl Q I rx hs pl pu ⟨a,xs,rfl,hx,hw,h2 hw⟩
theorem z474:OpR X (binaryOp .Mult) (rI IntMulOk fun i j=>.int (i * j)):=opI fun _ _ _ _ _ _ _ hc q=>mul_int q hc
end
def Bits (i:Int):Prop:=Builtin.Int.intBits i≤2 ^ 20
theorem z610 {i:Int}(h:Bits i):i.natAbs < 2 ^ (2 ^ 20):=by
 unfold Bits Builtin.Int.intBits at h
 split at h
 ·rename_i h0
  have:i=0:=by simpa using h0
  rw [this]
  exact Nat.pow_pos (by decide)
 ·rename_i h0
  have h0':i.natAbs≠0:=by
   intro z
   apply h0
   have:i=0:=by omega
   rw [this];rfl
  exact(Nat.log2_lt h0').mp (by omega)
theorem z500:Bits 0:=by unfold Bits;decide +kernel
theorem z421 {i j c d:Int}(hc:Bits c) (hd:Bits d) (h1:(i - c).natAbs≤1000000) (h2:(j - d).natAbs≤1000000):IntMulOk i j:=by
 have key:∀ {i c:Int},Bits c→(i - c).natAbs≤1000000→Builtin.Int.intBits i≤2 ^ 20 + 1:=by
  intro i c hc h
  have hb:=z610 hc
  have hlt:i.natAbs < 2 ^ (2 ^ 20 + 1):=by
   rw [Nat.pow_succ]
   have h20:1000000≤2 ^ 20:=by decide
   have hle:2 ^ 20≤2 ^ (2 ^ 20):=Nat.pow_le_pow_right (by decide) (by decide)
   have:i.natAbs≤c.natAbs + (i - c).natAbs:=by omega
   generalize 2 ^ (2 ^ 20)=B at *
   omega
  unfold Builtin.Int.intBits
  split
  ·exact Nat.zero_le _
  ·rename_i h0
   have h0':i.natAbs≠0:=by
    intro z
    apply h0
    have:i=0:=by omega
    rw [this];rfl
   have:=(Nat.log2_lt h0').mpr hlt
   omega
 exact IntMulOk.of_le (key hc h1) (key hd h2) (by decide)
theorem z318:∀ {ns:List Int}{m:Nat},PySem.W.WData.weightAll (ns.map PySem.W.WData.int)≤m→∀ i∈ns,Builtin.Int.intBits i≤m
 | [],_,_,i,h=>absurd h (by simp)
 | n::r,m,hw,i,h=>by
  have hw:Builtin.Int.intBits n + 1 + PySem.W.WData.weightAll (r.map PySem.W.WData.int)≤m:=hw
  rcases List.mem_cons.mp h with e | e
  ·rw [e];omega
  ·exact z318 (by omega) i e
theorem z345 {l:PySem.W.OpenLaw}{n:Nat}{q:Program}{loose:List Str}{XP:(Str→Option Value)→Heap→Prop}{YP:World→Heap→Prop}{d:DefRec}
  (hn:l.most=some n) (hdf:d.params.defaults=[])
  (call:∀ (w:World) (s₀ s₁:Shared) (mg mb:Str→Option Value) (fa:Addr) (o:Obj) (pm cd doc:Value) (a:Addr) (vs:List Value) (ns:List Int),
   PySem.W.Ground q loose [] XP w s₀ mg mb s₁.heap→YP w s₁.heap→
   s₁.heap.get? fa=some o→o.data=.func (Calls.docDef d.name d.params d.body d.scope pm cd doc)→s₁.heap.CodeRec cd d.name→mg d.name=some (.ref fa)→
   s₁.heap.get? a=some { cls:=.type "list",data:=.seq vs.toArray }→IntsAre vs ns→ns.length≤n→(∀ i∈ns,Bits i)→s₁.gens=#[]→
   codeAny (model l.prog w) callerA (.call (.ref fa) ⟨[.ref a],[]⟩) (fun r s'=>r=.ok (.ret (.bool true))∧OldK s₁.heap s'.heap∧s'.os=s₁.os∧AllBare s'.gens) s₁):
  PySem.W.WalkO q loose XP YP l.row.toRowW d [] (fun f vs=>PySem.call f vs):=by
 intro w s₀ s₁ mg mb G Y fa o pm cd doc dV kV ho hd hcd hD hmg hg args vals as hpre hlay hrd hwl hlo
 obtain rfl:dV=.none:=PySem.W.Dflts.none hD hdf
 obtain rfl:kV=.none:=PySem.W.Dflts.noKw hD
 obtain⟨a,vs,ns,rfl,rfl,hobj,hints,hlen⟩:=Att.script_of hn hpre hwl
 have hb:∀ i∈ns,Bits i:=by
  have h1:(PySem.W.WData.layable (.list (ns.map PySem.W.WData.int)) && true)=true:=hlay
  rw [Bool.and_true] at h1
  have h2:(PySem.W.WData.canLay (.list (ns.map PySem.W.WData.int)) && decide (PySem.W.WData.depth (.list (ns.map PySem.W.WData.int))≤64) && decide (PySem.W.WData.weight (.list (ns.map PySem.W.WData.int))≤2 ^ 20))=true:=h1
  rw [Bool.and_eq_true] at h2
  exact z318 (of_decide_eq_true h2.2)
 refine PySem.W.enter_call (codeAny_mono (call w s₀ s₁ mg mb fa o pm cd doc a vs ns G Y ho (PySem.W.fd_plain hd) hcd hmg hobj hints hlen hb hg) fun r s' hq=>?_)
 obtain⟨rfl,h2,h3,h4⟩:=hq
 exact⟨.inl ⟨.bool true,.bool true,[],rfl,fun _=>rfl,.bool true,Att.post_true l _,fun _=>⟨List.Pairwise.nil,fun _ hm=>(nomatch hm)⟩⟩,h2,h3,h4⟩
theorem z599 {l:PySem.W.OpenLaw}{n k:Nat}{q:Program}{loose:List Str}{XP:(Str→Option Value)→Heap→Prop}{YP:World→Heap→Prop}{d:DefRec}{K:Params→PySem.W.Frag}{CX:World→CXT}{sp:World→Sp}{x:Str}
  (hn:l.most=some n) (hn2:n≤sizeLine) (hdf:d.params.defaults=[]) (hr:Room k callerA)
  (hY:∀ (w:World) (h:Heap),YP w h→(K w.params).In h)
  (F:∀ (w:World) (mg:Str→Option Value) (fa:Addr) (h:Heap),(K w.params).In h→h.Ns mainGlobals mg→mg d.name=some (.ref fa)→
   ∃ fd:FuncData,(∀ (s:Shared) (u:Value),BindsTo s fd ⟨[u],[]⟩ [(x,u)])∧
    ∀ base:Heap,(K w.params).In base→base.Ns mainGlobals mg→FnOk l.prog w (K w.params) mg base (CX w) k fa fd [x] (sp w))
  (hsp:∀ (w:World) (H:Hp) (a:Addr) (ns:List Int),ns.length≤n→(∀ i∈ns,Bits i)→Only H→SqL (K w.params) H a (ns.map V.int)→sp w [.ref a] H (fun v _=>v=.bl true) fun _ _ _=>False)
  (hCX:∀ (w:World) (H:Hp) (s:Shared) (e:Value) (s':Shared),CX w [] H s (fun _ _ _=>False) e s'→False):
  PySem.W.WalkO q loose XP YP l.row.toRowW d [] (fun f vs=>PySem.call f vs):=by
 refine z345 hn hdf fun w s₀ s₁ mg mb fa o pm cd doc a vs ns G Y ho hd hcd hmg hobj hints hlen hbits hg=>?_
 have KX:=hY w _ Y
 obtain⟨fd,hb,hF⟩:=F w mg fa _ KX G.T.g hmg
 exact law_call KX G.T.g G.T.b G.T.builtins G.T.nolimit hg hobj hints (Nat.le_trans hlen hn2) hr hF hb (fun H hO hS=>hsp w H a ns hlen hbits hO hS) fun H e s'=>hCX w H s₁ e s'
end L2
set_option Elab.async false
set_option linter.all false
set_option maxRecDepth 100000
namespace L2
open PySem PySem.Spec PyProof.Rows
def ForJ (J:It) (g:TG) (tb:TS) (D:Ends) (σ:St) (H1:Hp):Prop:=∃ W:Nat→Nat→St→Hp→Prop,(∃ m,W 0 m σ H1)∧∀ i m σ H,W i m σ H→
 (J.stop i H∧D.nx σ H)∨(J.go i H∧∃ N:St→Hp→Prop,(∀ σ' H',N σ' H'→∃ m',m' < m∧W (i + 1) m' σ' H')∧∀ x H',J.yld i H x H'→g x σ H' fun σ2 H2=>tb { D with nx:=N,ct:=N,bk:=D.nx } σ2 H2)
theorem z545 {wi:TI}{g:TG}{tb:TS}{D:Ends}{σ:St}{H:Hp}:tFor wi g tb D σ H=wi σ H fun J H1=>ForJ J g tb D σ H1:=rfl
theorem z0 {H:Hp}{p:Addr}{o:HO}(h:H p=none):Same H (upd H p o):=fun b u e=>by rw [upd_ne (ne_of_none e h)];exact e
theorem z232 {H H1:Hp}{p:Addr}{o:HO}(h:Same H H1) (hp:H p=none):Same H (upd H1 p o):=fun b u e=>by rw [upd_ne (ne_of_none e hp)];exact h b u e
theorem z468 {cs:List Int}{i:Int}(h0:0≤i) (h1:i < cs.length):atI (cs.map V.int) i=some (V.int (cs.getD i.toNat 0)):=by
 obtain⟨j,rfl⟩:=Int.eq_ofNat_of_zero_le h0
 have hj:j < cs.length:=by omega
 refine atI_nat ?_
 simp [hj]
theorem getD_in {cs:List Int}{j:Nat}(h:j < cs.length):cs.getD j 0∈cs:=by
 simp [List.getD,h]
theorem z589 {K:PySem.W.Frag}{H:Hp}{a:Addr}{ns:List Int}(h:SqL K H a (ns.map V.int)):Den K H (.ref a) (.list (ns.map PyData.int)):=.lst h (z187 ns)
theorem z521 {K:PySem.W.Frag}{H:Hp}{a:Addr}{ns:List Int}(h:SqT K H a (ns.map V.int)):Den K H (.ref a) (.tuple (ns.map PyData.int)):=.tup h (z187 ns)
theorem z179:∀ ns:List Int,PyData.canLayAll0 (ns.map PyData.int)=true
 | []=>rfl
 | n::r=>by simp [PyData.canLayAll0,PyData.canLay0,z179 r]
theorem z230:∀ ns:List Int,PyData.depthAll (ns.map PyData.int)=0
 | []=>rfl
 | n::r=>by simp [PyData.depthAll,PyData.depth,z230 r]
theorem shaped_ints (ns:List Int):SeqAt.shaped (.list (ns.map PyData.int))=true:=by
 simp [SeqAt.shaped,PyData.canLay0,PyData.depth,z179 ns,z230 ns]
mutual
theorem z356:∀ d:PyData,d.canLay0=true→PyData.eqv d d=true
 | .none,_=>rfl
 | .bool b,_=>by simp [PyData.eqv]
 | .int i,_=>by simp [PyData.eqv]
 | .str x,_=>by simp [PyData.eqv]
 | .list xs,h=>by
  have h':PyData.canLayAll0 xs=true:=h
  show PyData.eqvAll xs xs=true
  exact z183 xs h'
 | .tuple xs,h=>by
  have h':PyData.canLayAll0 xs=true:=h
  show PyData.eqvAll xs xs=true
  exact z183 xs h'
 | .dict _,h=>by cases h
theorem z183:∀ ds:List PyData,PyData.canLayAll0 ds=true→PyData.eqvAll ds ds=true
 | [],_=>rfl
 | d::r,h=>by
  have h':(PyData.canLay0 d && PyData.canLayAll0 r)=true:=h
  rw [Bool.and_eq_true] at h'
  show (PyData.eqv d d && PyData.eqvAll r r)=true
  rw [z356 d h'.1,z183 r h'.2]
  rfl
end
end L2
set_option Elab.async false
set_option linter.all false
set_option maxRecDepth 100000
namespace HT
open PySem PyProof.Rows
section
variable {prog:Program}{w:World}{A:Around}{E:Value→Shared→Prop}{s:Shared}
theorem z190 {α β:Type}{f:α→Option β}{g:α→β}:∀ {l:List α},(∀ m∈l,f m=some (g m))→l.filterMap f=l.map g
 | [],_=>rfl
 | a::r,h=>by
  rw [List.filterMap_cons,h a List.mem_cons_self,List.map_cons,z190 fun m hm=>h m (List.mem_cons_of_mem _ hm)]
theorem z588 (xs:Array Value):((List.range xs.size).filterMap fun(m:Nat)=>xs[(((xs.size:Int) - 1) + (m:Int) * (-1)).toNat]?).toArray=xs.toList.reverse.toArray:=by
 congr 1
 refine List.ext_getElem? fun j=>?_
 have e:∀ m∈List.range xs.size,xs[(((xs.size:Int) - 1) + (m:Int) * (-1)).toNat]?=some (xs.getD (xs.size - 1 - m) .none):=fun m hm=>by
  have hm':m < xs.size:=List.mem_range.mp hm
  have e1:(((xs.size:Int) - 1) + (m:Int) * (-1)).toNat=xs.size - 1 - m:=by omega
  rw [e1]
  have:xs.size - 1 - m < xs.size:=by omega
  simp [Array.getD,this]
 rw [z190 (g:=fun m=>xs.getD (xs.size - 1 - m) Value.none) e,List.getElem?_map]
 by_cases hj:j < xs.size
 ·rw [List.getElem?_reverse (by simpa using hj)]
  have:xs.size - 1 - j < xs.size:=by omega
  simp [hj,Array.getD,this]
 ·rw [List.getElem?_eq_none (by simpa using hj),List.getElem?_eq_none (by simpa using hj)]
  rfl
end
end HT
namespace L2
open PySem PySem.Spec PyProof.Rows
section
variable {X:Cx}{pos:Pos}
end
end L2
set_option Elab.async false
set_option linter.all false
set_option maxRecDepth 100000
namespace L2
open PySem PySem.Spec PyProof.Rows
section
variable {X:Cx}
end
end L2
set_option Elab.async false
set_option linter.all false
set_option maxRecDepth 100000
namespace L2
open PySem PySem.Spec PyProof.Rows
section
variable {X:Cx}{K:PySem.W.Frag}
theorem z189 (hK:X.K=K):IxR X (rIxL K):=by subst hK;exact ix_list
theorem z267 (hK:X.K=K):IxR X (rIxT K):=by subst hK;exact ix_tup
theorem z655 (hK:X.K=K) (hu:X.A.units + 64 < cLine):OpR X (compareOp .NotEq) (rEqD K true):=by subst hK;exact op_neD hu
theorem z320 (hK:X.K=K):OpR X (compareOp .In) (rIn K false):=by subst hK;exact op_in_seq
theorem z304 (hK:X.K=K):CallR X (.builtin "len") (fun xs H Q=>∃ p ys,xs=[.ref p]∧(SqL K H p ys∨SqT K H p ys)∧Q (.int ys.length) H):=by subst hK;exact call_len_seq
end
theorem z127 {K:PySem.W.Frag}{a:Addr}{H:Hp}{xs:List V}{tt:TT}{te:TE}{cs:St}{F:List V→Hp→Prop}(Pv:Nat→List V→Hp→Prop) (h0:Pv 0 [] H) (hl:∀ i ys H,i≤xs.length→Pv i ys H→SqL K H a xs)
  (hs:∀ i x ys H,xs[i]?=some x→Pv i ys H→tt (some x::cs) H fun b H3=>if b=true then te (some x::cs) H3 fun y H4=>ys.length≤sizeLine∧Pv (i + 1) (ys++[y]) H4 else Pv (i + 1) ys H3)
  (hd:∀ ys H,Pv xs.length ys H→ys.length≤sizeLine∧F ys H):
  ∃ W:Nat→Nat→List V→Hp→Prop,(∃ m,W 0 m [] H)∧CompW (Itl K a) (gName 0) tt te (none::cs) W F:=by
 refine⟨fun i m ys H'=>m=xs.length - i∧i≤xs.length∧Pv i ys H',⟨xs.length,by simp,Nat.zero_le _,h0⟩,?_⟩
 rintro i m ys H' ⟨rfl,hi,p⟩
 have q:=hl i ys H' hi p
 have S:=src_list q
 by_cases hlt:i < xs.length
 ·refine .inr ⟨S.go i hlt,fun ys' H''=>Pv (i + 1) ys' H'',fun ys' H'' p'=>⟨xs.length - (i + 1),by omega,rfl,hlt,p'⟩,fun x H'' y=>?_⟩
  obtain⟨e1,e2⟩:=S.yld i x H'' hlt y
  subst e1
  refine⟨⟨rfl,fun j v hj=>?_⟩,?_⟩
  ·cases j with
   | zero=>cases hj
   | succ j=>exact hj
  ·exact hs i x ys H'' e2 p
 ·have e:i=xs.length:=by omega
  subst e
  exact .inl ⟨S.stop,hd ys H' p⟩
theorem z571 {z:Int}{xs:List Int}:inV (V.int z) (xs.map V.int)=decide (z∈xs):=by
 unfold inV
 rw [Bool.eq_iff_iff,List.any_eq_true,decide_eq_true_eq]
 constructor
 ·rintro⟨y,hy,e⟩
  obtain⟨x,hx,rfl⟩:=List.mem_map.mp hy
  have:(x == z)=true:=e
  rw [← eq_of_beq this]
  exact hx
 ·intro h
  exact⟨V.int z,List.mem_map.mpr ⟨z,h,rfl⟩,by show (z == z)=true;simp⟩
end L2
set_option Elab.async false
set_option linter.all false
set_option maxRecDepth 100000
namespace L2
open PySem PyProof.Rows PySem.Calls
def XAt (B:Heap) (e:Addr) (cls:Value) (dx:Option Addr) (fl:Value) (h:Heap):Prop:=
 ∃ (vs:Array Value) (sl:Array (Option Value)) (T:Addr) (oT:Obj) (ts:Array Value),h.get? e=some ⟨cls,dx,.fields vs,sl⟩∧vs[2]?=some Value.none∧vs[1]?=some (.ref T)∧B.get? T=none∧T≠e∧h.get? T=some oT∧oT.data=.fields ts∧ts[3]?=some fl
structure Fly (B:Heap) (l:List Env) (e:Addr) (cls:Value) (dx:Option Addr) (fl:Value) (h:Heap):Prop where
 st:B.StaysIn h
 new:B.get? e=none
 fr:h.FunFrames B l
 at_:XAt B e cls dx fl h
section
variable {M:Model}{A:Around}{E:Value→Shared→Prop}{s:Shared}{B:Heap}{env:Env}{outer l:List Env}{L e:Addr}{cls:Value}{dx:Option Addr}{Q:Unit→Shared→Prop}
theorem z314 {vs:Array Value}{sl:Array (Option Value)}{head:Value}{had:Bool}(hfr:A.frames=some (env::outer)) (hf:env.frame=some L) (st:B.StaysIn s.heap) (hn:B.get? e=none) (fr:s.heap.FunFrames B (env::outer))
  (he:s.heap.get? e=some ⟨cls,dx,.fields vs,sl⟩) (h2:vs[2]?=some Value.none) (k:∀ h',Fly B (env::outer) e cls dx (rawInt L) h'→s.heap.UpToSlots h'→Q () { s with heap:=h' }):
  wpAny M A (frameOf env >>= fun a=>entryPlaceOf L had >>= fun pl=>EntryCells.newEntry head a .none (rawInt L) .none pl >>= fun b=>setField (.ref e) 1 b) Q E s:=by
 have sz2:2 < vs.size:=(Array.getElem?_eq_some_iff.mp h2).1
 have nof:e ∉ (env::outer).filterMap (·.frame):=fun hm=>by
  obtain⟨_,o,ho,hnf⟩:=fr.mem hm
  rw [he] at ho
  cases ho
  exact hnf vs rfl
 refine wpAny_bind (wpAny_frameOf_fun hfr fr hf fun h₁ hs=>?_)
 refine wpAny_bind (wpAny_entryPlaceOf fun pl hpl=>?_)
 unfold EntryCells.newEntry newFields
 refine wpAny_bind (wpAny_newObj_type ?_ (hpl.sizeOk5 _ _ _ _ _))
 have e1:h₁.get? e=some ⟨cls,dx,.fields vs,sl⟩:=(hs.2.1 e nof).trans he
 have st1:B.StaysIn h₁:=fun b o q=>(hs.2.1 b fun hm=>by rw [(fr.mem hm).1] at q;cases q).trans (st b o q)
 refine wpAny_setField (Heap.get?_push_of_some _ e1) rfl (Nat.lt_trans (by decide) sz2) (k _ ?_ ?_)
 all_goals have ne:h₁.objs.size≠e:=Nat.ne_of_gt (Heap.lt_size e1)
 ·refine⟨fun b o q=>?_,hn,fr.of_keeps fun b o q nf=>?_,⟨vs.setIfInBounds 1 (.ref h₁.objs.size),sl,h₁.objs.size,_,_,?_,?_,?_,st1.fresh,ne,(Heap.get?_update_other _ _ (Ne.symm ne)).trans (Heap.get?_push_size h₁ rfl),rfl,?_⟩⟩
  ·rw [Heap.get?_update_other _ _ (fun z=>by rw [← z,hn] at q;cases q)]
   exact Heap.get?_push_of_some _ (st1 b o q)
  ·obtain⟨sl',hb⟩:=hs.2.2 b o q
   refine⟨{ o with slots:=sl' },?_,rfl⟩
   rw [Heap.get?_update_other _ _ (fun z=>by rw [← z,he] at q;cases q;exact nf vs rfl)]
   exact Heap.get?_push_of_some _ hb
  ·exact Heap.get?_update_self _ (Heap.get?_push_of_some _ e1) rfl
  ·rw [Array.getElem?_setIfInBounds_ne (by decide)]
   exact h2
  ·simp [Nat.lt_trans (show 1 < 2 by decide) sz2]
  ·first | (simp;done) | (rcases hpl with rfl | ⟨_,_,_,_,_,_,_,rfl⟩ <;> simp)
 ·intro b o q nf
  obtain⟨sl',hb⟩:=hs.2.2 b o q
  refine⟨sl',?_⟩
  rw [Heap.get?_update_other _ _ (fun z=>by rw [← z,he] at q;cases q;exact nf vs rfl)]
  exact Heap.get?_push_of_some _ hb
theorem z424 {vs:Array Value}{sl:Array (Option Value)} (hfr:A.frames=some (env::outer)) (hf:env.frame=some L) (st:B.StaysIn s.heap) (hn:B.get? e=none) (fr:s.heap.FunFrames B (env::outer))
  (he:s.heap.get? e=some ⟨cls,dx,.fields vs,sl⟩) (h2:vs[2]?=some Value.none) (h1:vs[1]?=some Value.none) (k:∀ h',Fly B (env::outer) e cls dx (rawInt L) h'→s.heap.UpToSlots h'→Q () { s with heap:=h' }):
  wpAny M A (noteFrame (.ref e) env) Q E s:=by
 unfold noteFrame
 simp only [hf]
 refine wpAny_bind (wpAny_field he rfl h1 ?_)
 rw [if_neg (by decide)]
 exact z314 hfr hf st hn fr he h2 k
theorem z393 (hfr:A.frames=some (env::outer)) (hf:env.frame=some L) (f:Fly B (env::outer) e cls dx .none s.heap) (k:∀ h',Fly B (env::outer) e cls dx (rawInt L) h'→s.heap.UpToSlots h'→Q () { s with heap:=h' }):
  wpAny M A (noteFrame (.ref e) env) Q E s:=by
 obtain⟨st,hn,fr,vs,sl,T,oT,ts,he,h2,h1,nT,ne,hT,dT,t3⟩:=f
 unfold noteFrame
 simp only [hf]
 refine wpAny_bind (wpAny_field he rfl h1 ?_)
 rw [if_pos (by simp)]
 refine wpAny_bind (wpAny_field hT dT t3 ?_)
 rw [if_neg (by simp [rawInt])]
 refine wpAny_bind (wpAny_setField hT dT (Array.getElem?_eq_some_iff.mp t3).1 ?_)
 have other:∀ b o,b≠T→s.heap.get? b=some o→(s.heap.update T (Obj.mapFields (·.setIfInBounds 3 Value.none))).get? b=some o:=fun b o hb z=>by
  rw [Heap.get?_update_other _ _ (Ne.symm hb)]
  exact z
 have noT:∀ b o,s.heap.get? b=some o→(∀ ws,o.data≠.fields ws)→b≠T:=fun b o q nf z=>by
  rw [z,hT] at q
  cases q
  exact nf ts dT
 refine z314 (s:={ s with heap:=_ }) hfr hf (fun b o q=>other b o (fun z=>by rw [z,nT] at q;cases q) (st b o q)) hn (fr.of_keeps fun b o q nf=>⟨o,other b o (noT b o q nf) q,rfl⟩) (other e _ (Ne.symm ne) he) h2 fun h' f' u=>k h' f' fun b o q nf=>?_
 exact u b o (other b o (noT b o q nf) q) nf
theorem land {fl:Value}(f:Fly B l e cls dx fl s.heap) (k:∀ h',Fly B l e cls dx .none h'→s.heap.UpToSlots h'→Q () { s with heap:=h' }):wpAny M A (setFlight (.ref e) none) Q E s:=by
 obtain⟨st,hn,fr,vs,sl,T,oT,ts,he,h2,h1,nT,ne,hT,dT,t3⟩:=f
 unfold setFlight
 refine wpAny_bind (wpAny_field he rfl h1 ?_)
 rw [if_pos (by simp)]
 have sz:=(Array.getElem?_eq_some_iff.mp t3).1
 have other:∀ b o,b≠T→s.heap.get? b=some o→(s.heap.update T (Obj.mapFields (·.setIfInBounds 3 Value.none))).get? b=some o:=fun b o hb z=>by
  rw [Heap.get?_update_other _ _ (Ne.symm hb)]
  exact z
 have noT:∀ b o,s.heap.get? b=some o→(∀ ws,o.data≠.fields ws)→b≠T:=fun b o q nf z=>by
  rw [z,hT] at q
  cases q
  exact nf ts dT
 refine wpAny_setField hT dT sz (k _ ⟨fun b o q=>other b o (fun z=>by rw [z,nT] at q;cases q) (st b o q),hn,fr.of_keeps fun b o q nf=>⟨o,other b o (noT b o q nf) q,rfl⟩,vs,sl,T,_,_,other e _ (Ne.symm ne) he,h2,h1,nT,ne,Heap.get?_update_self _ hT (Obj.isFreed_of_fields (Obj.data_mapFields dT _)),Obj.data_mapFields dT _,?_⟩ fun b o q nf=>⟨o.slots,other b o (noT b o q nf) q⟩)
 simp [sz]
theorem Fly.tail {fl:Value}{h:Heap}(f:Fly B (env::outer) e cls dx fl h):Fly B outer e cls dx fl h:=⟨f.st,f.new,f.fr.2.2,f.at_⟩
theorem z275 {vs:Array Value}{sl:Array (Option Value)} (hfr:A.frames=some (env::outer)) (hf:env.frame=some L) (st:B.StaysIn s.heap) (hn:B.get? e=none) (fr:s.heap.FunFrames B (env::outer))
  (he:s.heap.get? e=some ⟨cls,dx,.fields vs,sl⟩) (h2:vs[2]?=some Value.none) (h1:vs[1]?=some Value.none) (k:∀ h',Fly B outer e cls dx .none h'→s.heap.UpToSlots h'→Q () { s with heap:=h' }):
  wpAny M A (leaving env (.ref e)) Q E s:=by
 unfold leaving
 exact wpAny_bind (z424 hfr hf st hn fr he h2 h1 fun h' f u=>land f fun h2 f2 u2=>k h2 f2.tail (u.trans u2))
theorem z442 (hfr:A.frames=some (env::outer)) (hf:env.frame=some L) (f:Fly B (env::outer) e cls dx .none s.heap) (k:∀ h',Fly B outer e cls dx .none h'→s.heap.UpToSlots h'→Q () { s with heap:=h' }):
  wpAny M A (leaving env (.ref e)) Q E s:=by
 unfold leaving
 exact wpAny_bind (z393 hfr hf f fun h' f u=>land f fun h2 f2 u2=>k h2 f2.tail (u.trans u2))
end
end L2
set_option Elab.async false
set_option linter.all false
set_option maxRecDepth 100000
namespace L2
open PySem PySem.Spec PyProof.Rows
theorem ObjOk.some {P:Program}{w:World}{H:Hp}{h:Heap}{a:Addr}{o:HO}(x:ObjOk P w H h a o):∃ u,h.get? a=some u:=by
 cases o with
 | lst xs=>obtain⟨_,_,_,_,e⟩:=x;exact⟨_,e⟩
 | tup xs=>obtain⟨_,_,_,o,e,_⟩:=x;exact⟨_,e⟩
 | dK kvs=>obtain⟨_,_,_,_,o,_,_,e,_⟩:=x;exact⟨_,e⟩
 | dT kvs=>obtain⟨_,_,_,_,o,_,_,e,_⟩:=x;exact⟨_,e⟩
 | set S n=>obtain⟨o,_,_,_,e,_⟩:=x;exact⟨_,e⟩
 | ins C dx fs=>obtain⟨_,_,_,e,_⟩:=x;exact⟨_,e⟩
 | own y=>exact x
 | xd fs=>obtain⟨_,⟨_,_,_,e,_⟩,_⟩:=x;exact⟨_,e⟩
 | rng lo hi=>obtain⟨_,_,_,e⟩:=x;exact⟨_,e⟩
 | frz ob u=>obtain⟨e,_⟩:=x;exact⟨_,e⟩
 | tbl ps=>exact⟨_,x⟩
 | met f y=>exact⟨_,x⟩
 | ext φ=>obtain⟨_,e,_⟩:=x;exact e
structure UnB (fs:List Addr) (H H':Hp) (h B:Heap):Prop where
 keep:∀ b o,h.get? b=some o→H b=none→b ∉ fs→B.get? b=some o
 free:∀ b o,h.get? b=some o→H b=none→H' b=none
 there:∀ b o,h.get? b=some o→b ∉ fs→∃ o',B.get? b=some o'
 tups:∀ b xs,H b=some (.tup xs)→H' b=some (.tup xs)
 frzs:∀ b o u,H b=some (.frz o u)→H' b=some (.frz o u)
 tbls:∀ b ps,H b=some (.tbl ps)→∃ more,H' b=some (.tbl (ps++more))
theorem UnB.un {fs:List Addr}{H H':Hp}{h B h3:Heap}(u:UnB fs H H' h B) (st:B.StaysIn h3) (sl:∀ b o,b∈fs→h.get? b=some o→∃ sl,h3.get? b=some { o with slots:=sl }):Un fs [] H H' h h3 where
 keep:=fun b o e n hb _=>st _ _ (u.keep b o e n hb)
 slot:=fun b o e n hb _=>sl b o hb e
 free:=fun b o e n _=>u.free b o e n
 there:=fun b o e _=>by
  by_cases hb:b∈fs
  ·obtain⟨_,z⟩:=sl b o hb e
   exact⟨_,z⟩
  ·obtain⟨o',z⟩:=u.there b o e hb
   exact⟨o',st _ _ z⟩
 tups:=u.tups
 frzs:=u.frzs
 tbls:=u.tbls
def CXE (P:Program) (w:World):CXT:=fun outer H s E e s'=>
 ∃ (ea:Addr) (cls:Value) (dx:Option Addr) (H':Hp) (B:Heap),e=.ref ea∧s'.os=s.os∧AllBare s'.gens∧Fly B outer ea cls dx .none s'.heap∧HOk P w H' B∧UnB (frs outer) H H' s.heap B∧
  (∀ b o,b∈frs outer→s.heap.get? b=some o→∃ sl,s'.heap.get? b=some { o with slots:=sl })∧E cls dx H'
abbrev WXT:=St→XK
structure XC (X:Cx) (WX:WXT):Prop where
 pass:∀ (pins:List (Addr × Obj)) (σ:St) (H:Hp) (s:Shared) (e:Value) (s':Shared),Inv X pins σ H s→CXE X.prog X.w X.stack H s (WX σ) e s'→X.xe e s'
structure XW (X:Cx) (WX:WXT):Prop extends XC X WX where
 raise:∀ (pins:List (Addr × Obj)) (σ:St) (H:Hp) (s:Shared) (h':Heap) (e:Addr) (cls:Value) (args:List Value),Inv X pins σ H s→Heap.MadeExcOf s.heap h' e cls args→WX σ cls none H→X.xe (.ref e) { s with heap:=h' }
def noW:WXT:=fun _ _ _ _=>False
theorem xc_no {X:Cx}:XC X noW:=⟨fun _ _ _ _ _ _ _ ⟨_,_,_,_,_,_,_,_,_,_,_,_,z⟩=>z.elim⟩
section
variable {P:Program}{w:World}{K:PySem.W.Frag}{mg:Str→Option Value}{base:Heap}{N:List Str}{qual:Str}{scope:Scope}{f:Addr}{cd:Value}{A:Around}{outer:List Env}{s₀:Shared}{H₀:Hp}{E:XK}
theorem z438 {H:Hp}{h:Heap}{l:List Addr}(ok:HOk P w H h) (fr:∀ b∈l,H b=none):HOk P w H (PySem.W.hideAll h l):=fun a o e=>
 (ok a o e).stay (fun b u hb q=>PySem.W.hideAll_get _ q fun z=>by
  have n:=fr b z
  rcases hb with rfl | hb
  ·rw [n] at e;cases e
  ·rw [n] at hb;cases hb) (fun _ q=>q) fun _ _ q=>q
theorem xw_fn:XW (cxOf (CXE P w) P w K mg base N qual scope f cd A outer s₀ H₀ E) (fun _=>E) where
 raise:=fun pins σ H s h' e cls args I mk hE=>by
  have hst:(cxOf (CXE P w) P w K mg base N qual scope f cd A outer s₀ H₀ E).stack=envOfC qual scope s₀.heap.objs.size f cd::outer:=rfl
  have stF:=I.stkFree
  have stS:=I.stack
  rw [hst] at stF stS
  obtain⟨t,he,_,_⟩:=mk.there
  have hn:(PySem.W.hideAll s.heap (frs (envOfC qual scope s₀.heap.objs.size f cd::outer))).get? e=none:=by
   cases q:(PySem.W.hideAll s.heap (frs (envOfC qual scope s₀.heap.objs.size f cd::outer))).get? e with
   | none=>rfl
   | some o=>have:=PySem.W.of_hideAll _ q;rw [mk.new] at this;cases this
  have fr0:s.heap.FunFrames (PySem.W.hideAll s.heap (frs (envOfC qual scope s₀.heap.objs.size f cd::outer))) (envOfC qual scope s₀.heap.objs.size f cd::outer):=
   PySem.W.funFrames_hide stS fun env he a ha=>List.mem_filterMap.mpr ⟨env,he,ha⟩
  show wpAny (model P w) (A.deeper (envOfC qual scope s₀.heap.objs.size f cd)) (leaving (envOfC qual scope s₀.heap.objs.size f cd) (.ref e)) _ _ _
  refine z275 (s:={ s with heap:=h' }) (B:=PySem.W.hideAll s.heap (frs (envOfC qual scope s₀.heap.objs.size f cd::outer))) (env:=envOfC qual scope s₀.heap.objs.size f cd) (outer:=outer) (L:=s₀.heap.objs.size) I.ok.frames rfl (fun b o q=>mk.keeps b o (PySem.W.of_hideAll _ q)) hn (fr0.of_keeps fun b o q _=>⟨o,mk.keeps b o q,rfl⟩) he rfl rfl fun h2 fl up=>?_
  have nst:∀ b o,s₀.heap.get? b=some o→b ∉ frs outer→b ∉ frs (envOfC qual scope s₀.heap.objs.size f cd::outer):=fun b o q n z=>by
   rcases List.mem_cons.mp (show b∈s₀.heap.objs.size::frs outer from z) with z | z
   ·exact absurd (Heap.lt_size q) (by rw [z];exact Nat.lt_irrefl _)
   ·exact n z
  refine⟨e,cls,none,H,_,rfl,I.os,I.bare,fl,z438 I.hok stF,⟨fun b o q n nf=>PySem.W.hideAll_get _ (I.base.keep b o q n nf (fun z=>nomatch z)) (nst b o q nf),fun b o q n=>I.base.free b o q n (fun z=>nomatch z),fun b o q nf=>?_,I.base.tups,I.base.frzs,I.base.tbls⟩,fun b o hb q=>?_,hE⟩
  ·obtain⟨o',q'⟩:=I.base.there b o q (fun z=>nomatch z)
   exact⟨o',PySem.W.hideAll_get _ q' (nst b o q nf)⟩
  ·obtain⟨_,o',q',nf⟩:=I.ok.funs.mem hb
   obtain rfl:o=o':=Option.some.inj ((show s₀.heap.get? b=some o from q).symm.trans q')
   obtain⟨sl,z⟩:=I.base.slot b o q (I.ok.frf b hb) hb (fun z=>nomatch z)
   exact up b { o with slots:=sl } (mk.keeps _ _ z) nf
 pass:=fun pins σ H s e s' I z=>by
  obtain⟨ea,cls,dx,H',B,rfl,os,bare,fl,hok,u,slo,hE⟩:=z
  have fl:Fly B (envOfC qual scope s₀.heap.objs.size f cd::outer) ea cls dx .none s'.heap:=fl
  show wpAny (model P w) (A.deeper (envOfC qual scope s₀.heap.objs.size f cd)) (leaving (envOfC qual scope s₀.heap.objs.size f cd) (.ref ea)) _ _ _
  refine z442 (L:=s₀.heap.objs.size) I.ok.frames rfl fl fun h2 fl2 up=>?_
  have nst:∀ b o,s₀.heap.get? b=some o→b ∉ frs outer→b ∉ frs (envOfC qual scope s₀.heap.objs.size f cd::outer):=fun b o q n z=>by
   rcases List.mem_cons.mp (show b∈s₀.heap.objs.size::frs outer from z) with z | z
   ·exact absurd (Heap.lt_size q) (by rw [z];exact Nat.lt_irrefl _)
   ·exact n z
  refine⟨ea,cls,dx,H',B,rfl,os.trans I.os,bare,fl2,hok,⟨fun b o q n nf=>u.keep b o (I.base.keep b o q n nf (fun z=>nomatch z)) (I.base.free b o q n (fun z=>nomatch z)) (nst b o q nf),fun b o q n=>?_,fun b o q nf=>?_,fun b xs q=>u.tups b xs (I.base.tups b xs q),fun b o x q=>u.frzs b o x (I.base.frzs b o x q),fun b ps q=>?_⟩,fun b o hb q=>?_,hE⟩
  ·obtain⟨o',q'⟩:=I.base.there b o q (fun z=>nomatch z)
   exact u.free b o' q' (I.base.free b o q n (fun z=>nomatch z))
  ·obtain⟨o',q'⟩:=I.base.there b o q (fun z=>nomatch z)
   exact u.there b o' q' (nst b o q nf)
  ·obtain⟨m1,e1⟩:=I.base.tbls b ps q
   obtain⟨m2,e2⟩:=u.tbls b _ e1
   exact⟨m1++m2,by rw [e2,Array.append_assoc]⟩
  ·obtain⟨_,o',q',nf⟩:=I.ok.funs.mem hb
   obtain rfl:o=o':=Option.some.inj ((show s₀.heap.get? b=some o from q).symm.trans q')
   obtain⟨sl,z⟩:=I.base.slot b o q (I.ok.frf b hb) hb (fun z=>nomatch z)
   obtain⟨sl2,z2⟩:=slo b _ (show b∈s₀.heap.objs.size::frs outer from List.mem_cons_of_mem _ hb) z
   exact up b { o with slots:=sl2 } z2 nf
end
def tMethX (C:Addr) (m:Str) (sp:Sp) (dvs:List V) (WX:WXT) (ta:TE) (t:TA):TE:=fun σ H Q=>ta σ H fun x H1=>∃ a dx fs,x=.ref a∧H1 a=some (.ins C dx fs)∧fs.lookup m=none∧t σ H1 fun vs H2=>sp (x::(vs++dvs)) H2 Q (WX σ)
section
variable {X:Cx}{k:Nat}{f C:Addr}{fd:FuncData}{ps:List Str}{sp:Sp}{dvs:List V}{ds:List Value}{WX:WXT}{x m:Str}{p pos apos:Pos}{e o:Expr}{es:List Expr}{ta:TE}{t:TA}
theorem z632 {pins:List (Addr × Obj)}{σ:St}{H:Hp}{s:Shared}{Q:VK}{us:List Value}{vs:List V}(F:FnOk X.prog X.w X.K X.mg X.base (CXE X.prog X.w) k f fd ps sp) (hr:Room k X.A) (hb:Binds X.K fd ps ds) (hd:Vals dvs ds) (hx:XC X WX)
  (I:Inv X pins σ H s) (r:Vals vs us) (h:sp (vs++dvs) H Q (WX σ)):wpAny (model X.prog X.w) X.A (call (.ref f) us) (EP X pins σ Q) X.xe s:=by
 have r2:Vals (vs++dvs) (us++ds):=r.append hd
 have hl:(us++ds).length=ps.length:=by rw [← r2.length];exact F.len _ _ _ _ h
 refine wpAny_call (codeAny_mono (F.run X.A X.stack s H ⟨us,[]⟩ (us++ds) (vs++dvs) Q (WX σ) hr I.env0 (hb s us I.kIn hl) r2 h) fun r s' hq=>?_)
 cases r with
 | error e=>exact hx.pass pins σ H s e s' I hq
 | ok fl=>cases fl with
  | ret u=>exact I.after hq
  | next=>exact hq.elim
  | brk=>exact hq.elim
  | cont=>exact hq.elim
theorem z178 {pl:Sem Bool}(he:PE X o ta) (c:Cls X.K C) (hm:Meth X.K C m f) (F:FnOk X.prog X.w X.K X.mg X.base (CXE X.prog X.w) k f fd ps sp) (hr:Room k X.A) (hb:Binds X.K fd ps ds) (hd:Vals dvs ds) (hx:XC X WX) (ha:PA X (e::es) t)
  (hst:starEach (e::es) X.env=(false,eval e X.env)::starEach es X.env:=by rfl) (hpl:(backTo pos (starEach es X.env)).any (·.1)=false:=by rfl)
  (ht:eval (.Call (.Attribute o m apos) (e::es) [] pos) X.env=(eval o X.env >>= fun ov=>standAt apos.atName >>= fun _=>holding [ov] (getMethod ov m pl) >>= fun r=>callWith pos r.1 r.2 (backTo pos (starEach (e::es) X.env)) (backToKw pos (keywordEach [] X.env))):=by rfl):
  PE X (.Call (.Attribute o m apos) (e::es) [] pos) (tMethX C m sp dvs WX ta t):=by
 intro pins s σ H Q I h
 refine PySem.W.methodCall_KW (pl:=pl) (thn (he pins s σ H _ I h) fun u s1 ⟨x,H1,I1,rx,a,dx,fs,ex,ea,l,q⟩=>?_) ht
 subst ex
 cases (show u=Value.ref a from rx)
 refine getmeth_ok I1 ea c hm l ?_
 exact PySem.W.callWith_K (first:=[.ref a]) (h₀:=X.base) I.ok.mod.kin hm.kp (thn (ha pos pins s1 σ H1 _ I1 q) fun us s2 ⟨vs,H2,I2,r,q2⟩=>⟨I2.kIn,z632 (us:=.ref a::us) (vs:=.ref a::vs) F hr hb hd hx I2 (.cons rfl r) q2⟩) hst hpl
structure ErrC (K:PySem.W.Frag) (C:Addr):Prop where
 ex:PySem.W.excIn K C [.type "ValueError",.type "Exception",.type "BaseException",.type "object"] "ValueError.__new__"=true
def tRaise (WX:WXT) (C:Addr) (t:TA):TS:=fun D σ H=>t σ H fun vs H1=>vs.length≤sizeLine∧WX σ (.ref C) none H1
theorem z594 {np cpos:Pos}(hx:XW X WX) (hc:X.calm=true) (hg:Gl X x) (hm:X.mg x=some (.ref C)) (er:ErrC X.K C) (ha:PA X (e::es) t)
  (hdb:(x == ("__debug__":Str))=false:=by decide) (he:starEach (e::es) X.env=(false,eval e X.env)::starEach es X.env:=by rfl) (hpl:(backTo cpos (starEach es X.env)).any (·.1)=false:=by rfl):
  PS X (.Raise (some (.Call (.Name x np) (e::es) [] cpos)) none pos) (tRaise WX C t):=by
 intro pins s σ H D I h
 have q:=er.ex
 unfold PySem.W.excIn at q
 split at q
 ·rename_i dd cd sl ho
  split at q
  ·rename_i C' bm k0 k1 k2 k3 n k5 hm' hs
   simp only [Bool.and_eq_true,beq_iff_eq,Bool.not_eq_true'] at q
   obtain⟨⟨⟨⟨⟨rfl,rfl⟩,hdel⟩,ht⟩,hok⟩,hni⟩:=q
   obtain⟨nm,bs,mro,ns,qn,hd,sn,sub,ab,col,del⟩:=cd
   dsimp only at hm' hdel hok hni
   subst hm' hdel
   obtain rfl:sl=#[k0,k1,k2,k3,some (.builtin "ValueError.__new__"),k5]:=by
    obtain⟨l⟩:=sl
    simp only at hs
    rw [hs]
   have T:=PySem.W.tail_of_in I.ok.mod.kin ht
   refine wpAny_Raise_call_subT (C:=C') (nm:=nm) (q:=qn) (N:=ns) (bs:=bs) (bm:=bm) (hdct:=hd) (sn:=sn) (sub:=sub) (ab:=ab) (col:=col) (dd:=dd) (k0:=k0) (k1:=k1) (k2:=k2) (k3:=k3) (k5:=k5) PySem.F.excBase_ValueError (mN:=X.base.nsMap ns)
    (T.hasType PySem.F.excBase_ValueError.hasBase) (I.ok.hd hc) (by rw [he];show (false || (backTo cpos (starEach es X.env)).any (·.1))=false;rw [hpl];rfl) (PySem.W.nsMap_none_of_in I.ok.mod.kin hok hni) (ld_glob I hg hm ⟨rfl,?_⟩ hdb)
   rw [he]
   have hp:=ha cpos pins s σ H _ I h
   rw [he] at hp
   refine Calls.evalArgs_plain (wpAny_mono hp (fun us s1 z=>?_) fun _ _ z=>z)
   obtain⟨vs,H1,I1,rv,hz,hw⟩:=z
   refine⟨rfl,by rw [← rv.length];exact hz,I1.kIn _ _ ho,(Heap.Ns.of_isNs (PySem.W.isNs_of_in I.ok.mod.kin hok)).keeps I1.bk,T.keeps I1.bk,fun h' ea mk=>hx.raise pins σ H1 s1 h' ea _ _ I1 mk hw⟩
  ·cases q
 ·cases q
end
end L2
set_option Elab.async false
set_option linter.all false
set_option maxRecDepth 100000
namespace L2
open PySem PySem.Spec PyProof.Rows
structure MkO (C:Addr) (dx:Option Addr) (ob:Obj):Prop where
 ex:∃ (vs:Array Value) (sl:Array (Option Value)),ob=⟨.ref C,dx,.fields vs,sl⟩∧vs[2]?=some Value.none
def cxTry (X:Cx) (pins:List (Addr × Obj)) (E:Value→Shared→Prop):Cx:={ X with pn:=X.pn++pins,xe:=E }
def z50 (X:Cx) (pins:List (Addr × Obj)) (ea:Addr) (ob:Obj):Cx:={ X with A:=X.A.mark (some (.ref ea)),calm:=false,pn:=X.pn++pins++[(ea,ob)],xe:=fun _ _=>False }
section
variable {X:Cx}{pins pins':List (Addr × Obj)}{σ:St}{H:Hp}{s:Shared}{E:Value→Shared→Prop}{ea:Addr}{ob:Obj}
theorem ok_try (ok:X.Ok):(cxTry X pins E).Ok:=⟨ok.mod,ok.kind,ok.glob,ok.blt,ok.above,ok.inj,ok.has,ok.cab,ok.hd,ok.frames,ok.stk,ok.exf,ok.bs,ok.bsz,ok.noex,ok.exfs,ok.funs,ok.frf⟩
theorem z578 (ok:X.Ok):(z50 X pins ea ob).Ok:=⟨ok.mod,ok.kind,ok.glob,ok.blt,ok.above,ok.inj,ok.has,ok.cab,(fun z=>nomatch z),ok.frames,ok.stk,ok.exf,ok.bs,ok.bsz,ok.noex,ok.exfs,ok.funs,ok.frf⟩
theorem z647 (I:Inv X pins σ H s):Inv (cxTry X pins E) [] σ H s:=⟨ok_try I.ok,I.os,I.bare,I.base,I.loc,I.cell,I.free,I.freeC,fun p hp=>I.pin p (by simpa [cxTry] using hp),I.hok,I.len⟩
theorem z170 (ok:X.Ok) (I:Inv (cxTry X pins E) pins' σ H s):Inv X pins σ H s:=⟨ok,I.os,I.bare,I.base,I.loc,I.cell,I.free,I.freeC,fun p hp=>I.pin p (List.mem_append_left _ hp),I.hok,I.len⟩
theorem z507 (I:Inv X pins σ H s) (he:s.heap.get? ea=some ob) (hn:H ea=none) (hl:ea≠X.env.locals) (hf:ea ∉ X.fs) (hc:∀ v,ob.data≠.cell v):Inv (z50 X pins ea ob) [] σ H s:=
 ⟨z578 I.ok,I.os,I.bare,I.base,I.loc,I.cell,I.free,I.freeC,fun p hp=>by
  have hp:p∈X.pn++pins++[(ea,ob)]:=by simpa [z50] using hp
  rcases List.mem_append.mp hp with z | z
  ·exact I.pin p z
  ·cases List.mem_singleton.mp z
   exact⟨he,hn,hl,hf,hc⟩,I.hok,I.len⟩
theorem z412 (ok:X.Ok) (I:Inv (z50 X pins ea ob) pins' σ H s):Inv X pins σ H s:=⟨ok,I.os,I.bare,I.base,I.loc,I.cell,I.free,I.freeC,fun p hp=>I.pin p (List.mem_append_left _ (List.mem_append_left _ hp)),I.hok,I.len⟩
theorem SP.untry {D:Ends}{f:Flow}(ok:X.Ok) (h:SP (cxTry X pins E) [] D f s):SP X pins D f s:=by
 cases f with
 | next=>obtain⟨σ',H',I,q⟩:=h;exact⟨σ',H',z170 ok I,q⟩
 | brk=>obtain⟨σ',H',I,q⟩:=h;exact⟨σ',H',z170 ok I,q⟩
 | cont=>obtain⟨σ',H',I,q⟩:=h;exact⟨σ',H',z170 ok I,q⟩
 | ret u=>obtain⟨v,σ',H',I,r,q⟩:=h;exact⟨v,σ',H',z170 ok I,r,q⟩
theorem Inv.forget {h':Heap}{m':Str→Option Value}{t':Nat}(I:Inv X pins σ H s) (hn:h'.Ns X.env.locals m') (sb:Heap.SameBut X.env.locals s.heap h'):Inv X pins (List.replicate X.N.length none) H { s with heap:=h',toks:=t' }:=by
 have nl:∀ b o,X.s₀.heap.get? b=some o→b≠X.env.locals:=fun b o e=>Nat.ne_of_lt (Nat.lt_of_lt_of_le (Heap.lt_size e) I.ok.above)
 have up:∀ b o,b≠X.env.locals→s.heap.get? b=some o→h'.get? b=some o:=fun b o hb e=>(sb.2 b hb).trans e
 refine⟨I.ok,I.os,I.bare,⟨fun b o e n hb hx=>up b o (nl b o e) (I.base.keep b o e n hb hx),fun b o e n hb hx=>?_,I.base.free,fun b o e hx=>?_,I.base.tups,I.base.frzs,I.base.tbls⟩,⟨m',hn,fun i x v _ h2 _=>?_⟩,fun x c e=>?_,I.free,I.freeC,fun p hp=>?_,fun a o e=>?_,by simp⟩
 ·obtain⟨sl,z⟩:=I.base.slot b o e n hb hx
  exact⟨sl,up b _ (nl b o e) z⟩
 ·obtain⟨o',z⟩:=I.base.there b o e hx
  exact⟨o',up b _ (nl b o e) z⟩
 ·rw [List.getElem?_replicate] at h2
  split at h2 <;> cases h2
 ·obtain⟨v,o,z,d⟩:=I.cell x c e
  exact⟨v,o,up c o (I.cne x c e) z,d⟩
 ·obtain⟨z1,z2,z3,z4⟩:=I.pin p hp
  exact⟨up _ _ z3 z1,z2,z3,z4⟩
 ·have ne:∀ b u,H b=some u→b≠X.env.locals:=fun b u q z=>by rw [z,I.free] at q;cases q
  exact(I.hok a o e).stay (fun b u hb q=>up b u (by
   rcases hb with rfl | hb
   ·exact ne _ _ e
   ·exact ne _ _ hb) q) (fun _ q=>q) fun _ _ q=>q
def z378 (D:Ends):Ends:={ nx:=fun _ _=>False,rt:=D.rt }
end
def tTryAs (K:PySem.W.Frag) (C:Addr) (i:Nat) (tb:WXT→TS) (th:Addr→Addr→Option Addr→TS):TS:=fun D σ H=>
 ∃ WE:WXT,tb WE D σ H∧∀ σ' cls dx H',WE σ' cls dx H'→∃ C',cls=.ref C'∧PySem.W.exmOne K (.ref C') (.ref C)=some true∧∀ ea,H' ea=none→th ea C' dx (z378 D) (σ'.set i (some (.ref ea))) H'
section
variable {X:Cx}{x n:Str}{C:Addr}{body:List Stmt}{b₀:Stmt}{suite:List Stmt}{np pos hpos:Pos}{tb:WXT→TS}{th:Addr→Addr→Option Addr→TS}
theorem z477 {M:Model}{h:Heap}{a:Addr}{o:Obj}(e:h.get? a=some o):PySem.W.Looks M h (typeOf (.ref a)) o.cls:=(PySem.W.Looks.ld e).andThen .now
def Behind (X:Cx) (nm:Option Str) (hpos:Pos) (Q:Flow→Shared→Prop) (r:Result) (s:Shared):Prop:=match r with
 | .ok f=>(match nm with
  | none=>Q f s
  | some n=>wpAny (model X.prog X.w) X.A (do bindName X.env n .none;unbindBehindTheSuite X.env n hpos) (fun _ s₃=>Q f s₃) X.xe s)
 | .error x=>cameBackBy (model X.prog X.w) X.A X.env X.xe x s
theorem z600 {pins pins':List (Addr × Obj)}{σ:St}{H:Hp}{s s':Shared}{e:Value}{WE:XK}{nm:Option Str}{Q:Flow→Shared→Prop}{EE:Value→Shared→Prop}{L:Addr}{outer:List Env}(hst:X.stack=X.env::outer) (hf:X.env.frame=some L) (hg:Gl X x) (hm:X.mg x=some (.ref C)) (hdb:(x == ("__debug__":Str))=false) (ok:X.Ok)
  (I:Inv (cxTry X pins EE) pins' σ H s) (z:CXE X.prog X.w X.stack H s WE e s') (hW:∀ cls dx H',WE cls dx H'→∃ C',cls=.ref C'∧PySem.W.exmOne X.K (.ref C') (.ref C)=some true)
  (k:∀ (ea C':Addr) (dx:Option Addr) (H':Hp) (s5:Shared),e=.ref ea→WE (.ref C') dx H'→H' ea=none→(∀ (M:Model) (A:Around) (E:Value→Shared→Prop) (Q:Unit→Shared→Prop),(∀ ob s6,MkO C' dx ob→Inv (z50 X pins ea ob) [] σ H' s6→Q () s6)→wpAny M A (setFlight (.ref ea) none) Q E s5)→
   codeAny (model X.prog X.w) (X.A.mark (some (.ref ea))) (.handlers (.ref ea) [.ExceptHandler none nm (b₀::suite) hpos] X.env) (Behind X nm hpos Q) s5):
  wpAny (model X.prog X.w) X.A (noteFrame e X.env) (fun _ s₂=>wpAny (model X.prog X.w) X.A (setFlight e none) (fun _ s₃=>wpAny (model X.prog X.w) X.A (handleBy e X.env [.ExceptHandler (some (.Name x np)) nm (b₀::suite) hpos]) Q X.xe s₃) X.xe s₂) X.xe s':=by
 obtain⟨ea,cls,dx,H',B,rfl,os,bare,fl,hok,u,slo,hE⟩:=z
 obtain⟨C',rfl,hmt⟩:=hW cls dx H' hE
 have fl:Fly B (X.env::outer) ea (.ref C') dx .none s'.heap:=by rw [← hst];exact fl
 have J:∀ {h3:Heap}{t3:Nat},B.StaysIn h3→s'.heap.UpToSlots h3→Inv X pins σ H' { s' with heap:=h3,toks:=t3 }:=fun{h3 t3} st up=>by
  refine z170 ok (Inv.call' I (s':={ s' with heap:=h3,toks:=t3 }) os (u.un st fun b o hb q=>?_) (hok.kept st) bare (fun b z=>nomatch z))
  obtain⟨_,o',q',nf⟩:=I.stack.mem hb
  rw [q] at q'
  cases q'
  obtain⟨sl,q2⟩:=slo b o hb q
  exact up b { o with slots:=sl } q2 nf
 have hn:H' ea=none:=by
  cases q:H' ea with
  | none=>rfl
  | some o=>obtain⟨_,z⟩:=(hok ea o q).some;rw [fl.new] at z;cases z
 refine z393 (by rw [ok.frames,hst]) hf fl fun h4 fl4 up4=>?_
 refine land (s:={ s' with heap:=h4 }) fl4 fun h5 fl5 up5=>?_
 have fin:∀ {h6:Heap}{t6:Nat},Fly B (X.env::outer) ea (.ref C') dx .none h6→h5.UpToSlots h6→∃ ob,MkO C' dx ob∧Inv (z50 X pins ea ob) [] σ H' { s' with heap:=h6,toks:=t6 }:=fun{h6 t6} fl6 up6=>by
  have I6:=J (t3:=t6) fl6.st ((up4.trans up5).trans up6)
  obtain⟨vs,sl,T,oT,ts,he,h2,h1,_⟩:=fl6.at_
  refine⟨_,⟨vs,sl,rfl,h2⟩,z507 I6 he hn (fun z=>?_) (fun z=>?_) (fun v z=>by cases z)⟩
  ·obtain⟨m,⟨o,es,ep,ho,hd,_⟩,_⟩:=I6.loc
   rw [← z] at ho
   have ho:=(show h6.get? ea=some o from ho)
   rw [he] at ho
   cases ho
   cases hd
  ·obtain⟨_,o,ho,nf⟩:=I6.funs.mem z
   have ho:=(show h6.get? ea=some o from ho)
   rw [he] at ho
   cases ho
   exact nf _ rfl
 refine wpAny_handleBy_cons (codeAny_handlers_test ?_) (by intro q;cases q)
 obtain⟨ob5,_,I5⟩:=fin (t6:=s'.toks) fl5 (Heap.UpToSlots.refl _)
 refine ld_glob (X:=z50 X pins ea ob5) I5 hg hm ?_ hdb
 obtain⟨vs,sl,T,oT,ts,he,_⟩:=id fl5.at_
 refine(PySem.W.exm_one I5.kIn (z477 he) hmt).here ?_
 refine k ea C' dx H' _ rfl hE hn fun M A E Q q=>land (s:={ s' with heap:=h5 }) fl5 fun h6 fl6 up6=>?_
 obtain⟨ob6,m6,I6⟩:=fin (t6:=s'.toks) fl6 up6
 exact q ob6 _ m6 I6
theorem z584 {L:Addr}{outer:List Env}{i:Nat}(hN:X.N.Nodup) (hi:X.N[i]?=some n) (hl:X.env.scope.names.lookup n=some .local) (hst:X.stack=X.env::outer) (hf:X.env.frame=some L) (hg:Gl X x) (hm:X.mg x=some (.ref C)) (hdb:(x == ("__debug__":Str))=false)
  (hb:∀ pins EE WE,XC (cxTry X pins EE) WE→PSs (cxTry X pins EE) body (tb WE)) (hh:∀ pins ea C' dx ob,MkO C' dx ob→PSs (z50 X pins ea ob) (b₀::suite) (th ea C' dx)):
  PS X (.Try body [.ExceptHandler (some (.Name x np)) (some n) (b₀::suite) hpos] [] [] pos) (tTryAs X.K C i tb th):=by
 intro pins s σ H D I h
 obtain⟨WE,h1,h2⟩:=h
 refine wpAny_Try_except (thn (hb pins _ WE ⟨fun pins' σ' H' s1 e s2 I' z=>?_⟩ [] s σ H D (z647 I) h1) fun f s1 q=>?_)
 ·refine z600 hst hf hg hm hdb I.ok I' z (fun cls dx H' w=>let ⟨C',e1,e2,_⟩:=h2 σ' cls dx H' w;⟨C',e1,e2⟩) fun ea C' dx H2 s5 e5 w hn land=>?_
  obtain⟨C2,e1,e2,h3⟩:=h2 σ' _ dx H2 w
  cases e1
  refine codeAny_handlers_suite_as (wpAny_noRaise (land _ _ _ _ fun ob s6 mk I6=>wpAny_noRaise (store_ok (X:=z50 X pins ea ob) (v:=.ref ea) I6 hN hi (.inl hl) rfl (fun s7 I7=>?_) (.inr hl))))
  refine wpAny_mono (hh pins ea C' dx ob mk [] s7 _ H2 (z378 D) I7 (h3 ea hn)) (fun f s8 q8=>?_) fun _ _ z=>z.elim
  cases f with
  | next=>obtain⟨_,_,_,z⟩:=q8;exact z.elim
  | brk=>obtain⟨_,_,_,z⟩:=q8;exact z.elim
  | cont=>obtain⟨_,_,_,z⟩:=q8;exact z.elim
  | ret v=>
   obtain⟨y,σ9,H9,I9,r9,q9⟩:=q8
   have I9:=z412 I.ok I9
   obtain⟨m,hn9,_⟩:=id I9.loc
   refine wpAny_nameGoes (m:=m) hl hn9 (by rw [I9.ok.kind];rfl) fun h' m' hn' sb=>?_
   refine⟨y,List.replicate X.N.length none,H9,?_,r9,q9⟩
   exact I9.forget hn' sb
 ·have q:=SP.untry I.ok q
  cases f with
  | next=>exact wpAny_execs_nil q
  | brk=>exact q
  | cont=>exact q
  | ret u=>exact q
end
end L2
set_option Elab.async false
set_option linter.all false
set_option maxRecDepth 100000
namespace L2
open PySem PySem.Spec PyProof.Rows
structure RoomM (k:Nat) (A:Around):Prop where
 dp:A.depth + 3 * k + 5 < recursionLimit
 un:A.units + 16 * k + 200 < cLine
def cxM (P:Program) (w:World) (K:PySem.W.Frag) (mg:Str→Option Value) (base:Heap) (N:List Str) (qual:Str) (scope:Scope) (f:Addr) (cd:Value) (A:Around) (outer:List Env) (s:Shared) (H:Hp) (ea:Addr) (ob:Obj):Cx:=
 { cxOf CX0 P w K mg base N qual scope f cd A outer s H E0 with calm:=false,pn:=[(ea,ob)],xe:=fun _ _=>False }
section
variable {P:Program}{w:World}{K:PySem.W.Frag}{mg:Str→Option Value}{base:Heap}{x qual:Str}{st:Stmt}{f:Addr}{fd:FuncData}{N ps:List Str}{k:Nat}{sp:Sp}
theorem Fun.okR (F:Fun K x qual st f fd) (S:FnScope N ps (defScope st)) (len:∀ vs H Q E,sp vs H Q E→vs.length=ps.length)
  (hbody:∀ (cdv:Value) (A:Around) (outer:List Env) (s:Shared) (H:Hp) (vs:List V) (Q:VK) (E:XK),Room k (A.deeper (envOfC qual (defScope st) s.heap.objs.size f cdv))→sp vs H Q E→
   ∃ t,PSs (cxOf (CXE P w) P w K mg base N qual (defScope st) f cdv A outer s H E) (defBody st) t∧t { nx:=fun _ H'=>Q .non H',rt:=Q } (start N vs) H):FnOk P w K mg base (CXE P w) (k + 1) f fd ps sp:=by
 obtain⟨oc,od,kV,doc,pm,an,cdv,ct,osl,rfl,lk,hcd⟩:=F.ex
 exact fn_of lk hcd S len fun A outer s H vs Q E hr hsp=>hbody cdv A outer s H vs Q E hr hsp
end
theorem cxKm {P:Program}{w:World}{K:PySem.W.Frag}{mg:Str→Option Value}{base:Heap}{N:List Str}{qual:Str}{scope:Scope}{f:Addr}{cd:Value}{A:Around}{outer:List Env}{s:Shared}{H:Hp}{ea:Addr}{ob:Obj}:(cxM P w K mg base N qual scope f cd A outer s H ea ob).K=K:=rfl
theorem cxKs {X:Cx}{pins:List (Addr × Obj)}{ea:Addr}{ob:Obj}:(z50 X pins ea ob).K=X.K:=rfl
theorem cxKt {X:Cx}{pins:List (Addr × Obj)}{E:Value→Shared→Prop}:(cxTry X pins E).K=X.K:=rfl
structure Mkd (X:Cx) (ea:Addr) (ob:Obj):Prop where
 hd:X.A.handled=some (.ref ea)
 pin:(ea,ob)∈X.pn
theorem z529 {X:Cx}{pins:List (Addr × Obj)}{ea:Addr}{ob:Obj}:Mkd (z50 X pins ea ob) ea ob:=⟨rfl,List.mem_append_right _ (List.mem_singleton.mpr rfl)⟩
section
variable {X:Cx}{k:Nat}{f C:Addr}{fd:FuncData}{ps:List Str}{sp:Sp}{ea:Addr}{ob:Obj}{x m:Str}{p pos apos:Pos}{e o:Expr}{es:List Expr}{ta:TE}{t:TA}
end
end L2
set_option Elab.async false
set_option linter.all false
set_option maxRecDepth 100000
namespace L2
open PySem PySem.Spec PyProof.Rows PySem.W
section
variable {prog:Program}{w:World}{A:Around}{E:Value→Shared→Prop}{s:Shared}{K:Frag}{x D:Addr}{ox:Obj}{od:Option Obj}{name:Str}
structure ErrA (K:Frag) (D:Addr):Prop where
 ga:findIn K (.ref D) "__getattribute__"=some (some (.builtin "BaseException.__getattribute__"))
 gn:findIn K (.ref D) "__getattr__"=some none
 bx:mroIn K D (.type "BaseException")=some true
theorem z590 {M:Model}{nameV:Value}{Q:Unit→Shared→Prop}(X:K.In s.heap) (I:InstAt s.heap x ox D od) (er:ErrA K D) (q:Q () s):wpAny M A (checkBuiltinCall "BaseException.__getattribute__" ⟨[.ref x,nameV],[]⟩) Q E s:=by
 obtain⟨h,g,d,t,os⟩:=s
 have hk:builtinKind "BaseException.__getattribute__"=some .slot:=by decide +kernel
 have hsplit:splitId "BaseException.__getattribute__"=some ("BaseException","__getattribute__"):=by decide +kernel
 have ha:=F.args_bexc_ga (.ref x) nameV
 have L0:=I.type (M:=M)
 have L1:=looks_mroIn (M:=M) X er.bx
 have LI:Looks M h (isInstance (.ref x) (.type "BaseException")) true:=L0.andThen L1
 simp only [checkBuiltinCall,hk,hsplit]
 refine wpAny_bind (LI.at ?_)
 repeat (any_goals (first | assumption | wp_step))
theorem z491 {tk:Tok}{Q:Value→Shared→Prop}(X:K.In s.heap) (I:InstAt s.heap x ox D od) (er:ErrA K D)
  (h:wpAny (model prog w) A.in1 (Builtin.«object.__getattribute__» ⟨[.ref x,.str name tk],[]⟩) (fun fin s'=>match fin with | .done (.ret v)=>Q v s' | _=>False) (fun _ _=>False) s):
  wpAny (model prog w) A (boundAndCalled (.builtin "BaseException.__getattribute__") (.ref x) (.str name tk)) Q E s:=by
 have f3:=F.excAttr_ValueError.ga.bind (.ref x)
 unfold boundAndCalled
 rw [f3]
 refine wpAny_bind (wpAny_pure ?_)
 refine wpAny_call (codeAny_call_builtin F.excAttr_ValueError.ga.plain F.entry_bexc_ga (z590 X I er (wpAny_mono h (fun fin s' z=>?_) fun _ _ z=>z.elim)))
 rcases fin with (_ | _ | _ | _) | _ <;> first | exact z | exact z.elim
theorem z580 {tk:Tok}{fill expr:Bool}{Q:Value→Shared→Prop}(X:K.In s.heap) (I:InstAt s.heap x ox D od) (er:ErrA K D)
  (h:wpAny (model prog w) A.in1 (Builtin.«object.__getattribute__» ⟨[.ref x,.str name tk],[]⟩) (fun fin s'=>match fin with | .done (.ret v)=>wpAny (model prog w) A (handedOut v) Q E s' | _=>False) (fun _ _=>False) s):
  wpAny (model prog w) A (getAttrBy (.ref x) (.str name tk) fill expr) Q E s:=by
 have L0:=I.type (M:=model prog w)
 have L1:=looks_findIn (M:=model prog w) X er.ga
 have L2:=looks_findIn (M:=model prog w) X er.gn
 unfold getAttrBy
 refine wpAny_holding (wpAny_bind (L0.here (wpAny_bind (L1.here ?_))))
 have hx2:(Value.builtin "BaseException.__getattribute__" == Value.builtin "object.__getattribute__")=false:=by decide +kernel
 dsimp only
 rw [if_neg (by rw [hx2,Bool.and_false];exact Bool.false_ne_true)]
 unfold getAttrByItsOwn hookBefore
 rw [if_pos (show onTheHeap (.ref D)=true from rfl)]
 refine wpAny_bind (L2.here ?_)
 refine wpAny_bind (wpAny_attempt (wpAny_holding ?_))
 unfold callGetattribute
 rw [if_neg (by cases expr <;> exact Bool.false_ne_true)]
 exact z491 X I er h
end
section
variable {X:Cx}{ea C:Addr}{dx:Option Addr}{ob:Obj}
end
end L2
set_option Elab.async false
set_option linter.all false
set_option maxRecDepth 100000
namespace L2
open PySem PySem.Spec PyProof.Rows PySem.Builtin PySem.Builtin.Str PySem.Builtin.Int
structure FunD (K:PySem.W.Frag) (x qual:Str) (st:Stmt) (f:Addr) (fd:FuncData) (items:Array Value):Prop where
 ex:∃ (oc:Value) (od:Option Addr) (kV doc pm:Value) (an:Option Addr) (cdv ct:Value) (osl:Array (Option Value)) (T:Addr) (oT:Obj) (n:Nat),
  fd=PySem.W.fnOf x qual (defArgs st) (defBody st) (defScope st) (.ref T) kV doc pm an cdv ct∧K.lookup f=some ⟨oc,od,.func fd,osl⟩∧PySem.W.codeIn K cdv qual=true∧K.lookup T=some oT∧oT.data=.seq items n
 kp:PySem.W.keepIn K (.ref f)=true
section
variable {P:Program}{w:World}{K:PySem.W.Frag}{mg:Str→Option Value}{base:Heap}{x qual:Str}{st:Stmt}{f:Addr}{fd:FuncData}{items:Array Value}{N ps:List Str}{k:Nat}{sp:Sp}
end
section
variable {X:Cx}{k:Nat}{ps:List Str}{tab:List (Addr × Sp)}{m:Str}{pos apos:Pos}{e o:Expr}{es:List Expr}{ta:TE}{t:TA}
end
theorem hu1 {n:Nat}(h:n + 64 < cLine):n + 1 < cLine:=by omega
end L2
set_option Elab.async false
set_option linter.all false
set_option maxRecDepth 100000
namespace L2
open PySem PySem.Spec PyProof.Rows
section
variable {prog:Program}{w:World}{K:Type} [DecidableEq K]{knd:HeapKind prog w K}{A:Around}{E:Value→Shared→Prop}{s:Shared}
end
section
variable {prog:Program}{w:World}{K:Type} [DecidableEq K]{knd:HeapKind prog w K}{A:Around}{E:Value→Shared→Prop}{s:Shared}
end
theorem Paired.at1 {α β:Type}{R:α→β→Prop}:∀ {l:List α}{m:List β},Paired R l m→∀ {j:Nat}{a:α},l[j]?=some a→∃ b,m[j]?=some b∧R a b
 | _,_,.cons h r,0,_,e=>by cases e;exact⟨_,rfl,h⟩
 | _,_,.cons h r,j + 1,_,e=>by
  rw [List.getElem?_cons_succ] at e
  obtain⟨b,e1,e2⟩:=Paired.at1 r e
  exact⟨b,by rw [List.getElem?_cons_succ];exact e1,e2⟩
theorem Paired.at2 {α β:Type}{R:α→β→Prop}:∀ {l:List α}{m:List β},Paired R l m→∀ {j:Nat}{b:β},m[j]?=some b→∃ a,l[j]?=some a∧R a b
 | _,_,.cons h r,0,_,e=>by cases e;exact⟨_,rfl,h⟩
 | _,_,.cons h r,j + 1,_,e=>by
  rw [List.getElem?_cons_succ] at e
  obtain⟨b,e1,e2⟩:=Paired.at2 r e
  exact⟨b,by rw [List.getElem?_cons_succ];exact e1,e2⟩
section
variable {prog:Program}{w:World}{A:Around}{E:Value→Shared→Prop}{s:Shared}
theorem z379 {d:Addr}{od:Obj}{es:Array DictEntry}{ep:Nat}{Q:Value→Shared→Prop}(hd:(d == sysModules)=false) (ho:s.heap.get? d=some od) (hc:od.ExactDict) (hdat:od.data=.dict es ep)
  (hQ:Q (.ref s.heap.objs.size) { s with heap:=s.heap.push { cls:=.type "dict_keyiterator",data:=.fields #[.ref d,.int 0 0,.int es.size 0,.int ep 0] } }):
  wpAny (model prog w) A (pyIter (.ref d)) Q E s:=by
 have hT:s.TypeIs (.ref d) "dict":=⟨od,ho,hc.1⟩
 refine wpAny_pyIter_slot hT F.slot_dict_iter (wpAny_call_entry F.slot_dict_iter hT F.entry_dict_iter ?_ (F.args_dict_iter_1 _))
 unfold Builtin.«dict.__iter__»
 refine wpAny_bind ?_
 unfold Builtin.Dict.dictSlotNone
 refine wpAny_bind (wpAny_notOrdered_dict hT ?_)
 show wpAny _ _ (pure (Value.ref d)) _ _ s
 refine wpAny_pure ?_
 show wpAny _ _ (Builtin.Dict.showsAll d >>= _) _ _ s
 unfold Builtin.Dict.showsAll
 rw [if_neg (by rw [hd];exact Bool.false_ne_true)]
 refine wpAny_bind (wpAny_pure ?_)
 refine wpAny_bind (wpAny_dictEntries ho hdat ?_)
 refine wpAny_bind (wpAny_dictEpoch ho hdat ?_)
 refine wpAny_bind (wpAny_newObj_type (wpAny_pure ⟨_,rfl,"dict_keyiterator",_,⟨_,Heap.get?_push_size _ rfl,rfl⟩,F.slot_dict_keyiterator_next.lookup,?_⟩))
 simpa [rawInt] using hQ
theorem z527 {it d:Addr}{i ep:Nat}{od:Obj}{es:Array DictEntry}{e:DictEntry}{Q:Option Value→Shared→Prop}(hit:s.heap.IsKeyIter it d i es.size ep) (hod:s.heap.get? d=some od) (hdd:od.data=.dict es ep)
  (hx:es[i]?=some e) (hQ:∀ h',h'.IsKeyIter it d (i + 1) es.size ep→Heap.SameBut it s.heap h'→Q (some e.key) { s with heap:=h' }):
  wpAny (model prog w) A (pyNext (.ref it)) Q E s:=by
 obtain⟨o,ho,hc,hd⟩:=id hit
 unfold pyNext
 refine wpAny_bind (wpAny_attempt (wpAny_callSpecial?_slot (name:=Str.ofString "__next__") hit.typeIs F.slot_dict_keyiterator_next
  (wpAny_call_entry F.slot_dict_keyiterator_next hit.typeIs F.entry_dict_keyiterator_next ?_ (F.args_dict_keyiterator_next_1 _))))
 refine wpAny_bind (wpAny_pure ?_)
 refine wpAny_bind ?_
 refine wpAny_bind ?_
 first | refine wpAny_bind (wpAny_typeNameOfWhole_keyiter hit.typeIs (wpAny_pure ?_)) | refine wpAny_bind (wpAny_typeNameOf_keyiter hit.typeIs (wpAny_pure ?_))
 refine wpAny_bind (wpAny_fieldsOf ho hd ?_)
 have hown:Builtin.Dict_items.ownsTuple "dict_keyiterator"=false:=by decide
 simp only [hown,Bool.false_eq_true,if_false]
 show wpAny _ _ (if (Value.ref d == Value.none)=true then _ else _) _ _ s
 rw [if_neg (show ¬ ((Value.ref d == Value.none)=true) from Bool.false_ne_true)]
 refine wpAny_bind (wpAny_pure ?_)
 refine wpAny_bind (wpAny_dictEntries hod hdd ?_)
 rw [if_neg (by simp)]
 refine wpAny_bind (wpAny_pure ?_)
 refine wpAny_bind (wpAny_dictEpoch hod hdd ?_)
 rw [if_neg (by simp)]
 refine wpAny_pure ?_
 simp only [show ¬ ((i:Int) < 0) from by omega,if_false,Int.toNat_natCast,hx]
 refine wpAny_bind ?_
 first | refine wpAny_bind (wpAny_typeNameOfWhole_keyiter hit.typeIs (wpAny_pure ?_)) | refine wpAny_bind (wpAny_typeNameOf_keyiter hit.typeIs (wpAny_pure ?_))
 refine wpAny_bind (wpAny_isOneOf_keyiter hit.typeIs ?_)
 show wpAny _ _ (setField (.ref it) 1 (rawInt ((i:Int) + 1)) >>= _) _ _ s
 refine wpAny_bind (wpAny_setField ho hd (by simp) ?_)
 have hit':(s.heap.update it (Obj.mapFields (·.setIfInBounds 1 (rawInt ((i:Int) + 1))))).IsKeyIter it d (i + 1) es.size ep:=
  ⟨_,Heap.get?_update_self _ ho (Obj.isFreed_of_fields (Obj.data_mapFields hd _)),(Obj.cls_mapFields ..).trans hc,by rw [Obj.data_mapFields hd];simp [rawInt]⟩
 refine wpAny_bind (wpAny_holding ?_)
 refine wpAny_bind (wpAny_isOneOf_keyiter (s:={ s with heap:=s.heap.update it (Obj.mapFields (·.setIfInBounds 1 (rawInt ((i:Int) + 1)))) }) hit'.typeIs ?_)
 show wpAny _ _ (pure e.key) _ _ _
 exact wpAny_pure (wpAny_pure ⟨_,rfl,wpAny_pure (hQ _ hit' (Heap.SameBut.update ..))⟩)
theorem z585 {it d:Addr}{i ep:Nat}{od:Obj}{es:Array DictEntry}{Q:Option Value→Shared→Prop}(hh:Hd A s.heap) (hit:s.heap.IsKeyIter it d i es.size ep) (hod:s.heap.get? d=some od) (hdd:od.data=.dict es ep)
  (hge:es.size≤i) (hQ:∀ h',Heap.ExtBut it s.heap h'→Q none { s with heap:=h' }):wpAny (model prog w) A (pyNext (.ref it)) Q E s:=by
 obtain⟨o,ho,hc,hd⟩:=id hit
 unfold pyNext
 refine wpAny_bind (wpAny_attempt (wpAny_callSpecial?_slot (name:=Str.ofString "__next__") hit.typeIs F.slot_dict_keyiterator_next
  (wpAny_call_entry F.slot_dict_keyiterator_next hit.typeIs F.entry_dict_keyiterator_next ?_ (F.args_dict_keyiterator_next_1 _))))
 refine wpAny_bind (wpAny_pure ?_)
 refine wpAny_bind ?_
 refine wpAny_bind ?_
 first | refine wpAny_bind (wpAny_typeNameOfWhole_keyiter hit.typeIs (wpAny_pure ?_)) | refine wpAny_bind (wpAny_typeNameOf_keyiter hit.typeIs (wpAny_pure ?_))
 refine wpAny_bind (wpAny_fieldsOf ho hd ?_)
 have hown:Builtin.Dict_items.ownsTuple "dict_keyiterator"=false:=by decide
 simp only [hown,Bool.false_eq_true,if_false]
 show wpAny _ _ (if (Value.ref d == Value.none)=true then _ else _) _ _ s
 rw [if_neg (show ¬ ((Value.ref d == Value.none)=true) from Bool.false_ne_true)]
 refine wpAny_bind (wpAny_pure ?_)
 refine wpAny_bind (wpAny_dictEntries hod hdd ?_)
 rw [if_neg (by simp)]
 refine wpAny_bind (wpAny_pure ?_)
 refine wpAny_bind (wpAny_dictEpoch hod hdd ?_)
 rw [if_neg (by simp)]
 refine wpAny_pure ?_
 simp only [show ¬ ((i:Int) < 0) from by omega,if_false,Int.toNat_natCast,Array.getElem?_eq_none hge]
 refine wpAny_bind ?_
 first | refine wpAny_bind (wpAny_typeNameOfWhole_keyiter hit.typeIs (wpAny_pure ?_)) | refine wpAny_bind (wpAny_typeNameOf_keyiter hit.typeIs (wpAny_pure ?_))
 show wpAny _ _ (setField (.ref it) 0 .none >>= _) _ _ s
 refine wpAny_bind (wpAny_setField ho hd (by simp) ?_)
 refine z125 (hh.update (A:=A) ho hc _) fun h' e k1 k2=>z128 k2 (hQ h' fun b o hb z=>k1 b o ?_)
 rw [Heap.get?_update_other _ _ (Ne.symm hb)]
 exact z
end
section
variable {X:Cx}{pins:List (Addr × Obj)}{σ:St}{H:Hp}{s:Shared}{a:Addr}
theorem Inv.re {u v:HO}(I:Inv X pins σ H s) (e:H a=some u) (nt:∀ xs,u≠.tup xs) (no:∀ y,u≠.own y) (nb:∀ ps,u≠.tbl ps) (nf:∀ o w,X.H₀ a≠some (.frz o w)) (new:ObjOk X.prog X.w (upd H a v) s.heap a v):Inv X pins σ (upd H a v) s:=by
 have ne:∀ {b:Addr},H b=none→b≠a:=fun{b} h z=>by rw [z,e] at h;cases h
 refine⟨I.ok,I.os,I.bare,⟨I.base.keep,I.base.slot,fun b o q n hx=>?_,I.base.there,fun b xs q=>?_,fun b o w q=>?_,fun b ps q=>?_⟩,I.loc,I.cell,?_,fun x c h=>?_,fun p hp=>?_,fun b o q=>?_,I.len⟩
 ·have z:=I.base.free b o q n hx
  rw [upd_ne (ne z)]
  exact z
 ·have z:=I.base.tups b xs q
  rw [upd_ne (fun h=>by rw [h,e] at z;exact nt xs (Option.some.inj z))]
  exact z
 ·have z:=I.base.frzs b o w q
  rw [upd_ne (fun h=>by rw [h] at q;exact nf o w q)]
  exact z
 ·obtain⟨more,z⟩:=I.base.tbls b ps q
  exact⟨more,by rw [upd_ne (fun h=>by rw [h,e] at z;exact nb _ (Option.some.inj z))];exact z⟩
 ·rw [upd_ne (ne I.free)]
  exact I.free
 ·rw [upd_ne (ne (I.freeC x c h))]
  exact I.freeC x c h
 ·obtain⟨z1,z2,z3⟩:=I.pin p hp
  exact⟨z1,by rw [upd_ne (ne z2)];exact z2,z3⟩
 ·by_cases hb:b=a
  ·subst hb
   rw [upd_same] at q
   cases q
   exact new
  ·rw [upd_ne hb] at q
   refine(I.hok b o q).stay (fun _ _ _ z=>z) (fun c z=>?_) fun c xs z=>?_
   ·rw [upd_ne (fun h=>by rw [h,e] at z;exact no _ (Option.some.inj z))]
    exact z
   ·rw [upd_ne (fun h=>by rw [h,e] at z;exact nt _ (Option.some.inj z))]
    exact z
end
section
variable {prog:Program}{w:World}{d:Addr}
end
theorem hu65 {k:Nat}{A:Around}(r:Room k A):A.units + 64 + 1 < cLine:=by have:=r.un;omega
end L2
set_option Elab.async false
set_option linter.all false
set_option maxRecDepth 100000
namespace L2
open PySem PySem.Spec PyProof.Rows
theorem ints_of:∀ {ns:List Int}{us:List Value},Vals (ns.map V.int) us→∃ xs:List (Int × Tok),us=xs.map (fun p=>Value.int p.1 p.2)∧xs.map (·.1)=ns
 | [],_,r=>by rw [List.map_nil] at r;cases r;exact⟨[],rfl,rfl⟩
 | n::ns,_,r=>by
  rw [List.map_cons] at r
  cases r with
  | cons h t=>
   obtain⟨u,rfl⟩:=h
   obtain⟨xs,rfl,e⟩:=ints_of t
   exact⟨(n,u)::xs,rfl,by rw [List.map_cons,e]⟩
theorem z163 (xs:List (Int × Tok)) (i:Nat):numAt xs.toArray i=(xs.map (·.1)).getD i 0:=by
 unfold numAt
 rw [List.getD_eq_getElem?_getD,List.getElem?_map]
 simp
section
variable {X:Cx}
theorem z482:CallR X (.type "dict") (fun xs H Q=>∃ p kvs,xs=[.ref p]∧H p=some (.dK kvs)∧∀ l,H l=none→Q (.ref l) (upd H l (.dK kvs))):=by
 intro pins s σ H xs us Q I r h
 obtain⟨p,kvs,rfl,e,q⟩:=h
 obtain⟨u,rfl,rx⟩:=vals1 r
 cases rx
 obtain⟨z,hd,vs,rel,dd⟩:=dk_of I.hok e
 refine PySem.kt_call_dict hd dd (by rw [← rel.length];exact z) fun h' dd' hs=>⟨.ref s.heap.objs.size,_,?_,rfl,q _ (I.hok.fresh (Nat.le_refl _))⟩
 refine I.laid (t':=s.toks) (fun b o hb=>(hs.2 b (Nat.ne_of_lt (Heap.lt_size hb))).trans (Heap.get?_push_of_some _ hb)) (Nat.le_refl _) (dk_new z (beq_eq_false_iff_ne.mpr (Ne.symm (Nat.ne_of_lt I.big))) rel dd')
end
end L2
set_option Elab.async false
set_option linter.all false
set_option maxRecDepth 100000
namespace L2
open PySem PySem.Spec PyProof.Rows
theorem z177 {prog:Program}{w:World}{A:Around}{E:Value→Shared→Prop}{s:Shared}{a:Addr}{o:Obj}{xs:Array Value}{k:Nat}{name:Str}{Q:Option Value→Shared→Prop}
  (hx:s.heap.get? a=some o) (hc:o.cls=.type "list") (hdat:o.data=.seq xs k) (hd:o.dict=none) (hmiss:typeLookup (.type "list") name=pure none) (hname:(["__module__","__name__","__qualname__","__doc__","__annotations__"]:List Str).contains name=false) (hA:A.handled=none)
  (h:∀ h' tk e,Heap.NewExcOf s.heap h' e "AttributeError"→Q none { s with heap:=h',toks:=tk }) (hsz:name.length + 100≤sizeLine:=by size_fits):
  wpAny (model prog w) A (getAttr? (.ref a) name) Q E s:=by
 obtain⟨c,dct,dat,sl⟩:=o
 simp only at hc hdat hd
 subst hc hdat hd
 obtain⟨hp,g,d,tk,os⟩:=s
 have hT:∀ tk',(⟨hp,g,d,tk',os⟩:Shared).TypeIs (.ref a) "list":=fun _=>⟨_,hx,rfl⟩
 have f1:=sub_AttributeError
 have f3:=F.slot_list_getattribute.lookup
 have f4:=F.slot_list_getattribute.bind (.ref a)
 have f5:=am_list_getattr_none
 unfold getAttr? getAttrBy? getAttrBy
 repeat (any_goals (first | assumption | exact hT _ | ((with_reducible show wpAny _ _ (call (Value.builtin "list.__getattribute__") _ _) _ _ _);refine call_meets F.slot_list_getattribute (hT _) am_entry_list_getattribute (F.args_list_getattribute_2 _ _) (meets_getattribute_miss_list a xs k sl name _ hmiss hname hsz) ⟨hx,hA,fun h' tk' e hx'=>?_⟩) | wp_step))
 obtain⟨t',u',he⟩:=hx'.there
 show wpAny _ _ (getattributeRaised _ _ _ _ _ _ _) _ _ _
 unfold getattributeRaised
 repeat (any_goals (first | assumption | wp_step))
 exact h _ _ _ hx'.of
theorem z51:plainId "dict.update.loop"=true:=by decide +kernel
theorem z169:entryFor table "dict.update.loop"=some Builtin.«dict.update.loop»:=entryFor_of_tree (by kernel_rfl)
section
variable {prog:Program}{w:World}{K:Type} [DecidableEq K]{knd:KeyKind prog w K}{A:Around}{R:Result→Shared→Prop}
def PairH (knd:KeyKind prog w K) (h:Heap) (t:Addr) (p:K × Value):Prop:=∃ u,h.IsTuple t #[u,p.2]∧knd.is p.1 u=true
theorem z605 {l it d:Addr}{ts:List Addr}{ps:List (K × Value)} (hlen:ts.length=ps.length) (nli:l≠it) (nld:l≠d) (nid:it≠d) (res:Value) (hA:A.handled=none):
  ∀ (k i:Nat) (s:Shared) (vs:List (K × Value)) (n:Int) (tk:Tok),ts.length - i=k→i≤ts.length→s.heap.IsListIter it l i→s.heap.IsList l (ts.map Value.ref).toArray→
   (∀ (j:Nat) (t:Addr) (p:K × Value),ts[j]?=some t→ps[j]?=some p→PairH knd s.heap t p∧t≠it∧t≠d)→s.heap.DictOf knd d vs→vs.length + (ts.length - i)≤sizeLine→
   (∀ h' tk',h'.DictOf knd d (merged vs (ps.drop i))→(∀ b o,b≠it→b≠d→s.heap.get? b=some o→h'.get? b=some o)→R (.ok (.ret res)) { s with heap:=h',toks:=tk' })→
   codeAny (model prog w) A (.builtin "dict.update.loop" ⟨[.ref d,.ref it,.int n tk,res],[]⟩) R s:=by
 intro k
 induction k with
 | zero=>
  intro i s vs n tk hk hi hit hl hp hd hsz hR
  have hin:i=ts.length:=by omega
  refine codeAny_builtin z169 ?_
  rw [Around.under_plainId z51 _]
  show wpAny _ A.in1 (pyNext (.ref it) >>= _) _ _ s
  refine wpAny_bind (wpAny_pyNext_list_end (A:=A.in1) hA hit hl (by simp [hin]) fun h' e=>?_)
  show wpAny _ A.in1 (Builtin.Dict.addKeywords d [] >>= _) _ _ _
  refine wpAny_bind (wpAny_pure (wpAny_pure ?_))
  refine hR h' s.toks ?_ fun b o hb _ e'=>e b o hb e'
  rw [List.drop_eq_nil_of_le (by omega)]
  obtain⟨o,es,ep,ho,r⟩:=hd
  exact⟨o,es,ep,e d o nid.symm ho,by simpa [merged] using r⟩
 | succ k ih=>
  intro i s vs n tk hk hi hit hl hp hd hsz hR
  have hlt:i < ts.length:=by omega
  obtain⟨t,ht⟩:∃ t,ts[i]?=some t:=⟨_,List.getElem?_eq_getElem hlt⟩
  obtain⟨p,hpp⟩:∃ p,ps[i]?=some p:=⟨_,List.getElem?_eq_getElem (by omega)⟩
  obtain⟨⟨u,hT,hu⟩,n1,n2⟩:=hp i t p ht hpp
  refine codeAny_builtin z169 ?_
  rw [Around.under_plainId z51 _]
  show wpAny _ A.in1 (pyNext (.ref it) >>= _) _ _ s
  refine wpAny_bind (wpAny_pyNext_list_item hit hl (x:=.ref t) (by simp [ht]) fun h1 hit1 sb1=>?_)
  have hT1:h1.IsTuple t #[u,p.2]:=by
   obtain⟨o,ho,r⟩:=hT
   exact⟨o,(sb1.2 t n1).trans ho,r⟩
  have hd1:h1.DictOf knd d vs:=by
   obtain⟨o,es,ep,ho,r⟩:=hd
   exact⟨o,es,ep,(sb1.2 d nid.symm).trans ho,r⟩
  obtain⟨o,ho,hc,n',hdat⟩:=id hT1
  show wpAny _ A.in1 (holding [Value.ref t] _ >>= _) _ _ _
  refine wpAny_bind (wpAny_holding (wpAny_bind (wpAny_tryCatch ?_)))
  unfold Builtin.Dict.pairItems
  refine wpAny_bind (wpAny_typeOf ⟨o,ho,hc⟩ ?_)
  rw [if_pos (by decide)]
  refine wpAny_bind (wpAny_seqItems ho hdat (wpAny_pure ?_))
  show wpAny _ A.in1 (holding [u,p.2] (dictSet d u p.2)) _ _ _
  have hsz':vs.length≤sizeLine:=by omega
  refine wpAny_holding (wpAny_dictSet_pairs (hsz:=hsz') hu hd1 fun h2 hd2 sb2=>?_)
  refine wpAny_pure ⟨plainId_quiet z51 _,ih (i + 1) _ (stored vs p.1 p.2) (n + 1) _ (by omega) (by omega) ?_ ?_ (fun j t' p' h1' h2'=>?_) hd2 ?_ fun h3 tk3 hd3 k3=>?_⟩
  ·obtain⟨o,ho,r⟩:=hit1
   exact⟨o,(sb2.2 it nid).trans ho,r⟩
  ·obtain⟨o,ho,r⟩:=hl
   exact⟨o,(sb2.2 l nld).trans ((sb1.2 l nli).trans ho),r⟩
  ·obtain⟨⟨u',⟨o,ho,r⟩,hu'⟩,m1,m2⟩:=hp j t' p' h1' h2'
   exact⟨⟨u',⟨o,(sb2.2 t' m2).trans ((sb1.2 t' m1).trans ho),r⟩,hu'⟩,m1,m2⟩
  ·have:=stored_length_le vs p.1 p.2
   omega
  ·refine hR h3 tk3 ?_ fun b o hb1 hb2 e=>k3 b o hb1 hb2 ((sb2.2 b hb2).trans ((sb1.2 b hb1).trans e))
   rw [List.drop_eq_getElem_cons (show i < ps.length by omega)]
   have ep:ps[i]'(by omega)=p:=(List.getElem?_eq_some_iff.mp hpp).2
   rw [ep]
   simpa [merged] using hd3
end
theorem z618:typeLookup (.type "list") (Str.ofString "keys")=pure none:=by rw [typeLookup_type,builtinLookup_eq_fast];kernel_rfl
section
variable {prog:Program}{w:World}{K:Type} [DecidableEq K]{knd:KeyKind prog w K}{A:Around}{E:Value→Shared→Prop}{s:Shared}
theorem z307 {l:Addr}{ts:List Addr}{ps:List (K × Value)}{Q:Value→Shared→Prop}(hA:A.handled=none) (hlen:ts.length=ps.length) (hl:s.heap.IsList l (ts.map Value.ref).toArray)
  (hlo:∀ o,s.heap.get? l=some o→o.dict=none) (hp:∀ (j:Nat) (t:Addr) (p:K × Value),ts[j]?=some t→ps[j]?=some p→PairH knd s.heap t p) (hsz:ps.length≤sizeLine)
  (h:∀ h' tk,h'.DictOf knd s.heap.objs.size (merged [] ps)→(∀ b o,s.heap.get? b=some o→h'.get? b=some o)→Q (.ref s.heap.objs.size) { s with heap:=h',toks:=tk }):
  wpAny (model prog w) A (call (.type "dict") [.ref l]) Q E s:=by
 refine callType_codes (Q₁:=fun obj s₁=>obj=.ref s.heap.objs.size∧s₁={ s with heap:=s.heap.push { cls:=.type "dict",data:=.dict #[] } }) F.kt_called_dict (F.kt_typeCall_dict_1 _) F.entry_dict_init (kt_code_dict_new _ ⟨rfl,rfl⟩) ?_
 rintro obj s₁ ⟨rfl,rfl⟩
 have hnew:(s.heap.push { cls:=.type "dict",data:=.dict #[] }).DictOf knd s.heap.objs.size []:=Heap.DictOf.new s.heap
 obtain⟨o,ho,hc,n,hdat⟩:=id hl
 have ho':=Heap.get?_push_of_some { cls:=.type "dict",data:=.dict #[] } ho
 refine⟨hnew.typeIs,F.args_dict_init_2 _ _,?_⟩
 unfold Builtin.«dict.__init__»
 refine wpAny_bind ?_
 unfold Builtin.Dict.selfAndRest
 refine wpAny_bind (wpAny_notOrdered_dict hnew.typeIs ?_)
 show wpAny _ _ (pure (s.heap.objs.size,[Value.ref l])) _ _ _
 refine wpAny_pure ?_
 show wpAny _ _ (Builtin.Dict.updateFrom "dict.__init__" s.heap.objs.size (.ref l) [] .none) _ _ _
 unfold Builtin.Dict.updateFrom
 refine wpAny_bind (wpAny_typeOf ⟨o,ho',hc⟩ ?_)
 rw [if_pos (by decide)]
 refine wpAny_bind (z177 ho' hc hdat (hlo o ho) z618 (by decide +kernel) hA (fun h1 tk e hx=>?_) (by rw [sizeLine_eq];decide +kernel))
 have k1:∀ b o,s.heap.get? b=some o→h1.get? b=some o:=fun b o e'=>hx.keeps b o (Heap.get?_push_of_some _ e')
 have hd1:h1.DictOf knd s.heap.objs.size []:=by
  obtain⟨o,es,ep,ho,r⟩:=hnew
  exact⟨o,es,ep,hx.keeps _ _ ho,r⟩
 have hl1:h1.IsList l (ts.map Value.ref).toArray:=⟨o,k1 _ _ ho,hc,n,hdat⟩
 have dlt:s.heap.objs.size < h1.objs.size:=by
  obtain⟨o,es,ep,ho,r⟩:=hd1
  exact Heap.lt_size ho
 rw [if_pos (show (none:Option Value).isNone=true from rfl)]
 refine wpAny_bind (wpAny_rule (wpAny_bind (wpAny_pyIter_list hl1 ?_)))
 have pk:∀ b o',h1.get? b=some o'→(h1.push { cls:=.type "list_iterator",data:=.fields #[.ref l,.int 0 0] }).get? b=some o':=fun b o' e'=>Heap.get?_push_of_some _ e'
 refine wpAny_pure ⟨plainId_quiet z51 _,z605 (knd:=knd) (A:=A.in1) (ts:=ts) (ps:=ps) (l:=l) (it:=h1.objs.size) (d:=s.heap.objs.size) hlen (Nat.ne_of_lt (Heap.lt_size (k1 _ _ ho))) (Nat.ne_of_lt (Heap.lt_size ho)) (Nat.ne_of_gt dlt) .none hA ts.length 0 _ [] 0 0 (by omega) (Nat.zero_le _) ⟨_,Heap.get?_push_size _ rfl,rfl,rfl⟩ ⟨o,pk _ _ (k1 _ _ ho),hc,n,hdat⟩ (fun j t p a b=>?_) ?_ (by simp;omega) fun h3 tk3 hd3 k3=>?_⟩
 ·obtain⟨u,⟨o',e1,r⟩,hu⟩:=hp j t p a b
  exact⟨⟨u,⟨o',pk _ _ (k1 _ _ e1),r⟩,hu⟩,Nat.ne_of_lt (Heap.lt_size (k1 _ _ e1)),Nat.ne_of_lt (Heap.lt_size e1)⟩
 ·obtain⟨o',es,ep,e1,r⟩:=hd1
  exact⟨o',es,ep,pk _ _ e1,r⟩
 ·exact⟨rfl,h h3 tk3 (by simpa using hd3) fun b o' e'=>k3 b o' (Nat.ne_of_lt (Heap.lt_size (k1 _ _ e'))) (Nat.ne_of_lt (Heap.lt_size e')) (pk _ _ (k1 _ _ e'))⟩
end
section
variable {X:Cx}
theorem z329 (hc:X.calm=true):CallR X (.type "dict") (fun xs H Q=>∃ p ts kvs,xs=[.ref p]∧H p=some (.lst (ts.map V.ref))∧Paired (fun t (kv:Key × V)=>H t=some (.tup [kV kv.1,kv.2])) ts kvs∧∀ d,H d=none→Q (.ref d) (upd H d (.dK (mergeK [] kvs)))):=by
 intro pins s σ H xs us Q I r h
 obtain⟨p,ts,kvs,rfl,e,pr,q⟩:=h
 obtain⟨u,rfl,rx⟩:=vals1 r
 cases rx
 obtain⟨z,its,n,rv,ho⟩:=(show ObjOk X.prog X.w H s.heap p (.lst (ts.map V.ref)) from I.hok p _ e)
 have ei:its=ts.map Value.ref:=by
  clear pr ho z e
  induction ts generalizing its with
  | nil=>cases rv;rfl
  | cons t ts ih=>
   rw [List.map_cons] at rv
   cases rv with
   | cons a b=>
    cases (show _=Value.ref t from a)
    rw [ih _ b,List.map_cons]
 subst ei
 have key:∃ ps:List (Key × Value),KV kvs ps∧∀ (j:Nat) (t:Addr) (p:Key × Value),ts[j]?=some t→ps[j]?=some p→PairH (mixKind X.prog X.w) s.heap t p:=by
  clear rv ho z e q
  induction pr with
  | nil=>exact⟨[],.nil,fun j t p a=>by simp at a⟩
  | @cons t kv ts kvs hh rr ih=>
   obtain⟨ps,kp,hp⟩:=ih
   obtain⟨zz,its,rv,pl⟩:=(show ObjOk X.prog X.w H s.heap t (.tup [kV kv.1,kv.2]) from I.hok t _ hh)
   cases rv with
   | cons a1 r1=>
    cases r1 with
    | cons a2 r2=>
     cases r2
     rename_i u1 u2
     refine⟨(kv.1,u2)::ps,.cons ⟨rfl,a2⟩ kp,fun j t' p' h1 h2=>?_⟩
     cases j with
     | zero=>
      cases h1
      cases h2
      exact⟨u1,pl,kV_is a1⟩
     | succ j=>exact hp j t' p' h1 h2
 obtain⟨ps,kp,hp⟩:=key
 have hl1:=Paired.length pr
 have hl2:=kp.length
 rw [List.length_map] at z
 refine z307 (knd:=mixKind X.prog X.w) (I.ok.hd hc) (by omega) ⟨_,ho,rfl,n,rfl⟩ (fun o ho2=>by rw [ho] at ho2;cases ho2;rfl) hp (by omega) fun h' tk dd k=>⟨.ref s.heap.objs.size,_,?_,rfl,q _ (I.hok.fresh (Nat.le_refl _))⟩
 have hz:(mergeK [] kvs).length≤sizeLine:=by
  have h1:=length_mergeK kvs []
  rw [List.length_nil] at h1
  omega
 exact I.laid (t':=tk) k (Nat.le_refl _) (dk_new hz (beq_eq_false_iff_ne.mpr (Ne.symm (Nat.ne_of_lt I.big))) (kp.merge .nil) dd)
end
end L2
set_option Elab.async false
set_option linter.all false
set_option maxRecDepth 100000
namespace L2
open PySem PySem.Spec PyProof.Rows
inductive KHits (K:PySem.W.Frag) (H:Hp) (kb:List (Key × V)):List (Key × V)→Bool→Prop
 | nil:KHits K H kb [] true
 | miss {k:Key}{v:V}{r:List (Key × V)}:valV kb k=none→KHits K H kb ((k,v)::r) false
 | hit {k:Key}{v y:V}{r:List (Key × V)}{d e:PyData}{b:Bool}:valV kb k=some y→Den K H v d→Den K H y e→SeqAt.shaped d=true→SeqAt.shaped e=true→KHits K H kb r b→KHits K H kb ((k,v)::r) (PyData.eqv d e && b)
theorem KHits.keq {X:Cx}{pins:List (Addr × Obj)}{σ:St}{H:Hp}{s:Shared}(I:Inv X pins σ H s) (hu:X.A.units + 64 + 1 < cLine){kb:List (Key × V)}{vb:List (Key × Value)} (rb:KV kb vb)
  {ka:List (Key × V)}{b:Bool}(h:KHits X.K H kb ka b):∀ {va:List (Key × Value)},KV ka va→PySem.W.KeqHits X.A.in1 s vb va b:=by
 induction h with
 | nil=>intro va ra;cases ra;exact .nil
 | @miss k v r hn=>
  intro va ra
  cases ra with
  | @cons p q _ _ h t=>
   obtain⟨k',u⟩:=q
   obtain⟨e,ru⟩:=h
   have e:k=k':=e
   subst e
   have:=rb.val k
   rw [hn] at this
   refine .miss ?_
   cases hv:PySem.valueAt vb k with
   | none=>rfl
   | some z=>rw [hv] at this;exact this.elim
 | @hit k v y r d e b hv d1 d2 s1 s2 hr ih=>
  intro va ra
  cases ra with
  | @cons p q _ _ h t=>
   obtain⟨k',u⟩:=q
   obtain⟨e,ru⟩:=h
   have e:k=k':=e
   subst e
   have:=rb.val k
   rw [hv] at this
   cases hz:PySem.valueAt vb k with
   | none=>rw [hz] at this;exact this.elim
   | some z=>
    rw [hz] at this
    obtain⟨as,r1⟩:=d1.reads I ru
    obtain⟨bs,r2⟩:=d2.reads I this
    exact .hit hz (PySem.W.keq_at (A:=X.A) r1 r2 s1 s2 hu) (ih t)
def rEqK (K:PySem.W.Frag) (neg:Bool):R2:=fun x y H Q=>∃ a b ka kb r,x=.ref a∧y=.ref b∧H a=some (.dK ka)∧H b=some (.dK kb)∧(ka.length=kb.length→KHits K H kb ka r)∧Q (.bl (if neg then !(ka.length == kb.length && r) else(ka.length == kb.length && r))) H
theorem op_neK {X:Cx}(hu:X.A.units + 64 + 1 < cLine):OpR X (compareOp .NotEq) (rEqK X.K true):=by
 intro pins s σ H x y v u Q I rx ry h
 obtain⟨a,b,ka,kb,r,rfl,rfl,ea,eb,hh,q⟩:=h
 cases rx
 cases ry
 obtain⟨_,ha,va,ra,da⟩:=dk_of I.hok ea
 obtain⟨_,hb,vb,rb,db⟩:=dk_of I.hok eb
 refine PySem.W.keq_ne ha hb da db (by omega) (fun e=>(hh (by rw [ra.length,rb.length,e])).keq I hu rb ra) (fin_bl I q ?_)
 rw [ra.length,rb.length]
 rfl
end L2
set_option Elab.async false
set_option linter.all false
set_option maxRecDepth 100000
namespace Wy
open PySem L2
def WayAt (H:Hp) (v:V) (b:Int) (cs:List Int):Prop:=∃ p q,v=.ref p∧H p=some (.tup [.int b,.ref q])∧H q=some (.tup (cs.map V.int))
theorem WayAt.same {H H':Hp}{v:V}{b:Int}{cs:List Int}(e:Same H H') (h:WayAt H v b cs):WayAt H' v b cs:=by
 obtain⟨p,q,h1,h2,h3⟩:=h
 exact⟨p,q,h1,e _ _ h2,e _ _ h3⟩
def idx (b:Int) (cs:List Int) (t:Int):Int:=if (cs.length:Int) - 1 < t - b then(cs.length:Int) - 1 else t - b
def plc (b:Int) (cs:List Int) (t:Int):V:=if t < b then .non else .int (cs.getD (idx b cs t).toNat 0)
theorem idx_in {b:Int}{cs:List Int}{t:Int}(h:b≤t) (hc:cs≠[]):0≤idx b cs t∧idx b cs t < cs.length:=by
 have:0 < cs.length:=List.length_pos_iff.mpr hc
 unfold idx
 split <;> omega
theorem plc_or (b:Int) (cs:List Int) (t:Int):plc b cs t=.non∨∃ z,plc b cs t=.int z:=by
 unfold plc
 split
 ·exact .inl rfl
 ·exact .inr ⟨_,rfl⟩
theorem z633 {b:Int}{cs:List Int}{t:Int}(h:b≤t):∃ z,plc b cs t=.int z:=by
 unfold plc
 rw [if_neg (by omega)]
 exact⟨_,rfl⟩
theorem z114 {b:Int}{cs:List Int}{t:Int}:plc b cs t=.non↔t < b:=by
 unfold plc
 split
 ·simp_all
 ·simp_all
theorem z316 {b:Int}{cs:List Int}{t t':Int}(hc:cs≠[]) (h:b + (cs.length:Int) - 1≤t) (h':b + (cs.length:Int) - 1≤t'):plc b cs t=plc b cs t':=by
 have hl:0 < cs.length:=List.length_pos_iff.mpr hc
 have e:idx b cs t=idx b cs t':=by
  unfold idx
  split <;> split <;> omega
 unfold plc
 rw [if_neg (by omega),if_neg (by omega),e]
def sAt:Str:="at"
def z338:Str:="through"
def mw (p p' q q':V):Option Str:=if p=q then some sAt else if p'=q∧q'=p then some z338 else none
theorem z626 (p p' q q':V):mw p p' q q'=mw q q' p p':=by
 unfold mw
 by_cases h:p=q
 ·rw [if_pos h,if_pos h.symm]
 ·rw [if_neg h,if_neg (show ¬ q=p from fun z=>h z.symm)]
  by_cases h2:p'=q∧q'=p
  ·rw [if_pos h2,if_pos ⟨h2.2,h2.1⟩]
  ·rw [if_neg h2,if_neg (fun z=>h2 ⟨z.2,z.1⟩)]
def mtAt (b1:Int) (c1:List Int) (b2:Int) (c2:List Int) (t:Int):Option Str:=mw (plc b1 c1 t) (plc b1 c1 (t + 1)) (plc b2 c2 t) (plc b2 c2 (t + 1))
def First (b1:Int) (c1:List Int) (b2:Int) (c2:List Int):Option (Int × Str)→Prop
 | none=>∀ t,b1≤t→b2≤t→mtAt b1 c1 b2 c2 t=none
 | some (t,w)=>b1≤t∧b2≤t∧mtAt b1 c1 b2 c2 t=some w∧∀ t',b1≤t'→b2≤t'→t' < t→mtAt b1 c1 b2 c2 t'=none
theorem First.uniq {b1:Int}{c1:List Int}{b2:Int}{c2:List Int}{o o':Option (Int × Str)} (h:First b1 c1 b2 c2 o) (h':First b1 c1 b2 c2 o'):o=o':=by
 cases o with
 | none=>
  cases o' with
  | none=>rfl
  | some x=>
   obtain⟨t,w⟩:=x
   obtain⟨h1,h2,h3,_⟩:=h'
   rw [h t h1 h2] at h3
   cases h3
 | some x=>
  obtain⟨t,w⟩:=x
  obtain⟨h1,h2,h3,h4⟩:=h
  cases o' with
  | none=>
   rw [h' t h1 h2] at h3
   cases h3
  | some y=>
   obtain⟨t',w'⟩:=y
   obtain⟨g1,g2,g3,g4⟩:=h'
   have e:t=t':=by
    rcases Int.lt_trichotomy t t' with z | z | z
    ·rw [g4 t h1 h2 z] at h3;cases h3
    ·exact z
    ·rw [h4 t' g1 g2 z] at g3;cases g3
   subst e
   rw [h3] at g3
   cases g3
   rfl
theorem First.comm {b1:Int}{c1:List Int}{b2:Int}{c2:List Int}{o:Option (Int × Str)} (h:First b1 c1 b2 c2 o):First b2 c2 b1 c1 o:=by
 have e:∀ t,mtAt b2 c2 b1 c1 t=mtAt b1 c1 b2 c2 t:=fun t=>z626 _ _ _ _
 cases o with
 | none=>exact fun t h1 h2=>by rw [e];exact h t h2 h1
 | some x=>
  obtain⟨t,w⟩:=x
  obtain⟨h1,h2,h3,h4⟩:=h
  exact⟨h2,h1,by rw [e];exact h3,fun t' g1 g2 g3=>by rw [e];exact h4 t' g2 g1 g3⟩
theorem z636 {b1:Int}{c1:List Int}{b2:Int}{c2:List Int}{e t:Int}(hc1:c1≠[]) (hc2:c2≠[]) (h1:b1 + (c1.length:Int) - 1≤e) (h2:b2 + (c2.length:Int) - 1≤e) (ht:e≤t) (h:mtAt b1 c1 b2 c2 e=none):mtAt b1 c1 b2 c2 t=none:=by
 have a1:plc b1 c1 t=plc b1 c1 e:=z316 hc1 (by omega) h1
 have a2:plc b1 c1 (t + 1)=plc b1 c1 (e + 1):=z316 hc1 (by omega) (by omega)
 have a3:plc b2 c2 t=plc b2 c2 e:=z316 hc2 (by omega) h2
 have a4:plc b2 c2 (t + 1)=plc b2 c2 (e + 1):=z316 hc2 (by omega) (by omega)
 unfold mtAt at h ⊢
 rw [a1,a2,a3,a4]
 exact h
theorem First.none_of {b1:Int}{c1:List Int}{b2:Int}{c2:List Int}{e:Int}(hc1:c1≠[]) (hc2:c2≠[]) (h1:b1 + (c1.length:Int) - 1≤e) (h2:b2 + (c2.length:Int) - 1≤e) (h:∀ t,b1≤t→b2≤t→t≤e→mtAt b1 c1 b2 c2 t=none):First b1 c1 b2 c2 none:=by
 have l1:0 < c1.length:=List.length_pos_iff.mpr hc1
 have l2:0 < c2.length:=List.length_pos_iff.mpr hc2
 intro t g1 g2
 by_cases ht:t≤e
 ·exact h t g1 g2 ht
 ·exact z636 hc1 hc2 h1 h2 (by omega) (h e (by omega) (by omega) (Int.le_refl _))
def MeetAt (H:Hp) (r:V):Option (Int × Str)→Prop
 | none=>r=.non
 | some (t,w)=>∃ p,r=.ref p∧H p=some (.tup [.int t,.str w])
theorem z425 {b:Int}{c:List Int}(b0:0≤b):(List.replicate b.toNat [V.non]).flatten++c.map V.int=(List.range (b.toNat + c.length)).map fun i=>plc b c ((i:Nat):Int):=by
 have e1:(List.replicate b.toNat [V.non]).flatten=List.replicate b.toNat V.non:=by
  generalize b.toNat=n
  induction n with
  | zero=>rfl
  | succ n ih=>rw [List.replicate_succ,List.flatten_cons,ih,List.replicate_succ];rfl
 rw [e1]
 refine List.ext_getElem? fun j=>?_
 rw [List.getElem?_map]
 by_cases h1:j < b.toNat
 ·rw [List.getElem?_append_left (by simpa using h1)]
  have:j < b.toNat + c.length:=by omega
  simp only [List.getElem?_replicate,h1,if_true,List.getElem?_range this,Option.map_some]
  congr 1
  exact(z114.mpr (by omega)).symm
 ·rw [List.getElem?_append_right (by simpa using h1),List.length_replicate]
  by_cases h2:j < b.toNat + c.length
  ·have hj:j - b.toNat < c.length:=by omega
   rw [List.getElem?_range h2,Option.map_some,List.getElem?_map]
   have hi:(idx b c (j:Int)).toNat=j - b.toNat:=by
    unfold idx
    split <;> omega
   unfold plc
   rw [if_neg (by omega),hi]
   simp [hj]
  ·rw [List.getElem?_eq_none (by simp;omega),List.getElem?_eq_none (by simp;omega)]
   rfl
theorem z598 (n:Nat):(List.replicate n [V.non]).flatten.length=n:=by
 induction n with
 | zero=>rfl
 | succ n ih=>rw [List.replicate_succ,List.flatten_cons,List.length_append,ih];simp;omega
theorem z495 {b:Int}{c:List Int}{i:Nat}(hc:c≠[]) (h:b + (c.length:Int)≤i):plc b c ((i - 1:Nat):Int)=plc b c (i:Int):=z316 hc (by omega) (by omega)
end Wy
set_option Elab.async false
set_option linter.all false
set_option maxRecDepth 100000
namespace L2
open PySem PySem.Spec PyProof.Rows
theorem z551 {P:Program}{w:World}{k:Key}{u:Value}(h:(mixKind P w).is k u=true):RelV (kV k) u:=by
 cases k with
 | inl i=>
  cases u <;> simp_all [mixKind,keyIs,Value.isInt,kV,RelV]
 | inr x=>
  cases u <;> simp_all [mixKind,keyIs,Value.isStrOf,kV,RelV]
section
variable {X:Cx}{pins:List (Addr × Obj)}{σ:St}{H:Hp}{s:Shared}{a:Addr}
theorem Inv.freezeK {kvs:List (Key × V)} (I:Inv X pins σ H s) (e:H a=some (.dK kvs)){o:Obj}(ho:s.heap.get? a=some o):Inv X pins σ (upd H a (.frz o (.dK kvs))) s:=by
 refine I.re e (fun _ z=>nomatch z) (fun _ z=>nomatch z) (fun _ z=>nomatch z) (fun o w z=>?_) ⟨ho,(show ObjOk X.prog X.w H s.heap a (.dK kvs) from I.hok a _ e)⟩
 have:=I.base.frzs a o w z
 rw [e] at this
 cases this
theorem Inv.thawK {kvs:List (Key × V)}{o:Obj}(I:Inv X pins σ H s) (e:H a=some (.frz o (.dK kvs))) (nf:∀ o w,X.H₀ a≠some (.frz o w)):Inv X pins σ (upd H a (.dK kvs)) s:=
 I.re e (fun _ z=>nomatch z) (fun _ z=>nomatch z) (fun _ z=>nomatch z) nf (show ObjOk X.prog X.w (upd H a (.dK kvs)) s.heap a (.dK kvs) from(show ObjOk X.prog X.w H s.heap a (.frz o (.dK kvs)) from I.hok a _ e).2)
end
def Itk (a:Addr) (o:Obj) (kvs:List (Key × V)):It:=
 ⟨fun i H=>H a=some (.frz o (.dK kvs))∧i < kvs.length,fun i H x H'=>H'=H∧∃ k v,x=kV k∧kvs[i]?=some (k,v),fun i H=>H a=some (.frz o (.dK kvs))∧kvs.length≤i⟩
theorem pairs_at {P:Program}{w:World}:∀ {es:List DictEntry}{vs:List (Key × Value)},Pairs (mixKind P w) es vs→∀ {i:Nat}{q:Key × Value},vs[i]?=some q→∃ e,es[i]?=some e∧(mixKind P w).is q.1 e.key=true
 | _,_,.cons h _ _,0,_,e=>by cases e;exact⟨_,rfl,h⟩
 | _,_,.cons _ _ r,i + 1,_,e=>by
  rw [List.getElem?_cons_succ] at e
  obtain⟨x,e1,e2⟩:=pairs_at r e
  exact⟨x,by rw [List.getElem?_cons_succ];exact e1,e2⟩
theorem z328 {P:Program}{w:World}{K:PySem.W.Frag}{tg:Expr}(a it:Addr) (o:Obj) (kvs:List (Key × V)) (es:Array DictEntry) (ep:Nat) (hdd:o.data=.dict es ep):Turn P w K tg (Itk a o kvs) [it] it (fun i h=>h.IsKeyIter it a i es.size ep) where
 mem:=by simp
 obj:=fun i h st b hb=>by
  have e:b=it:=by simpa using hb
  subst e
  obtain⟨o,e,c,d⟩:=st
  exact⟨o,e,fun v z=>by rw [d] at z;cases z⟩
 keep:=fun i h h' st k=>st.at fun o e=>k it (by simp) o e
 item:=by
  intro X hP hw hK hc i pins s σ H E I hf st hg
  subst hP hw hK
  obtain⟨hq,hx⟩:=hg
  obtain⟨hod,z,hd,vs,rel,o',es',ep',ho',he1,he2,he3,he4,he5⟩:=(show ObjOk X.prog X.w H s.heap a (.frz o (.dK kvs)) from I.hok a _ hq)
  rw [hod] at ho'
  cases ho'
  rw [hdd] at he2
  cases he2
  obtain⟨kv,hkv⟩:∃ kv,kvs[i]?=some kv:=⟨_,List.getElem?_eq_getElem hx⟩
  obtain⟨q,hq1,q1,q2⟩:=Paired.at1 rel hkv
  obtain⟨en,hen,his⟩:=pairs_at he4 hq1
  have hes:es[i]?=some en:=by simpa using hen
  obtain⟨f0,f1,f2,f3,f4,f5⟩:=hf it (by simp)
  refine z527 st hod hdd hes fun h' st' sb=>?_
  have I1:Inv X pins σ H { s with heap:=h' }:=I.turned (t':=s.toks) (fun b o hb e=>(sb.2 b hb).trans e) f0 f1 f3 f4 f5
  obtain⟨o2,e,c,d⟩:=id st'
  exact⟨_,rfl,go_of (s:={ s with heap:=h' }) e c d (by decide) ⟨kV q.1,H,I1,z551 his,⟨rfl,kv.1,kv.2,by rw [q1],hkv⟩,st',fun b hb=>(hf b hb).1⟩⟩
 done:=by
  intro X hP hw hK hc i pins s σ H E I hf st hg
  subst hP hw hK
  obtain⟨hq,hx⟩:=hg
  obtain⟨hod,z,hd,vs,rel,o',es',ep',ho',he1,he2,he3,he4,he5⟩:=(show ObjOk X.prog X.w H s.heap a (.frz o (.dK kvs)) from I.hok a _ hq)
  rw [hod] at ho'
  cases ho'
  rw [hdd] at he2
  cases he2
  have hsz:=he4.length
  have hl:=Paired.length rel
  obtain⟨f0,f1,f2,f3,f4,f5⟩:=hf it (by simp)
  exact z585 (I.calm hc) st hod hdd (by simp only [Array.length_toList] at hsz;omega) fun h' eb=>⟨rfl,I.turned (t':=s.toks) (fun b o hb e=>eb b o hb e) f0 f1 f3 f4 f5⟩
 self:=fun _ _ _ _ _ st h=>wpAny_pyIter_keyiter st h
def iDictK (te:TE):TI:=fun σ H R=>te σ H fun x H1=>∃ a kvs,x=.ref a∧((H1 a=some (.dK kvs)∧∀ o,R (Itk a o kvs) (upd H1 a (.frz o (.dK kvs))))∨∃ o,H1 a=some (.frz o (.dK kvs))∧R (Itk a o kvs) H1)
theorem z352 {X:Cx}{tg l:Expr}{tl:TE}(hl:PE X l tl):PI X tg l (iDictK tl):=by
 intro pins s σ H R I h
 refine thn (hl pins s σ H _ I h) fun v s1 ⟨x,H1,I1,r1,q1⟩=>?_
 obtain⟨a,kvs,e,q⟩:=q1
 subst e
 cases r1
 rcases q with ⟨hq,q⟩ | ⟨o,hq,q⟩
 ·obtain⟨z,hd,vs,rel,dd⟩:=dk_of I1.hok hq
  obtain⟨o,es,ep,ho,hc,hdat,_⟩:=dd
  refine z379 hd ho hc hdat ?_
  have I2:=I1.freezeK hq ho
  refine⟨s1.heap.objs.size,[s1.heap.objs.size],_,_,_,rfl,I2.kept (t':=s1.toks) fun b o e=>Heap.get?_push_of_some _ e,z328 a _ o kvs es ep hdat,⟨_,Heap.get?_push_size _ rfl,rfl,rfl⟩,fun b hb=>?_,q o⟩
  have e:b=s1.heap.objs.size:=by simpa using hb
  subst e
  exact I2.fpOk (Nat.le_refl _) (I2.hok.fresh (Nat.le_refl _))
 ·obtain⟨ho,z,hd,vs,rel,o',es,ep,ho',hc,hdat,_⟩:=(show ObjOk X.prog X.w H1 s1.heap a (.frz o (.dK kvs)) from I1.hok a _ hq)
  rw [ho] at ho'
  cases ho'
  refine z379 hd ho hc hdat ?_
  refine⟨s1.heap.objs.size,[s1.heap.objs.size],_,_,_,rfl,I1.kept (t':=s1.toks) fun b o e=>Heap.get?_push_of_some _ e,z328 a _ o kvs es ep hdat,⟨_,Heap.get?_push_size _ rfl,rfl,rfl⟩,fun b hb=>?_,q⟩
  have e:b=s1.heap.objs.size:=by simpa using hb
  subst e
  exact I1.fpOk (Nat.le_refl _) (I1.hok.fresh (Nat.le_refl _))
def Ends.thawK (D:Ends) (a:Addr) (kvs:List (Key × V)):Ends where
 nx:=fun σ H=>(∃ o,H a=some (.frz o (.dK kvs)))∧D.nx σ (upd H a (.dK kvs))
 rt:=fun v H=>(∃ o,H a=some (.frz o (.dK kvs)))∧D.rt v (upd H a (.dK kvs))
 bk:=fun σ H=>(∃ o,H a=some (.frz o (.dK kvs)))∧D.bk σ (upd H a (.dK kvs))
 ct:=fun σ H=>(∃ o,H a=some (.frz o (.dK kvs)))∧D.ct σ (upd H a (.dK kvs))
def tThawK (t:TS):TS:=fun D σ H=>(∃ a kvs,H a=some (.dK kvs)∧t (D.thawK a kvs) σ H)∨t D σ H
theorem z342 {X:Cx}{st:Stmt}{t:TS}(h:PS X st t):PS X st (tThawK t):=by
 intro pins s σ H D I q
 rcases q with ⟨a,kvs,e,q⟩ | q
 ·have nf:∀ o w,X.H₀ a≠some (.frz o w):=fun o w z=>by
   have:=I.base.frzs a o w z
   rw [e] at this
   cases this
  refine thn (h pins s σ H _ I q) fun f s' y=>?_
  cases f with
  | next=>obtain⟨σ',H',I',⟨o,z⟩,d⟩:=y;exact⟨σ',_,I'.thawK z nf,d⟩
  | brk=>obtain⟨σ',H',I',⟨o,z⟩,d⟩:=y;exact⟨σ',_,I'.thawK z nf,d⟩
  | cont=>obtain⟨σ',H',I',⟨o,z⟩,d⟩:=y;exact⟨σ',_,I'.thawK z nf,d⟩
  | ret u=>obtain⟨v,σ',H',I',rv,⟨o,z⟩,d⟩:=y;exact⟨v,σ',_,I'.thawK z nf,rv,d⟩
 ·exact h pins s σ H D I q
def tThawE (t:TE):TE:=fun σ H Q=>(∃ a kvs,H a=some (.dK kvs)∧t σ H fun v H'=>(∃ o,H' a=some (.frz o (.dK kvs)))∧Q v (upd H' a (.dK kvs)))∨t σ H Q
theorem z487 {X:Cx}{e:Expr}{t:TE}(h:PE X e t):PE X e (tThawE t):=by
 intro pins s σ H Q I q
 rcases q with ⟨a,kvs,e',q⟩ | q
 ·have nf:∀ o w,X.H₀ a≠some (.frz o w):=fun o w z=>by
   have:=I.base.frzs a o w z
   rw [e'] at this
   cases this
  refine thn (h pins s σ H _ I q) fun u s' ⟨v,H',I',rv,⟨o,z⟩,d⟩=>?_
  exact⟨v,_,I'.thawK z nf,rv,d⟩
 ·exact h pins s σ H Q I q
theorem z537 {a:Addr}{o:Obj}{kvs:List (Key × V)}{H:Hp}(h:H a=some (.frz o (.dK kvs))):SrcIs (Itk a o kvs) H (kvs.map fun kv=>kV kv.1):=
 ⟨fun i hi=>⟨h,by simpa using hi⟩,fun i x H' hi y=>⟨y.1,by
  obtain⟨_,k,v,e,hk⟩:=y
  rw [List.getElem?_map,hk,e]
  rfl⟩,⟨h,by simp⟩⟩
theorem z367 {a:Addr}{o:Obj}{kvs:List (Key × V)}{g:TG}{tb:TS}{D:Ends}{σ:St}{H:Hp}(Pv:Nat→St→Hp→Prop) (h0:Pv 0 σ H) (hl:∀ i σ H,i≤kvs.length→Pv i σ H→H a=some (.frz o (.dK kvs)))
  (hs:∀ i k v σ H,kvs[i]?=some (k,v)→Pv i σ H→g (kV k) σ H fun σ2 H2=>tb { D with nx:=Pv (i + 1),ct:=Pv (i + 1),bk:=D.nx } σ2 H2) (hd:∀ σ H,Pv kvs.length σ H→D.nx σ H):
  ∃ W:Nat→Nat→St→Hp→Prop,(∃ m,W 0 m σ H)∧∀ i m σ H,W i m σ H→
   ((Itk a o kvs).stop i H∧D.nx σ H)∨((Itk a o kvs).go i H∧∃ N:St→Hp→Prop,(∀ σ' H',N σ' H'→∃ m',m' < m∧W (i + 1) m' σ' H')∧∀ x H',(Itk a o kvs).yld i H x H'→g x σ H' fun σ2 H2=>tb { D with nx:=N,ct:=N,bk:=D.nx } σ2 H2):=by
 refine⟨fun i m σ H=>m=kvs.length - i∧i≤kvs.length∧Pv i σ H,⟨kvs.length,by simp,Nat.zero_le _,h0⟩,?_⟩
 rintro i m σ H ⟨rfl,hi,p⟩
 by_cases hlt:i < kvs.length
 ·refine .inr ⟨⟨hl i σ H hi p,hlt⟩,Pv (i + 1),fun σ' H' p'=>⟨kvs.length - (i + 1),by omega,rfl,hlt,p'⟩,fun x H' y=>?_⟩
  obtain⟨e,k,v,e1,e2⟩:=y
  subst e e1
  exact hs i k v σ _ e2 p
 ·have e:i=kvs.length:=by omega
  subst e
  exact .inl ⟨⟨hl _ σ H (Nat.le_refl _) p,Nat.le_refl _⟩,hd σ H p⟩
theorem Inv.sorted {X:Cx}{pins:List (Addr × Obj)}{σ:St}{H:Hp}{s:Shared}{h':Heap}{tk:Nat}{a e:Nat}{out:Array Value}{ms:List Int}(I:Inv X pins σ H s) (hk:∀ b o,s.heap.get? b=some o→h'.get? b=some o) (ha:s.heap.objs.size≤a)
  (hm:IntsAre out.toList ms) (hz:ms.length≤sizeLine) (ho:h'.get? a=some (seqObj "list" out e)):Inv X pins σ (upd H a (.lst (ms.map V.int))) { s with heap:=h',toks:=tk }:=
 I.laid (t':=tk) hk ha (show ObjOk X.prog X.w _ h' _ (.lst (ms.map V.int)) from⟨by rw [List.length_map];exact hz,out.toList,e,vals_ints hm,by rw [ho]⟩)
section
variable {prog:Program}{w:World}{A:Around}{E:Value→Shared→Prop}{s:Shared}{K:Type} [DecidableEq K]{knd:KeyKind prog w K}{d:Addr}{kvs:List (K × Value)}{ep:Nat}
theorem z313 {Q:List Value→Shared→Prop}(hh:A.handled=none) (lo:(d == sysModules)=false) (hd:s.heap.DictAt knd d kvs ep) (hn:kvs.length≤sizeLine)
  (h:∀ (h':Heap) tk (vs:List Value),(∀ b o,s.heap.get? b=some o→h'.get? b=some o)→s.heap.objs.size < h'.objs.size→vs.length=kvs.length→(∀ (j:Nat) (v:Value),vs[j]?=some v→∃ k x,kvs[j]?=some (k,x)∧knd.is k v=true)→Q vs { s with heap:=h',toks:=tk }):
  wpAny (model prog w) A (collect (.ref d)) Q E s:=by
 have lt:=hd.lt_size
 have hS:(s.heap.push (seqObj "list" #[] 0)).get? s.heap.objs.size=some (seqObj "list" #[] 0):=Heap.get?_push_size _ rfl
 have hd':(s.heap.push (seqObj "list" #[] 0)).DictAt knd d kvs ep:=hd.push _
 unfold collect
 refine wpAny_bind (wpAny_runValue (codeAny_builtin entry_proto_collect' (wpAny_bind (wpAny_newList (wpAny_pure ⟨Code.quiet_builtin _ (by decide +kernel),codeAny_builtin entry_list_iadd' ?_⟩)))))
 show wpAny (model prog w) A.in1 (Builtin.List.listExtendWith (.ref s.heap.objs.size) (.ref d) (.ref s.heap.objs.size)) _ _ _
 have lay:∀ {h':Heap}{tk:Nat}{acc:Array Value}{c:Nat},(∀ b o,b≠s.heap.objs.size→(s.heap.push (seqObj "list" #[] 0)).get? b=some o→h'.get? b=some o)→h'.get? s.heap.objs.size=some { cls:=.type "list",dict:=none,data:=.seq acc c,slots:=#[] }→
   ItemsOf (fun i v=>∃ k x,kvs[i]?=some (k,x)∧knd.is k v=true) acc kvs.length→Q acc.toList { s with heap:=h',toks:=tk }:=fun{h'} {tk} {acc} {c} hk hl hacc=>
  h h' tk acc.toList (fun b o hb=>hk b o (Nat.ne_of_lt (Heap.lt_size hb)) (Heap.get?_push_of_some _ hb)) (Heap.lt_size hl) (by rw [Array.length_toList];exact hacc.1) fun j v e=>hacc.2 j v (by simpa using e)
 have R:=PySem.W.kdl_extend (A:=A) (s:={ s with heap:=s.heap.push (seqObj "list" #[] 0) }) (R:=fun r s'=>r=.ok (.ret (.ref s.heap.objs.size))∧∃ acc c,s'.heap.get? s.heap.objs.size=some { cls:=.type "list",dict:=none,data:=.seq acc c,slots:=#[] }∧Q acc.toList s')
  (PySem.W.kdl_dict lo) hh hd' s.heap.objs.size (Nat.ne_of_gt lt) (Nat.ne_of_gt lt) (.ref s.heap.objs.size) 0 hS (fun h' tk acc c hk hl hacc=>⟨rfl,acc,c,hl,lay hk hl hacc⟩) hn
 refine wpAny_mono R (fun f s' y=>?_) fun e s' y=>by cases y.1
 cases f with
 | done f=>
  obtain⟨e,acc,c,hl,q⟩:=y
  cases e
  exact wpAny_bind (wpAny_load hl (wpAny_pure q))
 | again c'=>
  refine⟨y.1,codeAny_mono y.2 fun r s2 z=>?_⟩
  obtain⟨e,acc,c,hl,q⟩:=z
  subst e
  exact wpAny_bind (wpAny_load hl (wpAny_pure q))
theorem z347 {ns:List Int}{Q:Value→Shared→Prop}(hh:A.handled=none) (lo:(d == sysModules)=false) (hd:s.heap.DictAt knd d kvs ep) (hn:kvs.length < 64)
  (hI:∀ vs:List Value,vs.length=kvs.length→(∀ (j:Nat) (v:Value),vs[j]?=some v→∃ k x,kvs[j]?=some (k,x)∧knd.is k v=true)→IntsAre vs ns)
  (h:∀ (h':Heap) (tk:Nat) (a e:Nat) (out:Array Value) (ms:List Int),(∀ b o,s.heap.get? b=some o→h'.get? b=some o)→s.heap.objs.size≤a→h'.get? a=some (seqObj "list" out e)→IntsAre out.toList ms→ms.Perm ns→ms.Pairwise (·≤·)→Q (.ref a) { s with heap:=h',toks:=tk }):
  wpAny (model prog w) A (call (.builtin "sorted") [.ref d]) Q E s:=by
 refine Calls.call_function_entry kind_sorted plain_sorted entry_sorted (args_sorted1 (.ref d)) (show wpAny _ _ (Builtin.«sorted» _) _ _ _ from ?_)
 unfold Builtin.«sorted»
 refine wpAny_bind (m:=checkCount "sorted" 1 1 _) (wpAny_pure (wpAny_bind (z313 hh lo hd (by rw [sizeLine_eq];omega) fun h1 tk vs hk le hl hv=>wpAny_bind (wpAny_newList ?_))))
 have hoL:(h1.push (seqObj "list" vs.toArray 0)).get? h1.objs.size=some (seqObj "list" vs.toArray 0):=Heap.get?_push_size _ rfl
 have he:∀ out:Array Value,∃ e,(sortedHeap (h1.push (seqObj "list" vs.toArray 0)) h1.objs.size vs out).get? h1.objs.size=some (seqObj "list" out e):=fun out=>sortedHeap_at hoL
 have kept:∀ (out:Array Value) b o,s.heap.get? b=some o→(sortedHeap (h1.push (seqObj "list" vs.toArray 0)) h1.objs.size vs out).get? b=some o:=fun out b o hb=>by
  have l1:=Heap.lt_size (hk b o hb)
  rw [sortedHeap_old (Nat.ne_of_lt l1) (by rw [size_push'];exact Nat.lt_succ_of_lt l1)]
  exact Heap.get?_push_of_some _ (hk b o hb)
 refine wpAny_bind (wpAny_holding (wpAny_call_entry slot_list_sort ⟨_,hoL,rfl⟩ entry_list_sort (list_sort_tree hoL (hI vs hl hv) (by omega) fun out ms p1 p2 p3=>⟨.none,rfl,wpAny_pure ⟨_,rfl,?_⟩⟩) (args_list_sort _)))
 obtain⟨e,he⟩:=he out
 exact h _ tk _ e out ms (kept out) (Nat.le_of_lt le) he p1 p2 p3
end
theorem z363 {P:Program}{w:World}:∀ (ks:List Int) (us:List Value),us.length=ks.length→(∀ (j:Nat) (v:Value),us[j]?=some v→∃ k,ks[j]?=some k∧(mixKind P w).is (.inl k) v=true)→IntsAre us ks
 | [],[],_,_=>.nil
 | [],_::_,h,_=>by simp at h
 | _::_,[],h,_=>by simp at h
 | k::ks,u::us,h,f=>by
  obtain⟨k',e,hk⟩:=f 0 u rfl
  cases e
  obtain⟨t,rfl⟩:=(show ∃ t,u=Value.int k t from z551 hk)
  exact .cons k t (z363 ks us (by simpa using h) fun j v e=>by
   obtain⟨k',e',h'⟩:=f (j + 1) v (by simpa using e)
   exact⟨k',by simpa using e',h'⟩)
theorem z643 {kvs:List (Int × V)}{vs:List (Key × Value)} (rel:KV (kvs.map fun q=>((Sum.inl q.1:Key),q.2)) vs){j:Nat}{k:Key}{x:Value}(h:vs[j]?=some (k,x)):∃ n,(kvs.map (·.1))[j]?=some n∧k=.inl n:=by
 obtain⟨q,hq,e,_⟩:=Paired.at2 rel h
 rw [List.getElem?_map] at hq
 obtain⟨p,hp,rfl⟩:=Option.map_eq_some_iff.mp hq
 exact⟨p.1,by rw [List.getElem?_map,hp];rfl,e.symm⟩
theorem z83 {X:Cx}(hc:X.calm=true):CallR X (.builtin "sorted") (fun xs H Q=>∃ p,∃ kvs:List (Int × V),xs=[.ref p]∧Rd H p (.dK (kvs.map fun q=>((Sum.inl q.1:Key),q.2)))∧kvs.length < 64∧
  ∀ ms:List Int,ms.Perm (kvs.map (·.1))→ms.Pairwise (·≤·)→∀ l,H l=none→Q (.ref l) (upd H l (.lst (ms.map V.int)))):=by
 intro pins s σ H xs us Q I r h
 obtain⟨p,kvs,rfl,e,hl,q⟩:=h
 obtain⟨u,rfl,rx⟩:=vals1 r
 cases rx
 obtain⟨z,hd,vs,rel,o,es,ep,rest⟩:=dk_rd I.hok e
 have lv:vs.length=kvs.length:=by rw [← rel.length,List.length_map]
 refine z347 (knd:=mixKind X.prog X.w) (ns:=kvs.map (·.1)) (I.ok.hd hc) hd ⟨o,es,rest⟩ (by omega) (fun ws hw hv=>z363 (P:=X.prog) (w:=X.w) _ ws (by rw [hw,lv,List.length_map]) fun j v e=>?_) fun h' tk a e out ms hk ha ho h1 h2 h3=>?_
 ·obtain⟨k,x,hx,his⟩:=hv j v e
  obtain⟨n,hn,rfl⟩:=z643 rel hx
  exact⟨n,hn,his⟩
 ·have hm:=h2.length_eq
  rw [List.length_map] at hm
  exact⟨.ref a,_,I.sorted (tk:=tk) hk ha h1 (by rw [sizeLine_eq];omega) ho,rfl,q ms h2 h3 _ (I.hok.fresh ha)⟩
end L2
set_option Elab.async false
set_option linter.all false
set_option maxRecDepth 100000
namespace L2
open PySem PySem.Spec PyProof.Rows
section
variable {prog:Program}{w:World}{A:Around}{E:Value→Shared→Prop}{s:Shared}{d:Addr}
end
end L2
set_option Elab.async false
set_option linter.all false
namespace Hq
open PySem L2
theorem z204:∀ {a b:List Int},HT.lexLt a b=true→HT.lexLt b a=false
 | [],[],h=>by cases h
 | [],_::_,_=>rfl
 | _::_,[],h=>by cases h
 | x::a,y::b,h=>by
  rw [HT.lexLt_cons] at h ⊢
  by_cases e:x=y
  ·rw [if_pos e] at h
   rw [if_pos e.symm]
   exact z204 h
  ·rw [if_neg e,decide_eq_true_eq] at h
   rw [if_neg (fun z=>e z.symm)]
   exact decide_eq_false (by omega)
theorem z389:∀ {a b:List Int},HT.lexLt a b=false→HT.lexLt b a=false→a=b
 | [],[],_,_=>rfl
 | [],_::_,h,_=>by cases h
 | _::_,[],_,h=>by cases h
 | x::a,y::b,h1,h2=>by
  rw [HT.lexLt_cons] at h1 h2
  by_cases e:x=y
  ·rw [if_pos e] at h1
   rw [if_pos e.symm] at h2
   rw [e,z389 h1 h2]
  ·rw [if_neg e,decide_eq_false_iff_not] at h1
   rw [if_neg (fun z=>e z.symm),decide_eq_false_iff_not] at h2
   omega
def Le (a b:List Int):Prop:=HT.lexLt b a=false
theorem Le.trans:∀ {a b c:List Int},Le a b→Le b c→Le a c
 | [],_,[],_,_=>rfl
 | [],_,_::_,_,_=>rfl
 | _::_,[],_,h,_=>by cases h
 | _::_,_::_,[],_,h=>by cases h
 | x::a,y::b,z::c,h1,h2=>by
  unfold Le at h1 h2 ⊢
  rw [HT.lexLt_cons] at h1 h2 ⊢
  by_cases e1:y=x <;> by_cases e2:z=y
  ·rw [if_pos e1] at h1
   rw [if_pos e2] at h2
   rw [if_pos (e2.trans e1)]
   exact Le.trans (a:=a) (b:=b) h1 h2
  ·rw [if_neg e2,decide_eq_false_iff_not] at h2
   rw [if_neg (by omega)]
   exact decide_eq_false (by omega)
  ·rw [if_neg e1,decide_eq_false_iff_not] at h1
   rw [if_neg (by omega)]
   exact decide_eq_false (by omega)
  ·rw [if_neg e1,decide_eq_false_iff_not] at h1
   rw [if_neg e2,decide_eq_false_iff_not] at h2
   rw [if_neg (by omega)]
   exact decide_eq_false (by omega)
section
variable {α:Type}{k:α→List Int}{ts:List α}
def Hok (k:α→List Int) (ts:List α):Prop:=∀ (i:Nat) (x y:α),0 < i→ts[i]?=some x→ts[(i - 1) / 2]?=some y→Le (k y) (k x)
def swp (ts:List α) (p a:Nat) (x y:α):List α:=(ts.set p y).set a x
structure Lift (k:α→List Int) (ts:List α) (p:Nat):Prop where
 up:∀ (i:Nat) (x y:α),0 < i→i≠p→ts[i]?=some x→ts[(i - 1) / 2]?=some y→Le (k y) (k x)
 gp:0 < p→∀ (i:Nat) (x y:α),0 < i→(i - 1) / 2=p→ts[i]?=some x→ts[(p - 1) / 2]?=some y→Le (k y) (k x)
structure Sink (k:α→List Int) (ts:List α) (p:Nat):Prop where
 up:∀ (i:Nat) (x y:α),0 < i→(i - 1) / 2≠p→ts[i]?=some x→ts[(i - 1) / 2]?=some y→Le (k y) (k x)
 gp:0 < p→∀ (i:Nat) (x y:α),0 < i→(i - 1) / 2=p→ts[i]?=some x→ts[(p - 1) / 2]?=some y→Le (k y) (k x)
structure Lesser (k:α→List Int) (ts:List α) (p b:Nat):Prop where
 b0:0 < b
 bp:(b - 1) / 2=p
 le:∀ (i:Nat) (x y:α),0 < i→(i - 1) / 2=p→ts[i]?=some x→ts[b]?=some y→Le (k y) (k x)
end
end Hq
set_option Elab.async false
set_option linter.all false
set_option maxRecDepth 100000
namespace L2
open PySem PySem.Spec PyProof.Rows PySem.W
section
variable {n:Nat}{lt:Nat→Nat→Bool}{cmp:Nat→Nat→(Bool→Shared→Prop)→Shared→Prop}{s:Shared}
structure Ord (lt:Nat→Nat→Bool):Prop where
 tr:∀ i j k,lt j i=false→lt k j=false→lt k i=false
 as:∀ i j,lt i j=true→lt j i=false
def Asks (n:Nat) (lt:Nat→Nat→Bool) (cmp:Nat→Nat→(Bool→Shared→Prop)→Shared→Prop) (s:Shared):Prop:=∀ i j C,i < n→j < n→C (lt i j) s→cmp i j C s
theorem Ord.rf (o:Ord lt) (i:Nat):lt i i=false:=by
 cases h:lt i i with
 | false=>rfl
 | true=>rw [← h];exact(o.as i i h)
def Pm (n:Nat) (p:Array Nat):Prop:=p.Perm (List.range n).toArray
abbrev Kp (p:Array Nat) (i:Nat):Nat:=p.getD i 0
theorem Pm.size {p:Array Nat}(h:Pm n p):p.size=n:=by
 have:=Array.Perm.size_eq h
 simpa using this
theorem Pm.below {p:Array Nat}(h:Pm n p) (h0:0 < n) (i:Nat):Kp p i < n:=by
 unfold Kp
 by_cases z:i < p.size
 ·have e:p.getD i 0=p[i]:=by simp [Array.getD,z]
  rw [e]
  have m:p[i]∈(List.range n).toArray:=(Array.Perm.mem_iff h).mp (Array.getElem_mem z)
  simpa using m
 ·have e:p.getD i 0=0:=by simp [Array.getD,z]
  rw [e]
  exact h0
theorem kp_get (p:Array Nat) (i:Nat):Kp p i=(p[i]?).getD 0:=by
 unfold Kp
 by_cases z:i < p.size
 ·simp [Array.getD,z]
 ·simp [Array.getD,z]
def Up (lt:Nat→Nat→Bool) (p:Array Nat) (m:Nat):Prop:=∀ i j,i≤j→j < m→lt (Kp p j) (Kp p i)=false
theorem kp_rev {p:Array Nat}{u v:Nat}(hv:v≤p.size) (huv:u≤v) (k:Nat):Kp (kas_rev p u v) k=if u≤k∧k < v then Kp p (u + v - 1 - k) else Kp p k:=by
 rw [kp_get]
 unfold kas_rev
 rw [getElem?_mirror hv _ (by omega)]
 by_cases h:u≤k∧k < v
 ·rw [if_pos h]
  by_cases h2:(u≤k∧k < u + (v - u) / 2)∨(v - (v - u) / 2≤k∧k < v)
  ·rw [if_pos h2,kp_get]
  ·rw [if_neg h2,kp_get]
   have:u + v - 1 - k=k:=by omega
   rw [this]
 ·rw [if_neg h,if_neg (by omega),kp_get]
theorem Pm.rev {p:Array Nat}(h:Pm n p) (u v:Nat):Pm n (kas_rev p u v):=Array.Perm.trans (mirror_perm _ _ _ _) h
theorem z392 {p:Array Nat}{k l:Nat}(hk:k < p.size) (hl:l≤k) (x:Nat):Kp (bubble p k (k - l)) x=if x=l then Kp p k else if l < x∧x≤k then Kp p (x - 1) else Kp p x:=by
 rw [kp_get,getElem?_bubble hk _ (by omega),show k - (k - l)=l by omega]
 by_cases h1:x=l
 ·rw [if_pos h1,if_pos h1,kp_get]
 ·rw [if_neg h1,if_neg h1]
  by_cases h2:l < x∧x≤k
  ·rw [if_pos h2,if_pos h2,kp_get]
  ·rw [if_neg h2,if_neg h2,kp_get]
end
end L2
set_option Elab.async false
set_option linter.all false
set_option maxRecDepth 100000
namespace L2
open PySem PySem.Spec PyProof.Rows PySem.W Hq
def TupI (h:Heap) (v:Value) (k:List Int):Prop:=∃ a o xs m,v=.ref a∧h.get? a=some o∧o.cls=.type "tuple"∧o.data=.seq xs m∧IntsAre xs.toList k
section
variable {prog:Program}{w:World}{A:Around}{E:Value→Shared→Prop}{s:Shared}
def Tups (h:Heap) (vs:List Value) (ks:List (List Int)):Prop:=Paired (TupI h) vs ks
theorem z625 (f:Nat→List Int):Ord (fun i j=>HT.lexLt (f i) (f j)) where
 tr:=fun i j k h1 h2=>Le.trans (a:=f i) (b:=f j) (c:=f k) h1 h2
 as:=fun i j h=>z204 h
theorem z371 {α:Type}(l:List α) (d:α):(List.range l.length).map (fun i=>l.getD i d)=l:=by
 apply List.ext_getElem
 ·simp
 ·intro i h1 h2
  simp [h2]
end
end L2
set_option Elab.async false
set_option linter.all false
set_option maxRecDepth 100000
namespace L2
open PySem PySem.Spec PyProof.Rows PySem.W Hq
theorem z284:∀ {ts:List Addr}{us:List Value},Vals (ts.map V.ref) us→us=ts.map Value.ref
 | [],_,r=>by rw [List.map_nil] at r;cases r;rfl
 | t::ts,_,r=>by
  rw [List.map_cons] at r
  cases r with
  | cons h q=>rw [List.map_cons,← z284 q];cases h;rfl
theorem z387:∀ ts:List Addr,Vals (ts.map V.ref) (ts.map Value.ref)
 | []=>.nil
 | t::ts=>.cons rfl (z387 ts)
section
variable {prog:Program}{w:World}{A:Around}{E:Value→Shared→Prop}
def StT (I l:Addr) (vs:List Value) (ks:List (List Int)) (i:Nat) (h:Heap):Prop:=h.IsListIter I l i∧h.IsList l vs.toArray∧Tups h vs ks
end
end L2
set_option Elab.async false
set_option linter.all false
set_option maxRecDepth 100000
namespace L2
open PySem PySem.Spec PyProof.Rows PySem.W Hq
open PySem.SeqAt PySem.MeetsSeq
open PySem.AutoSeq1 (wpAny_loadPart')
theorem z517 (its:List Value):slicePick its.toArray none none (some (-1))=its.reverse.toArray:=by
 have e:(sliceRange (its.length - 1) (-1) (-1))=(List.range its.length).map fun(m:Nat)=>(((its.toArray.size:Int) - 1) + (m:Int) * (-1)).toNat:=by
  unfold sliceRange
  have c:(if (-1:Int) > 0 then(if (its.length:Int) - 1 < -1 then(-1 - ((its.length:Int) - 1) + -1 - 1) / -1 else 0) else(if (its.length:Int) - 1 > -1 then((its.length:Int) - 1 - -1 - -1 - 1) / (- -1) else 0))=(its.length:Int):=by
   rw [if_neg (by omega)]
   split
   ·rw [show (- -1:Int)=1 by rfl,Int.ediv_one]
    omega
   ·omega
  rw [c]
  simp only [Int.toNat_natCast,List.size_toArray]
  refine List.map_congr_left fun m _=>?_
  congr 1
  omega
 have h:=HT.z588 its.toArray
 unfold slicePick sliceBounds
 simp only [Option.getD_some,show ¬ ((-1:Int) > 0) by omega,if_false,List.size_toArray]
 rw [e,List.filterMap_map]
 simp only [List.size_toArray] at h
 exact h
end L2
set_option Elab.async false
set_option linter.all false
set_option maxRecDepth 100000
namespace L2
open PySem PySem.Spec PyProof.Rows
section
variable {prog:Program}{w:World}{A:Around}{E:Value→Shared→Prop}{s:Shared}
theorem z317 {it l:Addr}{i:Nat}{items:Array Value}{Q:Value→Shared→Prop}(hh:Hd A s.heap) (hit:s.heap.IsListIter it l i) (hl:s.heap.IsList l items) (hx:items[i]?=none)
  (hE:∀ h' e,Heap.ExtBut it s.heap h'→(∃ o,h'.get? e=some o∧o.cls=.type "StopIteration")→E (.ref e) { s with heap:=h' }):wpAny (model prog w) A (Builtin.SmallTypes.nextOf (.ref it)) Q E s:=by
 obtain⟨o,ho,hc,hd⟩:=id hit
 obtain⟨_,hol,_,_,hdl⟩:=hl
 unfold Builtin.SmallTypes.nextOf
 refine wpAny_bind (wpAny_callSpecial?_slot (name:=Str.ofString "__next__") hit.typeIs slot_listiter_next (wpAny_call_entry slot_listiter_next hit.typeIs entry_listiter_next ?_ (args_listiter_next _)))
 refine wpAny_bind (m:=field (.ref it) 0) (wpAny_field ho hd (x:=.ref l) rfl ?_)
 rw [if_neg (fun z:(Value.ref l == Value.none)=true=>nomatch z)]
 refine wpAny_bind (m:=field (.ref it) 1) (wpAny_field ho hd (x:=.int i 0) rfl (wpAny_bind (m:=seqItems? (.ref l)) (wpAny_seqItems hol hdl ?_)))
 simp only [Int.toNat_natCast,hx]
 refine wpAny_bind (wpAny_rule (wpAny_bind (wpAny_setField ho hd (by simp) (z125 (hh.update (A:=A) ho hc _) fun h' e k1 k2=>hE h' e (fun b o hb z=>k1 b o ?_) k2))))
 rw [Heap.get?_update_other _ _ (Ne.symm hb)]
 exact z
end
theorem Inv.handed {X:Cx}{pins:List (Addr × Obj)}{σ:St}{H:Hp}{s:Shared}{h':Heap}{T:Addr}{o:HO}{t':Nat}{ch:List Addr}(I:Inv X pins σ H s) (hf:∀ b∈ch,FpOk X pins H b) (k:∀ b o,b ∉ ch→s.heap.get? b=some o→h'.get? b=some o)
  (hT:s.heap.objs.size≤T) (new:ObjOk X.prog X.w (upd H T o) h' T o):Inv X pins σ (upd H T o) { s with heap:=h',toks:=t' }:=by
 have hn:H T=none:=I.hok.fresh hT
 have nT:∀ {b:Addr}{u:Obj},s.heap.get? b=some u→b≠T:=fun e=>Nat.ne_of_lt (Nat.lt_of_lt_of_le (Heap.lt_size e) hT)
 refine I.step (g':=s.gens) (d':=s.drawn) (ch:=ch) (fun b hb=>?_) (fun b o _ _ hc e _=>k b o hc e) (fun b o _ _ hc e _=>⟨o.slots,k b o hc e⟩) (fun b o _ e n=>by rw [upd_ne (nT e)];exact n)
  (fun b o hc e=>⟨o,k b o hc e⟩) (fun b xs e=>by rw [upd_ne (ne_of_none e hn)];exact e) (fun b o u e=>by rw [upd_ne (ne_of_none e hn)];exact e) (fun b ps e=>⟨#[],by rw [upd_ne (ne_of_none e hn),e];simp⟩) (fun m hm=>?_) (fun b u e=>?_) I.bare
 ·obtain⟨f0,f1,f2,f3,f4,f5⟩:=hf b hb
  exact⟨f3,f1,f4,f5⟩
 ·obtain⟨o,es,ep,ho,r⟩:=hm
  exact⟨o,es,ep,k _ o (fun z=>(hf _ z).2.1 rfl) ho,r⟩
 ·by_cases hb:b=T
  ·subst hb
   rw [upd_same] at e
   cases e
   exact new
  ·rw [upd_ne hb] at e
   refine(I.hok b u e).stay (fun c v hc q=>k c v (fun z=>?_) q) (fun c q=>by rw [upd_ne (ne_of_none q hn)];exact q) fun c xs q=>by rw [upd_ne (ne_of_none q hn)];exact q
   have n0:=(hf c z).1
   rcases hc with y | y
   ·rw [y,e] at n0;cases n0
   ·rw [n0] at y;cases y
end L2
set_option Elab.async false
set_option linter.all false
set_option maxRecDepth 100000
namespace L2
open PySem PySem.Spec PyProof.Rows
section
variable {prog:Program}{w:World}{A:Around}{E:Value→Shared→Prop}{h:Heap}{g:Array GenState}{d:Drawn}{t:Nat}{os:OsState}
variable {nm q:Str}{C N:Addr}{bs bm bmB:List Value}{hdct:Bool}{sn:List Str}{sub:List Value}{ab:Bool}{col:Option Bool}{dd:Option Addr}{k0 k1 k2 k3 k5:Option Value}{B newId initId:String}
theorem z257 (F:ExcBaseFacts B newId initId bmB) (T:OwnTail h bmB bm){mN:Str→Option Value}{rest:List Value}{fI:Addr}{oI:Obj}{Q:PySem.Fin→Shared→Prop}
  (cC:h.get? C=some (excClassObj nm q C N bs bm hdct sn sub ab col dd k0 k1 k2 k3 k5 newId)) (hn:h.Ns N mN) (hi:mN "__init__"=some (.ref fI)) (cI:h.get? fI=some oI) (hfc:oI.cls=.type "function") (hz:rest.length≤sizeLine)
  (hq:∀ h' e,h.objs.size≤e→Heap.MadeExcOf h h' e (.ref C) rest→wpAny (model prog w) A (call (.ref fI) (.ref e::rest)) (fun r s'=>r=.none∧Q (.done (.ret (.ref e))) s') E ⟨h',g,d,t,os⟩):
  wpAny (model prog w) A (Builtin.«type.__call__» ⟨.ref C::rest,[]⟩) Q E ⟨h,g,d,t,os⟩:=by
 repeat (first | with_reducible refine wpAny_loadPart_at cC ?_ | with_reducible refine wpAny_madeBy_exc cC ?_ | wp_step)
 refine codeAny_call_builtin_code (Code.quiet_builtin _ F.quiet) (wpAny_check_new_subT F T cC (codeAny_exc_new_subT F T cC ?_ hz))
 show wpAny _ _ _ _ _ _
 have up:∀ b o,h.get? b=some o→((h.push { cls:=.type "tuple",data:=.seq rest.toArray }).push { cls:=.ref C,data:=.fields #[.ref h.objs.size,.none,.none,.none,.bool false,.none] }).get? b=some o:=fun b o e=>Heap.get?_push_of_some _ (Heap.get?_push_of_some _ e)
 have cC1:=up _ _ cC
 have cI1:=up _ _ cI
 have hn1:=hn.keeps up
 have T1:=T.keeps up
 have ce:((h.push { cls:=.type "tuple",data:=.seq rest.toArray }).push { cls:=.ref C,data:=.fields #[.ref h.objs.size,.none,.none,.none,.bool false,.none] }).get? (h.objs.size + 1)=some { cls:=.ref C,data:=.fields #[.ref h.objs.size,.none,.none,.none,.bool false,.none] }:=by heap_get
 have mC:(Value.ref C::bm).contains (.ref C)=true:=by simp
 unfold isInstance
 repeat (first | with_reducible refine wpAny_loadPart_at ce ?_ | (with_reducible refine wpAny_isSubtype_exc cC1 ?_;rw [mC]) | wp_step)
 show wpAny _ _ (typeLookup (.ref C) _) _ _ _
 refine wpAny_typeLookup_tail cC1 hn1 T1 F.mroIs F.init.lookup ?_
 rw [hi]
 refine wpAny_holding (wpAny_bind ?_)
 unfold bindSpecial
 refine wpAny_bind (wpAny_typeOf (T:="function") ⟨_,cI1,hfc⟩ ?_)
 rw [if_pos (by decide)]
 refine wpAny_pure (wpAny_bind (wpAny_mono (hq _ (h.objs.size + 1) (Nat.le_succ _) ⟨up,Heap.get?_none_of_le (Nat.le_succ _),h.objs.size,ce,Heap.get?_none_of_le (Nat.le_refl _),Heap.get?_push_of_some _ (Heap.get?_push_at rfl rfl)⟩) (fun r s' hr=>?_) fun _ _ x=>x))
 obtain⟨rfl,hQ⟩:=hr
 wp_walk
 exact hQ
theorem z479 (F:ExcBaseFacts B newId initId bmB) (T:OwnTail h bmB bm){mN:Str→Option Value}{rest:List Value}{fI:Addr}{oI:Obj}{Q:Value→Shared→Prop}
  (cC:h.get? C=some (excClassObj nm q C N bs bm hdct sn sub ab col dd k0 k1 k2 k3 k5 newId)) (hn:h.Ns N mN) (hi:mN "__init__"=some (.ref fI)) (cI:h.get? fI=some oI) (hfc:oI.cls=.type "function") (hz:rest.length≤sizeLine)
  (hq:∀ h' e,h.objs.size≤e→Heap.MadeExcOf h h' e (.ref C) rest→wpAny (model prog w) (A.under (.builtin "type.__call__" ⟨.ref C::rest,[]⟩)) (call (.ref fI) (.ref e::rest)) (fun r s'=>r=.none∧Q (.ref e) s') E ⟨h',g,d,t,os⟩):
  wpAny (model prog w) A (call (.ref C) rest) Q E ⟨h,g,d,t,os⟩:=by
 have f1:=tc_lookup
 have f2:=tc_bind (.ref C)
 have cT:(⟨h,g,d,t,os⟩:Shared).TypeIs (.ref C) "type":=⟨_,cC,rfl⟩
 refine wpAny_call (codeAny_of_tree ?_)
 show wpAny _ _ (callAny (.ref C) _) _ _ _
 repeat (any_goals (first | assumption | with_reducible refine wpAny_loadPart_at cC ?_ | wp_step))
 exact⟨rfl,codeAny_call_builtin_at (Code.quiet_builtin _ (by decide +kernel)) entry_typeCall (wpAny_check_type_call_sub cC (z257 F T cC hn hi cI hfc hz fun h' e he hm=>hq h' e he hm))⟩
end
section
open PySem.W
variable {prog:Program}{w:World}{A:Around}{E:Value→Shared→Prop}{s:Shared}{K:PySem.W.Frag}{x C:Addr}
def z32:List Value→Bool
 | [.type a,.type b,.type c,.type d]=>a == "ValueError" && b == "Exception" && c == "BaseException" && d == "object"
 | .ref _::r=>z32 r
 | _=>false
theorem z303 (self:Value):refuseLoop self "__setattr__" [.type "ValueError",.type "Exception",.type "BaseException",.type "object"]=pure ():=by kernel_rfl
theorem z227 (self:Value):∀ {l:List Value},z32 l=true→refuseLoop self "__setattr__" l=pure ()
 | [.type a,.type b,.type c,.type d],e=>by
  simp only [z32,Bool.and_eq_true,beq_iff_eq] at e
  obtain⟨⟨⟨rfl,rfl⟩,rfl⟩,rfl⟩:=e
  exact z303 self
 | .ref c::r,e=>by rw [refuseLoop_ref];exact z227 self (by simpa only [z32] using e)
theorem z372:∀ {l:List Value},z32 l=true→l.contains (.type "object")=true
 | [.type a,.type b,.type c,.type d],e=>by
  simp only [z32,Bool.and_eq_true,beq_iff_eq] at e
  obtain⟨⟨⟨rfl,rfl⟩,rfl⟩,rfl⟩:=e
  simp
 | .ref c::r,e=>by rw [List.contains_cons,z372 (l:=r) (by simpa only [z32] using e),Bool.or_true]
theorem z653 {name:Str}{v:Value}{Q:Unit→Shared→Prop}{fs:Array Value}{sl:Array (Option Value)} (X:K.In s.heap) (I:InstAt s.heap x ⟨.ref C,none,.fields fs,sl⟩ C none) (hs:findIn K (.ref C) "__setattr__"=some (some (.builtin "object.__setattr__"))) (hp:(clsIn K C).any (fun cd=>z32 cd.mro)=true) (ht:findIn K (.ref C) name=some none) (hh:(clsIn K C).any (·.hasDict)=true)
  (h:∀ h' tk,h'.get? x=some ⟨.ref C,some s.heap.objs.size,.fields fs,sl⟩→h'.Ns1 s.heap.objs.size (fun y=>if y=name then some v else none)→(∀ b o,b≠x→s.heap.get? b=some o→h'.get? b=some o)→Q () { s with heap:=h',toks:=tk }):
  wpAny (model prog w) A (setAttr (.ref x) name v) Q E s:=by
 refine set_plain X I hs ?_
 have SF:=PySem.F.store_object
 obtain⟨cd,hc,ho⟩:=any_some hp
 obtain⟨cd',hc',hdict⟩:=any_some hh
 obtain rfl:cd=cd':=Option.some.inj (hc.symm.trans hc')
 have ne:cd.mro.isEmpty=false:=by cases q:cd.mro with | nil=>rw [q] at ho;cases ho | cons _ _=>rfl
 have s1:Looks (model prog w) s.heap (isInstance (.ref x) (.type "object")) true:=I.type.andThen (looks_mroIn X (by unfold mroIn;rw [hc,Option.bind_some,if_neg (by rw [ne];decide),z372 ho]))
 refine codeAny_call_builtin SF.slot.plain SF.entry (@check_slot (model prog w) _ _ { s with toks:=s.toks + 1 } "object.__setattr__" "object" "__setattr__" (.ref x) [.str name s.toks,v] [] _ SF.kind SF.split s1 (SF.args (.ref x) (.str name s.toks) v) ?_)
 have hm:Looks (model prog w) s.heap (mroOf (.ref C)) cd.mro:=(looks_clsIn X hc).andThen .now
 rw [osa_eq,refuse_eq]
 refine wpAny_bind (wpAny_bind (I.type.here (s:={ s with toks:=s.toks + 1 }) (wpAny_bind (hm.here (s:={ s with toks:=s.toks + 1 }) ?_))))
 rw [z227 _ ho]
 refine wpAny_pure (wpAny_bind (I.type.here (s:={ s with toks:=s.toks + 1 }) (wpAny_bind ((looks_findIn X ht).here (s:={ s with toks:=s.toks + 1 }) (wpAny_bind (wpAny_pure ?_))))))
 obtain⟨hx,hcl,hno,_⟩:=id I
 have hxs:x≠s.heap.objs.size:=Nat.ne_of_lt (Heap.lt_size hx)
 refine wpAny_bind (wpAny_pure (wpAny_bind (wpAny_bind (wpAny_loadPart hx (wpAny_bind ((looks_clsIn X hc).here (s:={ s with toks:=s.toks + 1 }) ?_))))))
 rw [hdict]
 have hx1:(s.heap.push { cls:=.type "dict",data:=.dict #[] }).get? x=some ⟨.ref C,none,.fields fs,sl⟩:=Heap.get?_push_of_some _ hx
 refine wpAny_bind (m:=alloc { cls:=.type "dict",data:=.dict #[] }) (wpAny_alloc (wpAny_bind (wpAny_update hx1 (wpAny_pure ?_))))
 have ed:((s.heap.push { cls:=.type "dict",data:=.dict #[] }).update x fun o=>{ cls:=o.cls,dict:=some s.heap.objs.size,data:=o.data,slots:=o.slots }).get? s.heap.objs.size=some { cls:=.type "dict",data:=.dict #[] }:=(Heap.get?_update_ne _ _ _ _ hxs.symm).trans (Heap.get?_push_at rfl rfl)
 have nd:((s.heap.push { cls:=.type "dict",data:=.dict #[] }).update x fun o=>{ cls:=o.cls,dict:=some s.heap.objs.size,data:=o.data,slots:=o.slots }).Ns s.heap.objs.size (fun _=>none):=⟨_,#[],_,ed,rfl,fun e he=>absurd he (by simp),fun _=>rfl⟩
 show wpAny _ _ (Builtin.ObjectAttr.storeInDict s.heap.objs.size (.str name s.toks) name v) _ _ _
 unfold Builtin.ObjectAttr.storeInDict Builtin.ObjectAttr.newKeyGuard
 refine wpAny_bind (wpAny_pure (wpAny_bind (wpAny_nsSet1 (Heap.Ns1.of_empty nd) fun h' n1 b1=>?_)))
 obtain⟨oD,esD,epD,c1,c2,c3⟩:=n1.count (Within.cons name v Within.nil)
 refine wpAny_bind (wpAny_lookBehind c1 (by rw [c2];exact pastItsLine_dict (Nat.le_trans c3 (by rw [List.length_cons,List.length_nil,sizeLine_eq];omega))) ?_)
 refine wpAny_pure (h h' _ ((b1.2 x hxs).trans (Heap.get?_update_self _ hx1 rfl)) n1 fun b o bx e=>?_)
 exact(b1.2 b (Nat.ne_of_lt (Heap.lt_size e))).trans ((Heap.get?_update_ne _ _ _ _ bx).trans (Heap.get?_push_of_some _ e))
end
def XObj (x C:Addr) (d:Option Addr) (fs:Array Value) (sl:Array (Option Value)):Heap→Prop:=fun h=>h.get? x=some ⟨.ref C,d,.fields fs,sl⟩
theorem z557 {P:Program}{w:World}{H:Hp}{h:Heap}{x C:Addr}{d:Option Addr}{fs:Array Value}{sl:Array (Option Value)} (e:h.get? x=some ⟨.ref C,d,.fields fs,sl⟩):ObjOk P w H h x (.ext (XObj x C d fs sl)):=
 ⟨e,⟨_,e⟩,fun h1 h2 e1 k=>k _ e1⟩
structure XCls (K:PySem.W.Frag) (C:Addr):Prop where
 sa:PySem.W.findIn K (.ref C) "__setattr__"=some (some (.builtin "object.__setattr__"))
 mro:(PySem.W.clsIn K C).any (fun cd=>z32 cd.mro)=true
 dict:(PySem.W.clsIn K C).any (·.hasDict)=true
def sXFld (K:PySem.W.Frag) (ta tv:TE) (f:Str):TS:=fun D σ H=>tv σ H fun v H1=>ta σ H1 fun x H2=>∃ a C fs sl,x=.ref a∧H2 a=some (.ext (XObj a C none fs sl))∧XCls K C∧PySem.W.findIn K (.ref C) f=some none∧
 ∀ dx,H2 dx=none→dx≠a→D.nx σ (upd (upd H2 dx (.xd (putF f v []))) a (.ext (XObj a C (some dx) fs sl)))
theorem z628 {X:Cx}{o value:Expr}{f:Str}{ta tv:TE}{pos pos':Pos}(ha:PE X o ta) (hv:PE X value tv) (hs:swapsWith value (some (.Attribute o f pos')) pos.line X.env=pure false):PS X (.Assign [.Attribute o f pos'] value pos) (sXFld X.K ta tv f):=by
 intro pins s σ H D I h
 refine plainObj_wpAny_Assign_Attribute (thn (hv pins s σ H _ I h) fun u s1 ⟨y,H1,I1,ry,q⟩=>thn (ha pins s1 σ H1 _ I1 q) fun ov s2 ⟨x,H2,I2,rx,a,C,fs,sl,ex,ea,c,nf,q2⟩=>?_) hs
 subst ex
 cases (show ov=Value.ref a from rx)
 obtain⟨ga,_,_⟩:=(show ObjOk X.prog X.w H2 s2.heap a (.ext (XObj a C none fs sl)) from I2.hok a _ ea)
 have ga:s2.heap.get? a=some ⟨.ref C,none,.fields fs,sl⟩:=ga
 have las:=Heap.lt_size ga
 have nd:H2 s2.heap.objs.size=none:=I2.hok.fresh (Nat.le_refl _)
 have dne:s2.heap.objs.size≠a:=Nat.ne_of_gt las
 refine z653 I2.kIn ⟨ga,rfl,rfl,trivial⟩ c.sa c.mro nf c.dict fun h' tk e1 e2 e3=>⟨σ,_,?_,q2 _ nd dne⟩
 have na:∀ {b:Addr}{u:HO},H2 b=some u→b≠s2.heap.objs.size:=fun e=>ne_of_none e nd
 refine I2.step (g':=s2.gens) (d':=s2.drawn) (ch:=[]) (fun _ z=>nomatch z) (fun b o _ _ _ e n=>e3 b o (fun z=>by rw [z,ea] at n;cases n) e) (fun b o _ _ _ e n=>⟨o.slots,e3 b o (fun z=>by rw [z,ea] at n;cases n) e⟩) (fun b o _ e n=>?_) (fun b o _ e=>?_) (fun b xs e=>?_) (fun b o' u e=>?_) (fun b ps e=>⟨#[],?_⟩) (fun m hm=>?_) (fun b u e=>?_) I2.bare
 ·rw [upd_ne (fun z=>by rw [z,ea] at n;cases n),upd_ne (Nat.ne_of_lt (Heap.lt_size e))]
  exact n
 ·by_cases z:b=a
  ·rw [z];exact⟨_,e1⟩
  ·exact⟨o,e3 b o z e⟩
 ·rw [upd_ne (ne_of e ea (fun z=>by cases z)),upd_ne (na e)]
  exact e
 ·rw [upd_ne (ne_of e ea (fun z=>by cases z)),upd_ne (na e)]
  exact e
 ·rw [upd_ne (ne_of e ea (fun z=>by cases z)),upd_ne (na e),e]
  simp
 ·obtain⟨o,es,ep,ho,r⟩:=hm
  exact⟨o,es,ep,e3 _ o (fun z=>by have:=I2.free;rw [z,ea] at this;cases this) ho,r⟩
 ·by_cases z:b=a
  ·subst z
   rw [upd_same] at e
   cases e
   exact z557 e1
  ·rw [upd_ne z] at e
   by_cases z2:b=s2.heap.objs.size
   ·subst z2
    rw [upd_same] at e
    cases e
    refine⟨_,e2,fun g=>?_⟩
    rw [lookup_putF]
    by_cases gf:g=f
    ·rw [if_pos gf,if_pos gf]
     exact ry
    ·rw [if_neg gf,if_neg gf]
     trivial
   ·rw [upd_ne z2] at e
    refine(I2.hok b u e).stay (fun c v hc q=>e3 c v (fun y=>?_) q) (fun c q=>?_) fun c xs q=>?_
    ·rcases hc with y2 | y2
     ·exact z (y2.symm.trans y)
     ·rw [y,ea] at y2;cases y2
    ·rw [upd_ne (ne_of q ea (fun z=>by cases z)),upd_ne (na q)]
     exact q
    ·rw [upd_ne (ne_of q ea (fun z=>by cases z)),upd_ne (na q)]
     exact q
def del (H:Hp) (a:Addr):Hp:=fun b=>if b=a then none else H b
theorem del_ne {H:Hp}{a b:Addr}(h:b≠a):del H a b=H b:=if_neg h
theorem z292 {H:Hp}{a:Addr}:del H a a=none:=if_pos rfl
theorem z592 {H:Hp}{a b:Addr}{o:HO}(h:del H a b=some o):b≠a∧H b=some o:=by
 by_cases e:b=a
 ·rw [e,z292] at h;cases h
 ·rw [del_ne e] at h;exact⟨e,h⟩
theorem z637 {P:Program}{w:World}{H:Hp}{h:Heap}{a:Addr}{φ:Heap→Prop}(ok:HOk P w H h) (ea:H a=some (.ext φ)):HOk P w (del H a) h:=fun b u e=>by
 obtain⟨ne,e⟩:=z592 e
 exact(ok b u e).stay (fun _ _ _ q=>q) (fun c q=>by rw [del_ne (fun z=>by rw [z,ea] at q;cases q)];exact q) fun c xs q=>by rw [del_ne (fun z=>by rw [z,ea] at q;cases q)];exact q
structure XD (X:Cx) (WX:WXT):Prop where
 raise:∀ (pins:List (Addr × Obj)) (σ:St) (H:Hp) (s:Shared) (e C dx:Addr) (fs:Array Value) (sl:Array (Option Value)),Inv X pins σ H s→H e=some (.ext (XObj e C (some dx) fs sl))→fs[1]?=some Value.none→fs[2]?=some Value.none→X.s₀.heap.get? e=none→
  WX σ (.ref C) (some dx) (del H e)→X.xe (.ref e) s
section
variable {P:Program}{w:World}{K:PySem.W.Frag}{mg:Str→Option Value}{base:Heap}{N:List Str}{qual:Str}{scope:Scope}{f:Addr}{cd:Value}{A:Around}{outer:List Env}{s₀:Shared}{H₀:Hp}{E:XK}
theorem xd_fn:XD (cxOf (CXE P w) P w K mg base N qual scope f cd A outer s₀ H₀ E) (fun _=>E) where
 raise:=fun pins σ H s e C dx fs sl I ea f1 f2 new hE=>by
  have hst:(cxOf (CXE P w) P w K mg base N qual scope f cd A outer s₀ H₀ E).stack=envOfC qual scope s₀.heap.objs.size f cd::outer:=rfl
  have stF:=I.stkFree
  have stS:=I.stack
  rw [hst] at stF stS
  have he:s.heap.get? e=some ⟨.ref C,some dx,.fields fs,sl⟩:=(show ObjOk P w H s.heap e (.ext (XObj e C (some dx) fs sl)) from I.hok e _ ea).1
  have nst:∀ b o,s₀.heap.get? b=some o→b ∉ frs outer→b ∉ e::frs (envOfC qual scope s₀.heap.objs.size f cd::outer):=fun b o q n z=>by
   rcases List.mem_cons.mp z with z | z
   ·rw [z,show s₀.heap.get? e=none from new] at q;cases q
   ·rcases List.mem_cons.mp (show b∈s₀.heap.objs.size::frs outer from z) with z | z
    ·exact absurd (Heap.lt_size q) (by rw [z];exact Nat.lt_irrefl _)
    ·exact n z
  have hn:(PySem.W.hideAll s.heap (e::frs (envOfC qual scope s₀.heap.objs.size f cd::outer))).get? e=none:=PySem.W.hideAll_none _ List.mem_cons_self
  have fr0:s.heap.FunFrames (PySem.W.hideAll s.heap (e::frs (envOfC qual scope s₀.heap.objs.size f cd::outer))) (envOfC qual scope s₀.heap.objs.size f cd::outer):=
   PySem.W.funFrames_hide stS fun env he a ha=>List.mem_cons_of_mem _ (List.mem_filterMap.mpr ⟨env,he,ha⟩)
  show wpAny (model P w) (A.deeper (envOfC qual scope s₀.heap.objs.size f cd)) (leaving (envOfC qual scope s₀.heap.objs.size f cd) (.ref e)) _ _ _
  refine z275 (s:=s) (B:=PySem.W.hideAll s.heap (e::frs (envOfC qual scope s₀.heap.objs.size f cd::outer))) (env:=envOfC qual scope s₀.heap.objs.size f cd) (outer:=outer) (L:=s₀.heap.objs.size) I.ok.frames rfl (fun b o q=>PySem.W.of_hideAll _ q) hn fr0 he f2 f1 fun h2 fl up=>?_
  refine⟨e,.ref C,some dx,del H e,_,rfl,I.os,I.bare,fl,z438 (z637 I.hok ea) (fun b hb=>?_),⟨fun b o q n nf=>PySem.W.hideAll_get _ (I.base.keep b o q n nf (fun z=>nomatch z)) (nst b o q nf),fun b o q n=>?_,fun b o q nf=>?_,fun b xs q=>?_,fun b o u q=>?_,fun b ps q=>?_⟩,fun b o hb q=>?_,hE⟩
  ·rcases List.mem_cons.mp hb with z | z
   ·rw [z];exact z292
   ·by_cases y:b=e
    ·rw [y];exact z292
    ·rw [del_ne y];exact stF b z
  ·by_cases y:b=e
   ·rw [y];exact z292
   ·rw [del_ne y];exact I.base.free b o q n (fun z=>nomatch z)
  ·obtain⟨o',q'⟩:=I.base.there b o q (fun z=>nomatch z)
   exact⟨o',PySem.W.hideAll_get _ q' (nst b o q nf)⟩
  ·have z:=I.base.tups b xs q
   rw [del_ne (ne_of z ea (fun y=>by cases y))]
   exact z
  ·have z:=I.base.frzs b o u q
   rw [del_ne (ne_of z ea (fun y=>by cases y))]
   exact z
  ·obtain⟨more,z⟩:=I.base.tbls b ps q
   exact⟨more,by rw [del_ne (ne_of z ea (fun y=>by cases y))];exact z⟩
  ·obtain⟨_,o',q',nf⟩:=I.ok.funs.mem hb
   obtain rfl:o=o':=Option.some.inj ((show s₀.heap.get? b=some o from q).symm.trans q')
   obtain⟨sl2,z⟩:=I.base.slot b o q (I.ok.frf b hb) hb (fun z=>nomatch z)
   exact up b { o with slots:=sl2 } z nf
end
section
open PySem.W
variable {M:Model}{A:Around}{E:Value→Shared→Prop}{s:Shared}{env:Env}
variable {nm q:Str}{C N:Addr}{bs bm:List Value}{hdct:Bool}{sn:List Str}{sub:List Value}{ab:Bool}{col:Option Bool}{dd:Option Addr}{k0 k1 k2 k3 k5:Option Value}{newId:String}
theorem z448 {x:Sem Value}{Q:Flow→Shared→Prop}(hb:bm.contains (.type "BaseException")=true) (hh:A.handled=none)
  (h:wpAny M A x (fun v s₁=>∃ e dx t,v=.ref e∧s₁.heap.get? C=some (excClassObj nm q C N bs bm hdct sn sub ab col dd k0 k1 k2 k3 k5 newId)∧s₁.heap.get? e=some ⟨.ref C,some dx,.fields #[.ref t,.none,.none,.none,.bool false,.none],#[]⟩∧E (.ref e) s₁) E s):
  wpAny M A (raiseStmt env (some x) none) Q E s:=by
 have cB:(Value.ref C::bm).contains (.type "BaseException")=true:=by rw [List.contains_cons,hb,Bool.or_true]
 unfold raiseStmt
 refine wpAny_bind (wpAny_mono h (fun v s₁ h₁=>?_) fun _ _ x=>x)
 obtain⟨e,dx,t,rfl,cC,ce,hE⟩:=h₁
 obtain⟨hp,g,d,tk,os⟩:=s₁
 repeat (first | with_reducible refine wpAny_loadPart_at ce ?_ | with_reducible refine wpAny_loadPart_at cC ?_ | (with_reducible refine wpAny_isSubtype_exc cC ?_;rw [cB]) | wp_step)
 exact wpAny_raiseNew_none hh hE
def exiIn (K:Frag) (C f:Addr):Bool:=match K.lookup C with
 | some ⟨.type "type",_,.cls cd,sl⟩=>(match cd.mro,sl.toList with
  | .ref C'::bm,[_,_,_,_,some (.builtin n),_]=>C' == C && n == "ValueError.__new__" && !cd.hasDel && tailIn K [.type "ValueError",.type "Exception",.type "BaseException",.type "object"] bm && nsOkIn K cd.ns && nsIn K cd.ns "__init__" == some (some (.ref f))
  | _,_=>false)
 | _=>false
end
section
open PySem.W
theorem z639 {K:Frag}{h:Heap}{N:Addr}{m:Str→Option Value}{n:Str}{v:Value}(X:K.In h) (G:h.Ns N m) (e:nsIn K N n=some (some v)):m n=some v:=by
 obtain⟨o,es,ep,ho,hd,_,hf⟩:=G
 unfold nsIn at e
 split at e
 ·rename_i c d es2 n2 sl lk
  have z:=X _ _ lk
  rw [ho] at z
  cases z
  cases hd
  split at e
  ·rename_i en hen
   cases e
   rw [← hf]
   unfold nsFind findBy
   rw [← Array.find?_toList,hen]
   rfl
  ·split at e <;> cases e
 ·cases e
variable {X:Cx}{WX:WXT}{k:Nat}{f C:Addr}{fd:FuncData}{ps:List Str}{sp:Sp}{dvs:List V}{ds:List Value}{x:Str}{pos:Pos}{e:Expr}{es:List Expr}{t:TA}
def z418 (WX:WXT) (C:Addr) (sp:Sp) (dvs:List V) (t:TA):TS:=fun D σ H=>t σ H fun vs H1=>vs.length≤sizeLine∧∀ a fs sl,H1 a=none→
 sp (.ref a::(vs++dvs)) (upd H1 a (.ext (XObj a C none fs sl))) (fun v H2=>v=.non∧∃ dx,H2 a=some (.ext (XObj a C (some dx) fs sl))∧WX σ (.ref C) (some dx) (del H2 a)) E0
theorem z528 {np cpos:Pos}(hx:XD X WX) (hc:X.calm=true) (hg:Gl X x) (hm:X.mg x=some (.ref C)) (er:exiIn X.K C f=true) (hfn:isFn X.K (.ref f)=true) (F:FnOk X.prog X.w X.K X.mg X.base (CXE X.prog X.w) k f fd ps sp) (hr:Room (k + 1) X.A) (hb:Binds X.K fd ps ds) (hd:Vals dvs ds) (ha:PA X (e::es) t)
  (hdb:(x == ("__debug__":Str))=false:=by decide) (he:starEach (e::es) X.env=(false,eval e X.env)::starEach es X.env:=by rfl) (hpl:(backTo cpos (starEach es X.env)).any (·.1)=false:=by rfl):
  PS X (.Raise (some (.Call (.Name x np) (e::es) [] cpos)) none pos) (z418 WX C sp dvs t):=by
 intro pins s σ H D I h
 have q:=er
 unfold exiIn at q
 split at q
 ·rename_i dd cd sl ho
  split at q
  ·rename_i C' bm k0 k1 k2 k3 n k5 hm' hs
   simp only [Bool.and_eq_true,beq_iff_eq,Bool.not_eq_true'] at q
   obtain⟨⟨⟨⟨⟨rfl,rfl⟩,hdel⟩,ht⟩,hok⟩,hni⟩:=q
   obtain⟨nm,bs,mro,ns,qn,hdc,sn,sub,ab,col,del⟩:=cd
   dsimp only at hm' hdel hok hni
   subst hm' hdel
   obtain rfl:sl=#[k0,k1,k2,k3,some (.builtin "ValueError.__new__"),k5]:=by
    obtain⟨l⟩:=sl
    simp only at hs
    rw [hs]
   have T:=tail_of_in I.ok.mod.kin ht
   have pl:(backTo cpos (starEach (e::es) X.env)).any (·.1)=false:=by rw [he];show (false || (backTo cpos (starEach es X.env)).any (·.1))=false;rw [hpl];rfl
   rw [arm_exec_Raise]
   refine wpAny_bind (wpAny_standAt (z448 (C:=C') (nm:=nm) (q:=qn) (N:=ns) (bs:=bs) (bm:=bm) (hdct:=hdc) (sn:=sn) (sub:=sub) (ab:=ab) (col:=col) (dd:=dd) (k0:=k0) (k1:=k1) (k2:=k2) (k3:=k3) (k5:=k5) (newId:="ValueError.__new__") (T.hasType PySem.F.excBase_ValueError.hasBase) (I.ok.hd hc) ?_))
   refine wpAny_bind (wpAny_mono (wpAny_Call_ofName (ld_glob I hg hm ?_ hdb)) (fun v s₃ h₃=>wpAny_bind (wpAny_standAt (wpAny_pure h₃))) fun _ _ x=>x)
   have hp:=ha cpos pins s σ H _ I h
   rw [he] at hp
   unfold callWith
   simp only [pl]
   rw [he]
   refine wpAny_bind (wpAny_holding (Calls.evalArgs_plain (wpAny_mono hp (fun us s1 z=>wpAny_bind (wpAny_standAt ?_)) fun _ _ z=>z)))
   obtain⟨vs,H1,I1,rv,hz,hw⟩:=z
   have cC:s1.heap.get? C'=_:=I1.kIn _ _ ho
   have hn:s1.heap.Ns ns (X.base.nsMap ns):=(Heap.Ns.of_isNs (isNs_of_in I.ok.mod.kin hok)).keeps I1.bk
   obtain⟨hp1,g1,d1,t1,os1⟩:=s1
   refine wpAny_bind (wpAny_keeperOf_exc cC ?_)
   obtain⟨oI,lI,cI⟩:∃ oI,X.K.lookup f=some oI∧oI.cls=.type "function":=Option.map_eq_some_iff.mp (beq_iff_eq.mp hfn)
   refine wpAny_bind (m:=call (.ref C') us) (z479 PySem.F.excBase_ValueError (T.keeps I1.bk) cC hn (z639 I.ok.mod.kin (Heap.Ns.of_isNs (isNs_of_in I.ok.mod.kin hok)) hni) (I1.kIn _ _ lI) cI (by rw [← rv.length];exact hz) fun h' ea hle mk=>?_)
   obtain⟨tt,hee,_,_⟩:=mk.there
   have hna:H1 ea=none:=I1.hok.fresh hle
   have I2:Inv X pins σ (upd H1 ea (.ext (XObj ea C' none #[.ref tt,.none,.none,.none,.bool false,.none] #[]))) ⟨h',g1,d1,t1,os1⟩:=I1.laid (t':=t1) (fun b u e=>mk.keeps b u e) hle (z557 hee)
   have hq:=hw ea #[.ref tt,.none,.none,.none,.bool false,.none] #[] hna
   have r2:Vals (V.ref ea::(vs++dvs)) (Value.ref ea::(us++ds)):=.cons rfl (rv.append hd)
   have hl:(Value.ref ea::us++ds).length=ps.length:=by
    have e:=r2.length
    rw [F.len _ _ _ _ hq] at e
    exact e.symm
   refine wpAny_call (codeAny_mono (F.run _ X.stack _ _ ⟨Value.ref ea::us,[]⟩ (Value.ref ea::(us++ds)) _ _ E0 (hr.make C' us []) (I2.env0.make C' us []) (hb _ (Value.ref ea::us) I2.kIn hl) r2 hq) fun r s' hq'=>?_)
   cases r with
   | error e=>
    obtain⟨_,_,_,_,_,_,_,_,_,_,_,_,z⟩:=hq'
    exact z.elim
   | ok fl=>cases fl with
    | ret u=>
     obtain⟨v,H',I3,rv3,ev,dx,hxe,hwx⟩:=I2.after hq'
     subst ev
     refine⟨rv3,wpAny_bind (wpAny_holding (wpAny_point (wpAny_pure ⟨ea,dx,tt,rfl,I3.kIn _ _ ho,(show ObjOk X.prog X.w H' s'.heap ea _ from I3.hok ea _ hxe).1,?_⟩)))⟩
     exact hx.raise pins σ H' s' ea C' dx _ _ I3 hxe rfl rfl (Heap.get?_none_of_le (Nat.le_trans I1.sz hle)) hwx
    | next=>exact hq'.elim
    | brk=>exact hq'.elim
    | cont=>exact hq'.elim
  ·cases q
 ·cases q
end
section
open PySem.W
variable {X:Cx}{ea C d:Addr}{ob:Obj}
theorem exc_value {prog:Program}{w:World}{A:Around}{E:Value→Shared→Prop}{s:Shared}{K:PySem.W.Frag}{x D:Addr}{ox:Obj}{od:Option Obj}{name:Str}{v:Value}{expr:Bool}{Q:Value→Shared→Prop}(X:K.In s.heap) (I:PySem.W.InstAt s.heap x ox D od) (er:ErrA K D) (hf:PySem.W.findObj K D od name=some (.value v)) (hh:PySem.W.handedIn v=true) (h:Q v { s with toks:=s.toks + 1 }):wpAny (model prog w) A (getAttr (.ref x) name expr) Q E s:=by
 have L0:=I.type (M:=model prog w)
 have L1:=PySem.W.looks_find (M:=model prog w) X I hf
 unfold getAttr
 refine wpAny_bind (wpAny_mkText (z580 (s:={ s with toks:=s.toks + 1 }) X I er ?_))
 refine wpAny_bind (wpAny_pure (wpAny_bind (wpAny_pure (wpAny_bind (L0.here (s:={ s with toks:=s.toks + 1 }) (wpAny_bind (L1.here (s:={ s with toks:=s.toks + 1 }) ?_)))))))
 refine wpAny_pure ?_
 show wpAny _ _ (handedOut v) _ _ _
 rw [PySem.W.handedOut_of hh]
 exact wpAny_pure h
def tXGet (K:PySem.W.Frag) (ea C d:Addr) (te:TE) (f:Str):TE:=fun σ H Q=>te σ H fun x H1=>∃ fs v,x=.ref ea∧H1 d=some (.xd fs)∧fs.lookup f=some v∧ErrA K C∧PySem.W.hasDictIn K C=true∧PySem.W.findIn K (.ref C) f=some none∧Q v H1
theorem z645 {e:Expr}{f:Str}{te:TE}{pos:Pos}(mk:Mkd X ea ob) (mo:MkO C (some d) ob) (he:PE X e te) (hb:attributeBase e f X.env (eval e X.env)=eval e X.env):PE X (.Attribute e f pos) (tXGet X.K ea C d te f):=by
 intro pins s σ H Q I h
 refine attr_of hb (thn (he pins s σ H _ I h) fun u s1 ⟨x,H1,I1,rx,fs,v,ex,hd,l,hg,hh,hf,q⟩=>?_)
 subst ex
 cases (show u=Value.ref ea from rx)
 obtain⟨p1,_⟩:=I1.pin _ (List.mem_append_left _ mk.pin)
 obtain⟨vs,sl,rfl,_⟩:=mo.ex
 obtain⟨mA,n1,r⟩:=(show ObjOk X.prog X.w H1 s1.heap d (.xd fs) from I1.hok d _ hd)
 obtain⟨od,ho,hl⟩:=lookIn_ns n1
 obtain⟨w,hw,rw'⟩:=RelO.some_of (v:=v) (o:=mA f) (by rw [← l];exact r f)
 exact exc_value I1.kIn ⟨p1,rfl,rfl,ho⟩ hg (PySem.W.findObj_own hh hf rfl (by rw [hl,hw])) (handed_of rw') ⟨v,H1,I1.tok _,rw',q⟩
def tXGetO (K:PySem.W.Frag) (ea C:Addr) (dx:Option Addr) (te:TE) (f:Str):TE:=fun σ H Q=>∃ d,dx=some d∧tXGet K ea C d te f σ H Q
theorem z574 {dx:Option Addr}{e:Expr}{f:Str}{te:TE}{pos:Pos}(mk:Mkd X ea ob) (mo:MkO C dx ob) (he:PE X e te) (hb:attributeBase e f X.env (eval e X.env)=eval e X.env):PE X (.Attribute e f pos) (tXGetO X.K ea C dx te f):=by
 intro pins s σ H Q I h
 obtain⟨d,rfl,h⟩:=h
 exact z645 mk mo he hb pins s σ H Q I h
end
end L2
set_option Elab.async false
set_option linter.all false
set_option maxRecDepth 100000
namespace L2
open PySem PySem.Spec PyProof.Rows
theorem z616 (its:List Value):slicePick its.toArray none none (some 1)=its.toArray:=by
 have e:slicePick its.toArray none none (some 1)=slicePick its.toArray none none none:=rfl
 rw [e,slicePick_cut]
 simp [HT.sIx]
def tStepL (K:PySem.W.Frag) (te ti:TE):TE:=fun σ H Q=>te σ H fun x H1=>ti σ H1 fun y H2=>∃ (a:Addr) (xs:List V) (up:Bool),x=.ref a∧y=.int (if up then 1 else -1)∧SqL K H2 a xs∧∀ p,H2 p=none→Q (.ref p) (upd H2 p (.lst (if up then xs else xs.reverse)))
theorem z612 {X:Cx}{pos:Pos}{e i:Expr}{te ti:TE}{p2:Pos}(he:PE X e te) (hi:PE X i ti):PE X (.Subscript e (.Slice none none (some i) p2) pos) (tStepL X.K te ti):=by
 intro pins s σ H Q I h
 refine Subscript_ (thn (he pins s σ H _ I h) fun v s1 ⟨x,H1,I1,r1,q1⟩=>?_)
 refine wpAny_Slice ?_
 rw [evalPart_none]
 refine wpAny_pure (wpAny_pure ?_)
 rw [evalPart_some]
 refine thn (hi pins s1 σ H1 _ I1 q1) fun vs s2 ⟨y,H2,I2,r2,a,xs,up,ex,ey,hx,q⟩=>?_
 subst ex ey
 cases r1
 obtain⟨tk,rfl⟩:=r2
 have I4:Inv X pins σ H2 { s2 with heap:=s2.heap.push { cls:=.type "slice",data:=.fields #[.none,.none,.int (if up then 1 else -1) tk] } }:=I2.kept (t':=s2.toks) fun b ob q=>Heap.get?_push_of_some _ q
 obtain⟨its,r,ht,hz⟩:=I4.list hx
 have hlen:its.toArray.size=xs.length:=by rw [List.size_toArray];exact r.length.symm
 refine tail_any (T:="list") (ops:=[.ref a,.ref s2.heap.objs.size]) ht.isList.typeIs slot_list_getitem.lookup ?_ (by with_unfolding_all rfl)
 refine wpAny_getItem_list_slice ht.isList (Heap.IsSliceOf.new ..) .none .none (.int (if up then 1 else -1) tk) (by cases up <;> simp) ?_ (by rw [hlen];exact hz)
 cases up with
 | true=>
  rw [show (if true=true then(1:Int) else -1)=1 from rfl,z616]
  refine⟨.ref _,_,I4.laid (t':=s2.toks) (o:=.lst xs) (fun b ob q=>Heap.get?_push_of_some _ q) (Nat.le_refl _) ?_,rfl,q _ (I4.hok.fresh (Nat.le_refl _))⟩
  exact⟨hz,its,0,r,Heap.get?_push_size _ rfl⟩
 | false=>
  rw [show (if false=true then(1:Int) else -1)=-1 from rfl,z517]
  refine⟨.ref _,_,I4.laid (t':=s2.toks) (o:=.lst xs.reverse) (fun b ob q=>Heap.get?_push_of_some _ q) (Nat.le_refl _) ?_,rfl,q _ (I4.hok.fresh (Nat.le_refl _))⟩
  exact⟨by rw [List.length_reverse];exact hz,its.reverse,0,r.reverse,Heap.get?_push_size _ rfl⟩
end L2
set_option Elab.async false
set_option linter.all false
set_option maxRecDepth 100000
namespace L2
open PySem PySem.Spec PyProof.Rows
open AutoSeq1 (wpAny_loadPart')
section
variable {prog:Program}{w:World}{A:Around}{E:Value→Shared→Prop}{s:Shared}
end
def HdAt (A:Around) (g:Addr) (h:Heap):Prop:=A.handled=none∨∃ (C:Addr) (dx:Option Addr) (vs:Array Value) (sl:Array (Option Value)),A.handled=some (.ref g)∧h.get? g=some ⟨.ref C,dx,.fields vs,sl⟩∧vs[2]?=some Value.none
theorem HdAt.hd {A:Around}{g:Addr}{h:Heap}(x:HdAt A g h):Hd A h:=by
 rcases x with x | ⟨C,dx,vs,sl,r⟩
 ·exact .inl x
 ·exact .inr ⟨g,C,dx,vs,sl,r⟩
theorem Hd.at {A:Around}{h:Heap}(x:Hd A h) (it:Addr):∃ g,HdAt A g h∧(g=it∨∃ (C:Addr) (o:Obj),h.get? g=some o∧o.cls=.ref C):=by
 rcases x with x | ⟨g,C,dx,vs,sl,r⟩
 ·exact⟨it,.inl x,.inl rfl⟩
 ·exact⟨g,.inr ⟨C,dx,vs,sl,r⟩,.inr ⟨C,_,r.2.1,rfl⟩⟩
section
variable {prog:Program}{w:World}{A:Around}{R:Result→Shared→Prop}{I:Addr}{fp wr:List Addr}{n:Nat}{P:Nat→Value→Prop}{St:Nat→Heap→Prop}{d:Value}
theorem z535 (W:Walks prog w A.in1 I fp wr n P St) (bt:Nat→Nat→Bool) (hcmp:CmpOf prog w A.in1 .Gt P bt) (S:Addr) (hSf:S ∉ fp):
  ∀ (k j:Nat) (s:Shared) (vb:Value) (c:Nat),n - (j + 1)=k→j + 1≤n→St (j + 1) s.heap→P (argBest bt j) vb→s.heap.get? S=some { cls:=.type "list",dict:=none,data:=.seq #[vb,vb] c,slots:=#[] }→
  (∀ v h' tk,P (argBest bt (n - 1)) v→(∀ b o,b ∉ wr→b≠S→s.heap.get? b=some o→h'.get? b=some o)→R (.ok (.ret v)) { s with heap:=h',toks:=tk })→
  codeAny (model prog w) A (.builtin "max.loop" ⟨[.ref I,.none,.ref S],[("default",d)]⟩) R s:=by
 have hSw:S ∉ wr:=fun h=>hSf (W.sub _ h)
 have hnm:(toString "max"++toString ".loop":String)="max.loop":=by decide
 intro k
 induction k with
 | zero=>
  intro j s vb c hk hj hst hPb hS hR
  have hin:j + 1=n:=by omega
  refine codeAny_builtin F.entry_max_loop ?_
  rw [Around.under_plainId F.plain_max_loop _]
  refine wpAny_bind (m:=seqItems? (.ref S)) (wpAny_seqItems hS rfl ?_)
  refine wpAny_bind (m:=tryCatch (pyNext (.ref I)) _) (wpAny_tryCatch (W.done s _ _ (hin ▸ hst) fun h' tk hk'=>?_))
  exact wpAny_bind (m:=updateSeq S (fun _=>#[])) (wpAny_updateSeq (hk' S _ hSw hS) rfl (wpAny_bind (wpAny_letGo (wpAny_pure (hR vb _ tk (by rw [← hin];exact hPb) fun b o hbw hbS e=>(Heap.get?_update_other _ _ (Ne.symm hbS)).trans (hk' b o hbw e))))))
 | succ k ih=>
  intro j s vb c hk hj hst hPb hS hR
  have hlt:j + 1 < n:=by omega
  refine codeAny_builtin F.entry_max_loop ?_
  rw [Around.under_plainId F.plain_max_loop _]
  refine wpAny_bind (m:=seqItems? (.ref S)) (wpAny_seqItems hS rfl ?_)
  refine wpAny_bind (m:=tryCatch (pyNext (.ref I)) _) (wpAny_tryCatch (W.item (j + 1) s _ _ hlt hst fun v h' tk hP hst' hk'=>?_))
  have hS':=hk' S _ hSw hS
  show wpAny _ A.in1 (tryCatch (holding [v,v] (richCompare .Gt v vb >>= _)) _ >>= _) _ _ _
  refine wpAny_bind (wpAny_tryCatch (wpAny_holding (wpAny_bind (hcmp (j + 1) (argBest bt j) v vb _ _ _ hP hPb ?_))))
  refine wpAny_bind (wpAny_holding (wpAny_truthy_bool (wpAny_bind (wpAny_letGo (wpAny_pure ?_)))))
  cases hb:bt (j + 1) (argBest bt j) with
  | true=>
   simp only [if_true]
   refine wpAny_bind (wpAny_updateSeq hS' rfl (wpAny_bind (wpAny_letGo ?_)))
   rw [hnm]
   refine wpAny_pure ⟨plainId_quiet F.plain_max_loop _,ih (j + 1) _ v _ (by omega) hlt (W.frame _ _ _ hst' fun b hbf o e=>(Heap.get?_update_other _ _ (fun h:S=b=>hSf (by rw [h];exact hbf))).trans e) (by simp only [argBest,hb,if_true];exact hP) (Heap.get?_update_self _ hS' rfl) fun v' h'' tk'' hP' hk''=>?_⟩
   exact hR v' h'' tk'' hP' fun b o hbw hbS e=>hk'' b o hbw hbS ((Heap.get?_update_other _ _ (Ne.symm hbS)).trans (hk' b o hbw e))
  | false=>
   simp only [Bool.false_eq_true,if_false]
   refine wpAny_bind (wpAny_letGo ?_)
   rw [hnm]
   exact wpAny_pure ⟨plainId_quiet F.plain_max_loop _,ih (j + 1) _ vb c (by omega) hlt hst' (by simp only [argBest,hb,Bool.false_eq_true,if_false];exact hPb) hS' fun v' h'' tk'' hP' hk''=>hR v' h'' tk'' hP' fun b o hbw hbS e=>hk'' b o hbw hbS (hk' b o hbw e)⟩
theorem z428 (W:Walks prog w A.in1 I fp wr n P St) (bt:Nat→Nat→Bool) (hcmp:CmpOf prog w A.in1 .Gt P bt) (S:Addr) (hSf:S ∉ fp){s:Shared}{c:Nat}(hst:St 0 s.heap) (hS:s.heap.get? S=some { cls:=.type "list",dict:=none,data:=.seq #[] c,slots:=#[] })
  (hR:∀ v h' tk,((n=0∧v=d)∨(0 < n∧P (argBest bt (n - 1)) v))→(∀ b o,b ∉ wr→b≠S→s.heap.get? b=some o→h'.get? b=some o)→R (.ok (.ret v)) { s with heap:=h',toks:=tk }):
  codeAny (model prog w) A (.builtin "max.loop" ⟨[.ref I,.none,.ref S],[("default",d)]⟩) R s:=by
 have hSw:S ∉ wr:=fun h=>hSf (W.sub _ h)
 have hnm:(toString "max"++toString ".loop":String)="max.loop":=by decide
 refine codeAny_builtin F.entry_max_loop ?_
 rw [Around.under_plainId F.plain_max_loop _]
 refine wpAny_bind (m:=seqItems? (.ref S)) (wpAny_seqItems hS rfl ?_)
 rcases Nat.eq_zero_or_pos n with hn | hn
 ·refine wpAny_bind (m:=tryCatch (pyNext (.ref I)) _) (wpAny_tryCatch (W.done s _ _ (hn ▸ hst) fun h' tk hk'=>?_))
  exact wpAny_bind (wpAny_rule (wpAny_pure (hR d h' tk (.inl ⟨hn,rfl⟩) fun b o hbw hbS e=>hk' b o hbw e)))
 ·refine wpAny_bind (m:=tryCatch (pyNext (.ref I)) _) (wpAny_tryCatch (W.item 0 s _ _ hn hst fun v h' tk hP hst' hk'=>?_))
  have hS':=hk' S _ hSw hS
  refine wpAny_bind (m:=updateSeq S (fun _=>#[v,v])) (wpAny_updateSeq hS' rfl ?_)
  rw [hnm]
  refine wpAny_pure ⟨plainId_quiet F.plain_max_loop _,z535 W bt hcmp S hSf _ 0 _ v _ rfl hn (W.frame _ _ _ hst' fun b hbf o e=>(Heap.get?_update_other _ _ (fun h:S=b=>hSf (by rw [h];exact hbf))).trans e) hP (Heap.get?_update_self _ hS' rfl) fun v' h'' tk'' hP' hk''=>?_⟩
  exact hR v' h'' tk'' (.inr ⟨hn,hP'⟩) fun b o hbw hbS e=>hk'' b o hbw hbS ((Heap.get?_update_other _ _ (Ne.symm hbS)).trans (hk' b o hbw e))
end
section
variable {prog:Program}{w:World}{A:Around}{E:Value→Shared→Prop}{s:Shared}
theorem z564 {id:String}{b:Builtin}{args:List Value}{kw:List (Str × Value)}{Q:Value→Shared→Prop}(hk:builtinKind id=none) (hp:plainId id=true) (hb:entryFor table id=some b) (ha:argsOk id ⟨args,kw⟩)
  (hc:wpAny (model prog w) A.in1 (b ⟨args,kw⟩) (fun fin s'=>match fin with
   | .done f=>(match (Except.ok f:Result) with | .ok (.ret v)=>Q v s' | .ok _=>False | .error e=>E e s')
   | .again c'=>c'.quiet=true∧codeAny (model prog w) A c' (fun r s'=>match r with | .ok (.ret v)=>Q v s' | .ok _=>False | .error e=>E e s') s') E s):wpAny (model prog w) A (call (.builtin id) args kw) Q E s:=by
 refine wpAny_call (codeAny_call_builtin hp hb ?_)
 simp only [checkBuiltinCall,hk]
 cases hsig:Manifest.signature? id with
 | none=>exact wpAny_pure hc
 | some sig=>
  have h2:Bind.checkArgs id sig ⟨args,kw⟩=pure ():=by simpa only [argsOk,hsig] using ha
  simp only [h2]
  exact wpAny_pure hc
theorem z523 (a d:Value):argsOk "max" ⟨[a],[("default",d)]⟩:=by unfold argsOk;kernel_rfl
theorem z541 {l:Addr}{xs:Array (Int × Tok)}{d:Value}{Q:Value→Shared→Prop}(hh:A.handled=none) (hl:s.heap.IsList l (intItems xs))
  (h:∀ v h' tk,((xs.size=0∧v=d)∨(0 < xs.size∧(intItems xs)[argBest (fun i j=>decide (numAt xs i > numAt xs j)) (xs.size - 1)]?=some v))→(∀ b o,s.heap.get? b=some o→h'.get? b=some o)→Q v { s with heap:=h',toks:=tk }):
  wpAny (model prog w) A (call (.builtin "max") [.ref l] [("default",d)]) Q E s:=by
 have hnm:(toString "max"++toString ".loop":String)="max.loop":=by decide
 refine z564 F.kind_max F.plain_max F.entry_max (z523 _ _) ?_
 refine wpAny_bind (m:=Builtin.Builtins.bindParams "max" ["key","default"] 0 ⟨[],[("default",d)]⟩) (wpAny_of_eq (show Builtin.Builtins.bindParams "max" ["key","default"] 0 ⟨[],[("default",d)]⟩=pure [none,some d] from rfl) ?_)
 refine wpAny_bind (wpAny_pure ?_)
 refine wpAny_bind (iter_intList hl fun s₂ e st hfp hlI=>?_)
 subst e
 refine wpAny_bind (wpAny_newObj_type ?_)
 have W:=Walks.list (prog:=prog) (w:=w) (A:=A.in1) hh _ l hlI (intItems xs)
 rw [hnm]
 refine wpAny_pure ⟨plainId_quiet F.plain_max_loop _,z428 W _ (CmpOf.ints_gt (numAt xs) (fun _ _=>intItems_at)) _ (fun hm=>Nat.lt_irrefl _ (hfp _ hm)) (W.frame _ _ _ st fun b _ o e=>Heap.get?_push_of_some _ e) (Heap.get?_push_size _ rfl) fun v h' tk hP hk=>?_⟩
 refine h v h' tk (by simpa [intItems] using hP) (old_kept (l:=l) fun b o hbw e=>?_)
 exact hk b o hbw (Nat.ne_of_lt (Heap.lt_size e)) (Heap.get?_push_of_some _ e)
end
def MaxD (ns:List Int) (z m:Int):Prop:=(ns=[]∧m=z)∨(m∈ns∧∀ a∈ns,a≤m)
def tMaxD (K:PySem.W.Frag) (t:TA) (td:TE):TE:=fun σ H Q=>t σ H fun vs H1=>tCons td tNil σ H1 fun zs H2=>∃ p ns d,vs=[.ref p]∧zs=[.int d]∧SqL K H2 p (ns.map V.int)∧∀ m,MaxD ns d m→Q (.int m) H2
theorem z622 {X:Cx}{e d:Expr}{p pos kp:Pos}{t:TA}{td:TE}(hc:X.calm=true) (hg:Gl X "max") (hm:X.mg "max"=none) (ha:PA X [e] t) (hd:PE X d td) (hs:starEach [e] X.env=[(false,eval e X.env)]:=by rfl):
  PE X (.Call (.Name "max" p) [e] [⟨some "default",d,kp⟩] pos) (tMaxD X.K t td):=by
 intro pins s σ H Q I h
 refine wpAny_Call_Name_kw (ld_blt I hg hm PyProof.Rows.Boot.«max» ?_)
 refine PyProof.Rows.callWith_kw (thn (ha pos pins s σ H _ I h) fun us s1 ⟨vs,H1,I1,r1,q1⟩=>?_) (by rw [hs];rfl) (by rw [hs];rfl)
 have hk:=pk_cons (nm:=some "default") (kpos:=kp) hd (pk_nil (X:=X))
 refine thn (hk pos pins s1 σ H1 _ I1 q1) fun ws s2 ⟨zs,H2,I2,r2,p,ns,d,e1,e2,hq,q⟩=>?_
 subst e1 e2
 obtain⟨u,rfl,rx⟩:=vals1 r1
 cases rx
 obtain⟨dv,rfl,ry⟩:=vals1 r2
 obtain⟨tk,rfl⟩:=ry
 obtain⟨its,r',pl,hz⟩:=I2.list hq
 obtain⟨ps,rfl,rfl⟩:=ints_of r'
 have hl:s2.heap.IsList p (intItems ps.toArray):=by
  have:=pl.isList
  simpa [intItems] using this
 refine z541 (I2.ok.hd hc) hl fun v h' tk' hv hk'=>?_
 rcases hv with ⟨h0,rfl⟩ | ⟨h0,hv⟩
 ·have e0:ps=[]:=by cases ps with
   | nil=>rfl
   | cons a b=>simp at h0
  exact⟨.int d,H2,I2.kept (t':=tk') hk',⟨tk,rfl⟩,q d (.inl ⟨by rw [e0];rfl,rfl⟩)⟩
 ·obtain⟨t,rfl⟩:=intItems_at hv
  obtain⟨h1,h2⟩:=argBest_gt (numAt ps.toArray) (ps.toArray.size - 1)
  have lt:∀ {i:Nat},i≤ps.toArray.size - 1→i < (ps.map (·.1)).length:=fun{i} h=>by rw [List.length_map];simp only [List.size_toArray] at h h0;omega
  refine⟨.int _,H2,I2.kept (t':=tk') hk',⟨t,rfl⟩,q _ (.inr ⟨?_,fun a ha=>?_⟩)⟩
  ·rw [z163]
   exact getD_mem (lt h1)
  ·obtain⟨j,hj,rfl⟩:=mem_getD ha
   rw [← z163]
   exact h2 j (by rw [List.length_map] at hj;simp only [List.size_toArray];omega)
section
variable {prog:Program}{w:World}{A:Around}{E:Value→Shared→Prop}{s:Shared}
theorem z602 {it d:Addr}{i ep:Nat}{od:Obj}{es:Array DictEntry}{Q:Option Value→Shared→Prop}(hh:Hd A s.heap) (hit:s.heap.IsValIter it d i es.size ep) (hod:s.heap.get? d=some od) (hdd:od.data=.dict es ep) (hge:es.size≤i)
  (hQ:∀ h',Heap.ExtBut it s.heap h'→Q none { s with heap:=h' }):wpAny (model prog w) A (pyNext (.ref it)) Q E s:=by
 obtain⟨o,ho,hc,hd⟩:=id hit
 unfold pyNext
 refine wpAny_bind (wpAny_attempt (wpAny_callSpecial?_slot (name:=Str.ofString "__next__") hit.typeIs F.slot_dict_valueiterator_next (wpAny_call_entry F.slot_dict_valueiterator_next hit.typeIs F.entry_dict_valueiterator_next ?_ (F.args_dict_valueiterator_next_1 _))))
 refine wpAny_bind (wpAny_pure (wpAny_bind (wpAny_bind ?_)))
 first | refine wpAny_bind (wpAny_typeNameOfWhole_valiter hit.typeIs (wpAny_pure (wpAny_bind (wpAny_fieldsOf ho hd ?_)))) | refine wpAny_bind (wpAny_typeNameOf_valiter hit.typeIs (wpAny_pure (wpAny_bind (wpAny_fieldsOf ho hd ?_))))
 simp only [show Builtin.Dict_items.ownsTuple "dict_valueiterator"=false from by decide,Bool.false_eq_true,if_false]
 show wpAny _ _ (if (Value.ref d == Value.none)=true then _ else _) _ _ s
 rw [if_neg (fun z:(Value.ref d == Value.none)=true=>nomatch z)]
 refine wpAny_bind (wpAny_pure (wpAny_bind (wpAny_dictEntries hod hdd ?_)))
 rw [if_neg (by simp)]
 refine wpAny_bind (wpAny_pure (wpAny_bind (wpAny_dictEpoch hod hdd ?_)))
 rw [if_neg (by simp)]
 refine wpAny_pure ?_
 simp only [show ¬ ((i:Int) < 0) from by omega,if_false,Int.toNat_natCast,Array.getElem?_eq_none hge]
 refine wpAny_bind ?_
 first | refine wpAny_bind (wpAny_typeNameOfWhole_valiter hit.typeIs (wpAny_pure ?_)) | refine wpAny_bind (wpAny_typeNameOf_valiter hit.typeIs (wpAny_pure ?_))
 refine wpAny_bind (m:=setField (.ref it) 0 .none) (wpAny_setField ho hd (by simp) ?_)
 refine z125 (hh.update (A:=A) ho hc _) fun h' e k1 k2=>z128 k2 (hQ h' fun b o hb z=>k1 b o ?_)
 rw [Heap.get?_update_other _ _ (Ne.symm hb)]
 exact z
end
def Itv (a:Addr) (o:Obj) (kvs:List (Key × V)):It:=
 ⟨fun i H=>H a=some (.frz o (.dK kvs))∧i < kvs.length,fun i H x H'=>H'=H∧∃ k,kvs[i]?=some (k,x),fun i H=>H a=some (.frz o (.dK kvs))∧kvs.length≤i⟩
theorem z503 {P:Program}{w:World}{K:PySem.W.Frag}{tg:Expr}(a it:Addr) (o:Obj) (kvs:List (Key × V)) (es:Array DictEntry) (ep:Nat) (hdd:o.data=.dict es ep):Turn P w K tg (Itv a o kvs) [it] it (fun i h=>h.IsValIter it a i es.size ep) where
 mem:=by simp
 obj:=fun i h st b hb=>by
  have e:b=it:=by simpa using hb
  subst e
  obtain⟨o,e,c,d⟩:=st
  exact⟨o,e,fun v z=>by rw [d] at z;cases z⟩
 keep:=fun i h h' st k=>let ⟨o,ho,r⟩:=st;⟨o,k it (by simp) o ho,r⟩
 item:=by
  intro X hP hw hK hc i pins s σ H E I hf st hg
  subst hP hw hK
  obtain⟨hq,hx⟩:=hg
  obtain⟨hod,z,hd,vs,rel,o',es',ep',ho',he1,he2,he3,he4,he5⟩:=(show ObjOk X.prog X.w H s.heap a (.frz o (.dK kvs)) from I.hok a _ hq)
  rw [hod] at ho'
  cases ho'
  rw [hdd] at he2
  cases he2
  obtain⟨kv,hkv⟩:∃ kv,kvs[i]?=some kv:=⟨_,List.getElem?_eq_getElem hx⟩
  obtain⟨q,hq1,q1,q2⟩:=Paired.at1 rel hkv
  have hsz:es.size=vs.length:=by have:=he4.length;simpa using this
  have st:s.heap.IsValIter it a i vs.length ep:=hsz ▸ st
  obtain⟨f0,f1,f2,f3,f4,f5⟩:=hf it (by simp)
  refine wpAny_pyNext_values_item (knd:=mixKind X.prog X.w) st (⟨o,es,hod,he1,hdd,he3,he4,he5⟩:s.heap.DictAt (mixKind X.prog X.w) a vs ep) (k:=q.1) (v:=q.2) hq1 fun h' st' sb=>?_
  have I1:Inv X pins σ H { s with heap:=h' }:=I.turned (t':=s.toks) (fun b o hb e=>(sb.2 b hb).trans e) f0 f1 f3 f4 f5
  obtain⟨o2,e,c,d⟩:=id st'
  exact⟨_,rfl,go_of (s:={ s with heap:=h' }) e c d (by decide) ⟨kv.2,H,I1,q2,⟨rfl,kv.1,hkv⟩,hsz.symm ▸ st',fun b hb=>(hf b hb).1⟩⟩
 done:=by
  intro X hP hw hK hc i pins s σ H E I hf st hg
  subst hP hw hK
  obtain⟨hq,hx⟩:=hg
  obtain⟨hod,z,hd,vs,rel,o',es',ep',ho',he1,he2,he3,he4,he5⟩:=(show ObjOk X.prog X.w H s.heap a (.frz o (.dK kvs)) from I.hok a _ hq)
  rw [hod] at ho'
  cases ho'
  rw [hdd] at he2
  cases he2
  have hsz:=he4.length
  have hl:=Paired.length rel
  obtain⟨f0,f1,f2,f3,f4,f5⟩:=hf it (by simp)
  exact z602 (I.calm hc) st hod hdd (by simp only [Array.length_toList] at hsz;omega) fun h' eb=>⟨rfl,I.turned (t':=s.toks) (fun b o hb e=>eb b o hb e) f0 f1 f3 f4 f5⟩
 self:=fun _ _ _ _ _ st h=>wpAny_pyIter_valiter st h
def iVals (te:TE):TI:=fun σ H R=>te σ H fun x H1=>∃ a kvs,x=.ref a∧H1 a=some (.dK kvs)∧∀ o,R (Itv a o kvs) (upd H1 a (.frz o (.dK kvs)))
theorem z559 {X:Cx}{tg l:Expr}{tl:TE}{apos cpos:Pos}(hl:PE X l tl) (hbase:attributeBase l "values" X.env (eval l X.env)=eval l X.env:=by rfl) (hline:(apos.endLine == cpos.line)=true:=by rfl):PI X tg (.Call (.Attribute l "values" apos) [] [] cpos) (iVals tl):=by
 intro pins s σ H R I h
 refine wpAny_Call_method0_late hbase hline (thn (hl pins s σ H _ I h) fun v s1 ⟨x,H1,I1,r1,q1⟩=>?_)
 obtain⟨a,kvs,e,hq,q⟩:=q1
 subst e
 cases r1
 obtain⟨z,hd,vs,rel,dd⟩:=dk_of I1.hok hq
 obtain⟨o,es,ep,ho,hc,hdat,hk,hp,hn⟩:=id dd
 have h1:s1.TypeIs (.ref a) "dict":=dd.typeIs
 refine⟨"dict","dict.values",PySem.F.plainAttrs_dict,PySem.F.slot_dict_values,PySem.F.type_dict_values,h1,fun a' ez=>(by cases ez;exact⟨o,ho,hc.2.1⟩),Calls.callWith_builtin rfl (PySem.evalArgs_none ?_)⟩
 refine call_meetsIn PySem.F.slot_dict_values dd.typeIs PySem.F.entry_dict_values (PySem.F.args_dict_values_1 _) (meets_dict_values (mixKind X.prog X.w) a hd) ⟨⟨vs,dd⟩,?_⟩
 have hsz:es.size=vs.length:=by have:=hp.length;simpa using this
 have hV:(s1.heap.push { cls:=.type "dict_values",data:=.fields #[.ref a] }).IsValuesView s1.heap.objs.size a:=⟨_,Heap.get?_push_size _ rfl,rfl,rfl⟩
 have hA:(s1.heap.push { cls:=.type "dict_values",data:=.fields #[.ref a] }).DictAt (mixKind X.prog X.w) a vs ep:=⟨o,es,Heap.get?_push_of_some _ ho,hc,hdat,hk,hp,hn⟩
 refine wpAny_pyIter_values (s:={ s1 with heap:=s1.heap.push { cls:=.type "dict_values",data:=.fields #[.ref a] } }) hV hA ?_
 have I1':Inv X pins σ H1 { s1 with heap:=s1.heap.push { cls:=.type "dict_values",data:=.fields #[.ref a] } }:=I1.kept (t':=s1.toks) fun b o e=>Heap.get?_push_of_some _ e
 have I2:=I1'.freezeK hq (Heap.get?_push_of_some _ ho)
 refine⟨_,[(s1.heap.push { cls:=.type "dict_values",data:=.fields #[.ref a] }).objs.size],_,_,_,rfl,I2.kept (t':=s1.toks) fun b o e=>Heap.get?_push_of_some _ e,z503 a _ o kvs es ep hdat,⟨_,Heap.get?_push_size _ rfl,rfl,by rw [hsz];rfl⟩,fun b hb=>?_,q o⟩
 have e:b=(s1.heap.push { cls:=.type "dict_values",data:=.fields #[.ref a] }).objs.size:=by simpa using hb
 subst e
 exact I2.fpOk (Nat.le_refl _) (I2.hok.fresh (Nat.le_refl _))
theorem z576 {a:Addr}{o:Obj}{kvs:List (Key × V)}{H:Hp}(h:H a=some (.frz o (.dK kvs))):SrcIs (Itv a o kvs) H (kvs.map (·.2)):=
 ⟨fun i hi=>⟨h,by simpa using hi⟩,fun i x H' hi y=>⟨y.1,by
  obtain⟨_,k,hk⟩:=y
  rw [List.getElem?_map,hk]
  rfl⟩,⟨h,by simp⟩⟩
end L2
set_option Elab.async false
set_option linter.all false
set_option maxRecDepth 100000
namespace L2
open PySem PySem.Spec PyProof.Rows
theorem z444 {α:Type}{J:It}{H:Hp}{as:List α}{u g:α→V}{tt:TT}{te:TE}{cs:St}{F:List V→Hp→Prop}(S:SrcIs J H (as.map u)) (p:α→Bool) (htt:∀ x∈as,∀ Q:Bool→Hp→Prop,Q (p x) H→tt (some (u x)::cs) H Q)
  (hte:∀ x∈as,p x=true→∀ Q:VK,Q (g x) H→te (some (u x)::cs) H Q) (hn:as.length≤sizeLine) (hF:F ((as.filter p).map g) H):∃ W:Nat→Nat→List V→Hp→Prop,(∃ m,W 0 m [] H)∧CompW J (gName 0) tt te (none::cs) W F:=by
 refine⟨fun i m ys H'=>m=as.length - i∧i≤as.length∧H'=H∧ys=((as.take i).filter p).map g,⟨as.length,by simp,Nat.zero_le _,rfl,by simp⟩,?_⟩
 rintro i m ys H' ⟨rfl,hi,rfl,rfl⟩
 have hlen:(((as.take i).filter p).map g).length≤sizeLine:=by
  rw [List.length_map]
  refine Nat.le_trans (List.length_filter_le _ _) ?_
  rw [List.length_take]
  omega
 by_cases hlt:i < as.length
 ·refine .inr ⟨S.go i (by rw [List.length_map];exact hlt),fun ys' H''=>H''=H'∧ys'=((as.take (i + 1)).filter p).map g,fun ys' H'' h=>⟨as.length - (i + 1),by omega,rfl,hlt,h.1,h.2⟩,fun x H'' y=>?_⟩
  obtain⟨rfl,hx⟩:=S.yld i x H'' (by rw [List.length_map];exact hlt) y
  rw [List.getElem?_map] at hx
  obtain⟨a,ha,rfl⟩:=Option.map_eq_some_iff.mp hx
  have htk:as.take (i + 1)=as.take i++[a]:=by
   rw [List.take_add_one,ha];rfl
  refine⟨z220,htt a (List.mem_of_getElem? ha) _ ?_⟩
  rw [htk,List.filter_append,List.map_append]
  cases hp:p a with
  | true=>
   rw [if_pos rfl]
   refine hte a (List.mem_of_getElem? ha) hp _ ⟨hlen,rfl,?_⟩
   simp [hp]
  | false=>
   rw [if_neg (by decide)]
   refine⟨rfl,?_⟩
   simp [hp]
 ·have e:i=as.length:=by omega
  subst e
  have st:=S.stop
  rw [List.length_map] at st
  refine .inl ⟨st,hlen,?_⟩
  rw [List.take_length]
  exact hF
end L2
set_option Elab.async false
set_option linter.all false
set_option maxRecDepth 100000
namespace L2
open PySem PySem.Spec PyProof.Rows PySem.W
section
variable {M:Model}{A:Around}{E:Value→Shared→Prop}{σ:Type}{s:Shared}
theorem pr5 {a b c d e:Type}{P:a × b × c × d × e→Prop}(h:∀ x1 x2 x3 x4 x5,P (x1,x2,x3,x4,x5)):∀ x,P x:=fun⟨_,_,_,_,_⟩=>h _ _ _ _ _
theorem pr6 {a b c d e f:Type}{P:a × b × c × d × e × f→Prop}(h:∀ x1 x2 x3 x4 x5 x6,P (x1,x2,x3,x4,x5,x6)):∀ x,P x:=fun⟨_,_,_,_,_,_⟩=>h _ _ _ _ _ _
theorem pr7 {a b c d e f g:Type}{P:a × b × c × d × e × f × g→Prop}(h:∀ x1 x2 x3 x4 x5 x6 x7,P (x1,x2,x3,x4,x5,x6,x7)):∀ x,P x:=fun⟨_,_,_,_,_,_,_⟩=>h _ _ _ _ _ _ _
theorem kasC_t {α:Type}{c:Prop} [Decidable c]{a b:StateT σ Sem α}{Q:α→σ→Shared→Prop}{st:σ}(h:c) (k:kasC M A E a Q st s):kasC M A E (if c then a else b) Q st s:=by rw [if_pos h];exact k
theorem kasC_f {α:Type}{c:Prop} [Decidable c]{a b:StateT σ Sem α}{Q:α→σ→Shared→Prop}{st:σ}(h:¬ c) (k:kasC M A E b Q st s):kasC M A E (if c then a else b) Q st s:=by rw [if_neg h];exact k
theorem key7 {P G:Nat→Prop}(hb:∀ n,¬ n > 1→P n→G n) (ha:∀ n,n > 1→P (n - 1)→G n) (k:∀ m,P m):∀ n,G n:=fun n=>if h:n > 1 then ha n h (k _) else hb n h (k _)
theorem z16 {β:Type}{a b:Nat}{c:β}{f:Nat→β→StateT σ Sem (ForInStep β)}{Q:β→σ→Shared→Prop}{st:σ}(J:Nat→β→σ→Prop) (F:β→σ→Prop) (h0:J 0 c st)
  (hs:∀ k x c st,k < b - a→J k c st→kasC M A E (f x c) (fun r st' s'=>s'=s∧(match r with | .done c'=>F c' st' | .yield c'=>J (k + 1) c' st')) st s) (hd:∀ c st,J (b - a) c st→F c st) (hq:∀ c st,F c st→Q c st s):kasC M A E (forIn [a:b] c f) Q st s:=by
 refine kasC_range ?_
 have go:∀ (k:Nat) (l:List Nat) (c:β) (st:σ),k + l.length=b - a→J k c st→kasC M A E (forIn l c f) Q st s:=by
  intro k l
  induction l generalizing k with
  | nil=>
   intro c st hl j
   refine kasC_nil (hq c st (hd c st ?_))
   have:k=b - a:=by simpa using hl
   rw [← this]
   exact j
  | cons x l ih=>
   intro c st hl j
   have hl':k + 1 + l.length=b - a:=by simp at hl;omega
   refine kasC_cons (wpAny_mono (hs k x c st (by omega) j) (fun r s' h=>?_) fun _ _ e=>e)
   obtain⟨r,st'⟩:=r
   obtain⟨rfl,h⟩:=h
   cases r with
   | done c'=>exact hq c' st' h
   | yield c'=>exact ih (k + 1) c' st' hl' h
 exact go 0 _ c st (by simp) h0
end
section
variable {prog:Program}{w:World}{A:Around}{E:Value→Shared→Prop}{κ:SortKind}{it:Array Keyed}{n:Nat}{lt:Nat→Nat→Bool}{s:Shared}{st:SortSt}
theorem qlt {i j:Nat}{Q:Option Bool→SortSt→Shared→Prop}(hc:Asks n lt (kas_cmp prog w A κ it) s) (hk:kindOf st=κ) (hi:i < n) (hj:j < n) (h:Q (some (lt i j)) st s):kasC (model prog w) A E (lt' (kas_item it i) (kas_item it j)) Q st s:=by
 rw [lt'_eq]
 refine kasC_bind (kasC_get ?_)
 have hw:=hc i j (fun c s'=>c=lt i j∧s'=s) hi hj ⟨rfl,rfl⟩
 unfold kas_cmp at hw
 rw [← hk] at hw
 refine kasC_bind (kasC_lift (wpAny_attempt (wpAny_mono hw (fun c s' hc=>?_) fun _ _ hF=>hF.elim)))
 obtain⟨rfl,rfl⟩:=hc
 exact kasC_pure h
theorem qelem {arr:Array Keyed}{i:Nat}{x:Keyed}{Q:Keyed→SortSt→Shared→Prop}(e:arr[i]?=some x) (h:Q x st s):kasC (model prog w) A E (elem' arr i) Q st s:=by
 rw [elem'_eq,e]
 exact kasC_pure h
def z546:Bool→Keyed→Array Keyed→Nat→Nat→Nat→StateT SortSt Sem (Option Nat):=sortPriv% PySem.Builtin.gallop
def byG (left:Bool) (lt:Nat→Nat→Bool) (k:Nat) (g:Nat→Nat) (i:Nat):Bool:=if left=true then lt (g i) k else !(lt k (g i))
theorem z646 {left:Bool}{k base i:Nat}{g:Nat→Nat}{arr:Array Keyed}{Q:Option Bool→SortSt→Shared→Prop}(hc:Asks n lt (kas_cmp prog w A κ it) s) (hk:kindOf st=κ) (e:arr[base + i]?=some (kas_item it (g i))) (gi:g i < n) (kn:k < n) (q:Q (some (byG left lt k g i)) st s):
  kasC (model prog w) A E (elem' arr (base + i) >>= fun x=>if left=true then lt' x (kas_item it k) else(lt' (kas_item it k) x >>= fun r=>pure (Option.map (fun x=>!x) r))) Q st s:=by
 refine kasC_bind (qelem e ?_)
 unfold byG at q
 cases left with
 | true=>rw [if_pos rfl] at q ⊢;exact qlt hc hk gi kn q
 | false=>rw [if_neg (by decide)] at q ⊢;exact kasC_bind (qlt hc hk kn gi (kasC_pure q))
theorem z66 {left:Bool}{k base m h:Nat}{g:Nat→Nat}{arr:Array Keyed}{Q:Option Nat→SortSt→Shared→Prop}(hc:Asks n lt (kas_cmp prog w A κ it) s) (hk:kindOf st=κ) (ha:∀ i,i < m→arr[base + i]?=some (kas_item it (g i))) (hg:∀ i,i < m→g i < n) (kn:k < n)
  (mono:∀ i j,i≤j→j < m→byG left lt k g j=true→byG left lt k g i=true) (hm:h < m) (q:∀ r,r≤m→(∀ i,i < r→byG left lt k g i=true)→(∀ i,r≤i→i < m→byG left lt k g i=false)→Q (some r) st s):
  kasC (model prog w) A E (z546 left (kas_item it k) arr base m h) Q st s:=by
 have one:∀ {i:Nat}{Q:Option Bool→SortSt→Shared→Prop},i < m→Q (some (byG left lt k g i)) st s→kasC (model prog w) A E (elem' arr (base + i) >>= fun x=>if left=true then lt' x (kas_item it k) else(lt' (kas_item it k) x >>= fun r=>pure (Option.map (fun x=>!x) r))) Q st s:=
  fun hi q=>z646 hc hk (ha _ hi) (hg _ hi) kn q
 unfold z546
 k_delta "gallop"
 refine kasC_bind (one hm ?_)
 dsimp only
 cases e0:byG left lt k g h with
 | true=>
  rw [if_pos rfl]
  refine kasC_bind (z16 (fun t c st'=>st'=st∧c.1=none∧c.2.1 < c.2.2∧t < c.2.2∧h + c.2.1 < m∧byG left lt k g (h + c.2.1)=true) (fun c st'=>st'=st∧c.1=none∧c.2.1 < c.2.2∧h + c.2.1 < m∧byG left lt k g (h + c.2.1)=true∧(m - h≤c.2.2∨byG left lt k g (h + c.2.2)=false)) ⟨rfl,rfl,by decide,by decide,hm,e0⟩ ?_ ?_ ?_)
  ·rintro t x ⟨r,l,u⟩ st' ht ⟨rfl,rfl,g1,g2,g3,g4⟩
   dsimp only at g1 g2 g3 g4 ⊢
   by_cases z:u ≥ m - h
   ·rw [if_pos z]
    exact kasC_pure ⟨rfl,rfl,rfl,g1,g3,g4,.inl z⟩
   ·rw [if_neg z]
    refine kasC_bind (one (i:=h + u) (by(try dsimp only at *);omega) ?_)
    cases e:byG left lt k g (h + u) with
    | true=>
     exact kasC_pure ⟨rfl,rfl,rfl,by(try dsimp only at *);omega,by(try dsimp only at *);omega,by(try dsimp only at *);omega,e⟩
    | false=>
     exact kasC_pure ⟨rfl,rfl,rfl,g1,g3,g4,.inr e⟩
  ·rintro⟨r,l,u⟩ st' ⟨rfl,rfl,g1,g2,g3,g4⟩
   exact⟨rfl,rfl,g1,g3,g4,.inl (by(try dsimp only at *);omega)⟩
  ·rintro⟨r,l,u⟩ st' ⟨rfl,rfl,g1,g3,g4,g5⟩
   dsimp only at g1 g3 g4 g5 ⊢
   have b1:h + l + 1=0∨byG left lt k g (h + l + 1 - 1)=true:=.inr (by rw [Nat.add_sub_cancel];exact g4)
   have b2:h + min u (m - h)=m∨byG left lt k g (h + min u (m - h))=false:=by
    by_cases z:m - h≤u
    ·exact .inl (by omega)
    ·rcases g5 with y | y
     ·exact absurd y z
     ·exact .inr (by rw [show min u (m - h)=u by omega];exact y)
   have b3:h + l + 1≤h + min u (m - h):=by omega
   have b4:h + min u (m - h)≤m:=by omega
   refine kasC_bind (z16 (fun t c st''=>st''=st'∧c.1=none∧(c.2.1=0∨byG left lt k g (c.2.1 - 1)=true)∧(c.2.2=m∨byG left lt k g c.2.2=false)∧c.2.1≤c.2.2∧c.2.2≤m∧(c.2.2 - c.2.1 + t≤m)) (fun c st''=>st''=st'∧c.1=none∧(c.2.1=0∨byG left lt k g (c.2.1 - 1)=true)∧(c.2.2=m∨byG left lt k g c.2.2=false)∧c.2.1=c.2.2∧c.2.2≤m) ⟨rfl,rfl,b1,b2,b3,b4,by dsimp only;omega⟩ ?_ ?_ ?_)
   ·rintro t x ⟨r,l,u⟩ st2 ht ⟨rfl,rfl,f1,f2,f3,f4,f5⟩
    dsimp only at f1 f2 f3 f4 f5 ⊢
    by_cases z:l ≥ u
    ·rw [if_pos z]
     exact kasC_pure ⟨rfl,rfl,rfl,f1,f2,by dsimp only;omega,f4⟩
    ·rw [if_neg z]
     refine kasC_bind (one (i:=l + (u - l) / 2) (by omega) ?_)
     cases e:byG left lt k g (l + (u - l) / 2) with
     | true=>
      dsimp only
      rw [if_pos rfl]
      exact kasC_pure ⟨rfl,rfl,rfl,.inr (by dsimp only;rw [Nat.add_sub_cancel];exact e),f2,by dsimp only;omega,f4,by dsimp only;omega⟩
     | false=>
      dsimp only
      rw [if_neg (by decide)]
      exact kasC_pure ⟨rfl,rfl,rfl,f1,.inr e,by dsimp only;omega,by dsimp only;omega,by dsimp only;omega⟩
   ·rintro⟨r,l,u⟩ st2 ⟨rfl,rfl,f1,f2,f3,f4,f5⟩
    exact⟨rfl,rfl,f1,f2,by(try dsimp only at *);omega,f4⟩
   ·rintro⟨r,l,u⟩ st2 ⟨rfl,rfl,f1,f2,f3,f4⟩
    dsimp only at f1 f2 f3 f4 ⊢
    subst f3
    refine kasC_pure (q l f4 (fun i hi=>?_) fun i hi hi2=>?_)
    ·rcases f1 with z | z
     ·omega
     ·exact mono i (l - 1) (by omega) (by omega) z
    ·rcases f2 with z | z
     ·omega
     ·cases e:byG left lt k g i with
      | false=>rfl
      | true=>rw [mono l i hi hi2 e] at z;cases z
 | false=>
  rw [if_neg (by decide)]
  refine kasC_bind (z16 (fun t c st'=>st'=st∧c.1=none∧c.2.1 < c.2.2∧t < c.2.2∧c.2.1≤h∧byG left lt k g (h - c.2.1)=false) (fun c st'=>st'=st∧c.1=none∧c.2.1 < c.2.2∧c.2.1≤h∧byG left lt k g (h - c.2.1)=false∧(h + 1≤c.2.2∨byG left lt k g (h - c.2.2)=true)) ⟨rfl,rfl,by decide,by decide,Nat.zero_le _,e0⟩ ?_ ?_ ?_)
  ·rintro t x ⟨r,l,u⟩ st' ht ⟨rfl,rfl,g1,g2,g3,g4⟩
   dsimp only at g1 g2 g3 g4 ⊢
   by_cases z:u ≥ h + 1
   ·rw [if_pos z]
    exact kasC_pure ⟨rfl,rfl,rfl,g1,g3,g4,.inl z⟩
   ·rw [if_neg z]
    refine kasC_bind (one (i:=h - u) (by(try dsimp only at *);omega) ?_)
    cases e:byG left lt k g (h - u) with
    | true=>
     exact kasC_pure ⟨rfl,rfl,rfl,g1,g3,g4,.inr e⟩
    | false=>
     exact kasC_pure ⟨rfl,rfl,rfl,by(try dsimp only at *);omega,by(try dsimp only at *);omega,by(try dsimp only at *);omega,e⟩
  ·rintro⟨r,l,u⟩ st' ⟨rfl,rfl,g1,g2,g3,g4⟩
   exact⟨rfl,rfl,g1,g3,g4,.inl (by(try dsimp only at *);omega)⟩
  ·rintro⟨r,l,u⟩ st' ⟨rfl,rfl,g1,g3,g4,g5⟩
   dsimp only at g1 g3 g4 g5 ⊢
   have b1:h + 1 - min u (h + 1)=0∨byG left lt k g (h + 1 - min u (h + 1) - 1)=true:=by
    by_cases z:h + 1≤u
    ·exact .inl (by omega)
    ·rcases g5 with y | y
     ·exact absurd y z
     ·exact .inr (by rw [show h + 1 - min u (h + 1) - 1=h - u by omega];exact y)
   have b2:h - l=m∨byG left lt k g (h - l)=false:=.inr g4
   have b3:h + 1 - min u (h + 1)≤h - l:=by omega
   have b4:h - l≤m:=by omega
   refine kasC_bind (z16 (fun t c st''=>st''=st'∧c.1=none∧(c.2.1=0∨byG left lt k g (c.2.1 - 1)=true)∧(c.2.2=m∨byG left lt k g c.2.2=false)∧c.2.1≤c.2.2∧c.2.2≤m∧(c.2.2 - c.2.1 + t≤m)) (fun c st''=>st''=st'∧c.1=none∧(c.2.1=0∨byG left lt k g (c.2.1 - 1)=true)∧(c.2.2=m∨byG left lt k g c.2.2=false)∧c.2.1=c.2.2∧c.2.2≤m) ⟨rfl,rfl,b1,b2,b3,b4,by dsimp only;omega⟩ ?_ ?_ ?_)
   ·rintro t x ⟨r,l,u⟩ st2 ht ⟨rfl,rfl,f1,f2,f3,f4,f5⟩
    dsimp only at f1 f2 f3 f4 f5 ⊢
    by_cases z:l ≥ u
    ·rw [if_pos z]
     exact kasC_pure ⟨rfl,rfl,rfl,f1,f2,by dsimp only;omega,f4⟩
    ·rw [if_neg z]
     refine kasC_bind (one (i:=l + (u - l) / 2) (by omega) ?_)
     cases e:byG left lt k g (l + (u - l) / 2) with
     | true=>
      dsimp only
      rw [if_pos rfl]
      exact kasC_pure ⟨rfl,rfl,rfl,.inr (by dsimp only;rw [Nat.add_sub_cancel];exact e),f2,by dsimp only;omega,f4,by dsimp only;omega⟩
     | false=>
      dsimp only
      rw [if_neg (by decide)]
      exact kasC_pure ⟨rfl,rfl,rfl,f1,.inr e,by dsimp only;omega,by dsimp only;omega,by dsimp only;omega⟩
   ·rintro⟨r,l,u⟩ st2 ⟨rfl,rfl,f1,f2,f3,f4,f5⟩
    exact⟨rfl,rfl,f1,f2,by(try dsimp only at *);omega,f4⟩
   ·rintro⟨r,l,u⟩ st2 ⟨rfl,rfl,f1,f2,f3,f4⟩
    dsimp only at f1 f2 f3 f4 ⊢
    subst f3
    refine kasC_pure (q l f4 (fun i hi=>?_) fun i hi hi2=>?_)
    ·rcases f1 with z | z
     ·omega
     ·exact mono i (l - 1) (by omega) (by omega) z
    ·rcases f2 with z | z
     ·omega
     ·cases e:byG left lt k g i with
      | false=>rfl
      | true=>rw [mono l i hi hi2 e] at z;cases z
end
end L2
set_option Elab.async false
set_option linter.all false
set_option maxRecDepth 100000
namespace L2
section
variable {lt:Nat→Nat→Bool}{u v o:List Nat}{ia ib:Nat}
def Srt (lt:Nat→Nat→Bool) (l:List Nat):Prop:=l.Pairwise fun x y=>lt y x=false
structure MI (lt:Nat→Nat→Bool) (u v o:List Nat) (ia ib:Nat):Prop where
 pm:o.Perm (u.take ia++v.take ib)
 sr:Srt lt o
 ru:∀ x∈o,∀ y∈u.drop ia,lt y x=false
 rv:∀ x∈o,∀ y∈v.drop ib,lt y x=false
theorem z214 {l:List Nat}{i x:Nat}(h:l[i]?=some x):l.drop i=x::l.drop (i + 1):=by
 obtain⟨h1,h2⟩:=List.getElem?_eq_some_iff.mp h
 rw [← h2]
 exact List.drop_eq_getElem_cons h1
theorem z455 {l:List Nat}{i x:Nat}(h:l[i]?=some x):l.take (i + 1)=l.take i++[x]:=by
 rw [List.take_add_one,h]
 rfl
theorem Srt.snoc {l:List Nat}{x:Nat}(h:Srt lt l) (hx:∀ y∈l,lt x y=false):Srt lt (l++[x]):=by
 refine List.pairwise_append.mpr ⟨h,List.pairwise_singleton _ _,fun y hy z hz=>?_⟩
 rw [List.mem_singleton.mp hz]
 exact hx y hy
theorem Srt.drop {l:List Nat}(h:Srt lt l) (i:Nat):Srt lt (l.drop i):=List.Pairwise.sublist (List.drop_sublist _ _) h
theorem Srt.head {l:List Nat}{i x:Nat}(h:Srt lt l) (hx:l[i]?=some x) (rf:lt x x=false):∀ y∈l.drop i,lt y x=false:=fun y hy=>by
 have:=h.drop i
 rw [z214 hx] at this hy
 rcases List.mem_cons.mp hy with z | z
 ·rw [z];exact rf
 ·exact(List.pairwise_cons.mp this).1 y z
theorem MI.takeV {y:Nat}(m:MI lt u v o ia ib) (sv:Srt lt v) (hy:v[ib]?=some y) (rf:lt y y=false) (h:∀ z∈u.drop ia,lt z y=false):MI lt u v (o++[y]) ia (ib + 1):=by
 have hd:=z214 hy
 have my:y∈v.drop ib:=by rw [hd];exact List.mem_cons_self
 refine⟨?_,m.sr.snoc fun x hx=>m.rv x hx y my,fun x hx z hz=>?_,fun x hx z hz=>?_⟩
 ·rw [z455 hy,← List.append_assoc]
  exact m.pm.append_right _
 ·rcases List.mem_append.mp hx with w | w
  ·exact m.ru x w z hz
  ·rw [List.mem_singleton.mp w];exact h z hz
 ·have mz:z∈v.drop ib:=by rw [hd];exact List.mem_cons_of_mem _ hz
  rcases List.mem_append.mp hx with w | w
  ·exact m.rv x w z mz
  ·rw [List.mem_singleton.mp w];exact sv.head hy rf z mz
theorem MI.takeU {y:Nat}(m:MI lt u v o ia ib) (su:Srt lt u) (hy:u[ia]?=some y) (rf:lt y y=false) (h:∀ z∈v.drop ib,lt z y=false):MI lt u v (o++[y]) (ia + 1) ib:=by
 have hd:=z214 hy
 have my:y∈u.drop ia:=by rw [hd];exact List.mem_cons_self
 refine⟨?_,m.sr.snoc fun x hx=>m.ru x hx y my,fun x hx z hz=>?_,fun x hx z hz=>?_⟩
 ·rw [z455 hy,List.append_assoc]
  refine(m.pm.append_right [y]).trans ?_
  rw [List.append_assoc]
  exact List.Perm.append_left _ List.perm_append_comm
 ·have mz:z∈u.drop ia:=by rw [hd];exact List.mem_cons_of_mem _ hz
  rcases List.mem_append.mp hx with w | w
  ·exact m.ru x w z mz
  ·rw [List.mem_singleton.mp w];exact su.head hy rf z mz
 ·rcases List.mem_append.mp hx with w | w
  ·exact m.rv x w z hz
  ·rw [List.mem_singleton.mp w];exact h z hz
theorem MI.takeUs (su:Srt lt u) (rf:∀ x,lt x x=false):∀ (k:Nat){o:List Nat}{ia:Nat},MI lt u v o ia ib→ia + k≤u.length→(∀ i,ia≤i→i < ia + k→∀ x,u[i]?=some x→∀ z∈v.drop ib,lt z x=false)→MI lt u v (o++(u.drop ia).take k) (ia + k) ib
 | 0,o,ia,m,_,_=>by rw [List.take_zero,List.append_nil];exact m
 | k + 1,o,ia,m,hl,h=>by
  obtain⟨x,hx⟩:∃ x,u[ia]?=some x:=⟨_,List.getElem?_eq_getElem (by omega)⟩
  have:=MI.takeUs su rf k (m.takeU su hx (rf x) (h ia (Nat.le_refl _) (by omega) x hx)) (by omega) fun i h1 h2=>h i (by omega) (by omega)
  rw [z214 hx,List.take_succ_cons,show ia + (k + 1)=ia + 1 + k by omega,show o++x::(u.drop (ia + 1)).take k=o++[x]++(u.drop (ia + 1)).take k by simp]
  exact this
theorem MI.takeVs (sv:Srt lt v) (rf:∀ x,lt x x=false):∀ (k:Nat){o:List Nat}{ib:Nat},MI lt u v o ia ib→ib + k≤v.length→(∀ i,ib≤i→i < ib + k→∀ x,v[i]?=some x→∀ z∈u.drop ia,lt z x=false)→MI lt u v (o++(v.drop ib).take k) ia (ib + k)
 | 0,o,ib,m,_,_=>by rw [List.take_zero,List.append_nil];exact m
 | k + 1,o,ib,m,hl,h=>by
  obtain⟨x,hx⟩:∃ x,v[ib]?=some x:=⟨_,List.getElem?_eq_getElem (by omega)⟩
  have:=MI.takeVs sv rf k (m.takeV sv hx (rf x) (h ib (Nat.le_refl _) (by omega) x hx)) (by omega) fun i h1 h2=>h i (by omega) (by omega)
  rw [z214 hx,List.take_succ_cons,show ib + (k + 1)=ib + 1 + k by omega,show o++x::(v.drop (ib + 1)).take k=o++[x]++(v.drop (ib + 1)).take k by simp]
  exact this
def Merged (lt:Nat→Nat→Bool) (u v r:List Nat):Prop:=r.Perm (u++v)∧Srt lt r
theorem MI.all (m:MI lt u v o ia ib) (hu:u.length≤ia) (hv:v.length≤ib):Merged lt u v o:=by
 have:=m.pm
 rw [List.take_of_length_le hu,List.take_of_length_le hv] at this
 exact⟨this,m.sr⟩
theorem MI.finU (m:MI lt u v o ia ib) (su:Srt lt u) (rf:∀ x,lt x x=false) (hv:v.length≤ib) (hu:ia≤u.length):Merged lt u v (o++u.drop ia++v.drop ib):=by
 have e:v.drop ib=[]:=List.drop_of_length_le hv
 have:=MI.takeUs su rf (u.length - ia) m (by omega) fun i _ _ x _ z hz=>by rw [e] at hz;cases hz
 rw [e,List.append_nil]
 rw [List.take_of_length_le (by rw [List.length_drop];exact Nat.le_refl _)] at this
 exact this.all (by omega) hv
theorem MI.finV (m:MI lt u v o ia ib) (su:Srt lt u) (sv:Srt lt v) (rf:∀ x,lt x x=false) (hv:ib≤v.length) (hu:ia≤u.length) (h:∀ x∈v.drop ib,∀ z∈u.drop ia,lt z x=false):Merged lt u v (o++v.drop ib++u.drop ia):=by
 have m1:=MI.takeVs sv rf (v.length - ib) m (by omega) fun i h1 h2 x hx z hz=>h x (List.mem_of_getElem? (by rw [List.getElem?_drop];rw [show ib + (i - ib)=i by omega];exact hx)) z hz
 rw [List.take_of_length_le (by rw [List.length_drop];exact Nat.le_refl _)] at m1
 have m2:=m1.finU su rf (by omega) hu
 rw [List.drop_of_length_le (show v.length≤ib + (v.length - ib) by omega),List.append_nil] at m2
 exact m2
end
end L2
set_option Elab.async false
set_option linter.all false
set_option maxRecDepth 100000
namespace L2
open PySem PySem.Spec PyProof.Rows PySem.W
def z437:Array Keyed→Array Keyed→StateT SortSt Sem (Array Keyed):=sortPriv% PySem.Builtin.mergeLo
def z191:Nat→StateT SortSt Sem Unit:=sortPriv% PySem.Builtin.setMinGallop
abbrev setG (st:SortSt) (g:Nat):SortSt:=SortSt.mk' (kindOf st) (arrOf st) (pendingOf st) g (failedOf st)
abbrev its (it:Array Keyed) (l:List Nat):Array Keyed:=(l.map (kas_item it)).toArray
section
variable {it:Array Keyed}{o l:List Nat}
theorem y4 {i x:Nat}(h:l[i]?=some x):(its it l)[i]?=some (kas_item it x):=by simp [its,h]
theorem z27 {y:Nat}:(its it o).push (kas_item it y)=its it (o++[y]):=by simp [its]
theorem v3:(its it l).size=l.length:=by simp [its]
theorem z364 {i j:Nat}:its it o++(its it l).extract i j=its it (o++(l.drop i).take (j - i)):=by simp [its,List.map_take,List.map_drop]
theorem z7 {i:Nat}:its it o++(its it l).extract i (its it l).size=its it (o++l.drop i):=by
 rw [z364,v3,List.take_of_length_le (by rw [List.length_drop];exact Nat.le_refl _)]
end
section
variable {prog:Program}{w:World}{A:Around}{E:Value→Shared→Prop}{κ:SortKind}{it:Array Keyed}{n:Nat}{lt:Nat→Nat→Bool}{s:Shared}{st:SortSt}
theorem qset {g:Nat}{Q:Unit→SortSt→Shared→Prop}(h:Q () (setG st g) s):kasC (model prog w) A E (z191 g) Q st s:=by
 unfold z191
 k_delta "setMinGallop"
 exact kasC_modify h
def Mid (lt:Nat→Nat→Bool) (u v:List Nat) (it:Array Keyed) (out:Array Keyed) (ia ib:Nat):Prop:=∃ o,out=its it o∧MI lt u v o ia ib∧ia + 1 < u.length∧ib < v.length
def Res (lt:Nat→Nat→Bool) (u v:List Nat) (it:Array Keyed) (r:Option (Array Keyed)):Prop:=∃ l,r=some (its it l)∧Merged lt u v l
theorem st5 {u v:List Nat}{T:Prop}{hp:Nat→Nat→Prop}{G:Option (Array Keyed) × Array Keyed × Nat × Nat × Nat→SortSt→Prop} (k:∀ ia ib mg o g,T→MI lt u v o ia ib→ia + 1 < u.length→ib < v.length→hp ia ib→G (none,its it o,ia,ib,mg) (setG st g)):∀ c st',T→(c.1=none∧Mid lt u v it c.2.1 c.2.2.1 c.2.2.2.1∧hp c.2.2.1 c.2.2.2.1∧∃ g,st'=setG st g)→G c st':=by
 rintro⟨r,out,ia,ib,mg⟩ st' ht ⟨rfl,⟨o,rfl,m,h1,h2⟩,h,g,rfl⟩
 exact k ia ib mg o g ht m h1 h2 h
theorem st6 {u v:List Nat}{T:Prop}{hp:Nat→Nat→Prop}{s0:SortSt}{G:Option (Array Keyed) × Array Keyed × Nat × Nat × Nat × Nat→SortSt→Prop} (k:∀ ia ib ac bc o,T→MI lt u v o ia ib→ia + 1 < u.length→ib < v.length→hp ia ib→G (none,its it o,ia,ib,ac,bc) s0):∀ c st',T→(c.1=none∧Mid lt u v it c.2.1 c.2.2.1 c.2.2.2.1∧hp c.2.2.1 c.2.2.2.1∧st'=s0)→G c st':=by
 rintro⟨r,out,ia,ib,ac,bc⟩ st' ht ⟨rfl,⟨o,rfl,m,h1,h2⟩,h,rfl⟩
 exact k ia ib ac bc o ht m h1 h2 h
theorem st7 {u v:List Nat}{T:Prop}{hp:Nat→Nat→Prop}{G:Option (Array Keyed) × Array Keyed × Nat × Nat × Nat × Nat × Nat→SortSt→Prop} (k:∀ ia ib ac bc o g,T→MI lt u v o ia ib→ia + 1 < u.length→ib < v.length→hp ia ib→∀ mg,G (none,its it o,ia,ib,mg,ac,bc) (setG st g)):∀ c st',T→(c.1=none∧Mid lt u v it c.2.1 c.2.2.1 c.2.2.2.1∧hp c.2.2.1 c.2.2.2.1∧∃ g,st'=setG st g)→G c st':=by
 rintro⟨r,out,ia,ib,mg,ac,bc⟩ st' ht ⟨rfl,⟨o,rfl,m,h1,h2⟩,h,g,rfl⟩
 exact k ia ib ac bc o g ht m h1 h2 h mg
theorem z436 {u v:List Nat}{Q:Array Keyed→SortSt→Shared→Prop}(hc:Asks n lt (kas_cmp prog w A κ it) s) (od:Ord lt) (hk:kindOf st=κ) (hu:∀ x∈u,x < n) (hv:∀ x∈v,x < n) (su:Srt lt u) (sv:Srt lt v) (u1:0 < u.length) (v1:0 < v.length)
  (first:∀ y x,v[0]?=some y→u[0]?=some x→lt y x=true) (last:∀ y∈v,∀ x,u[u.length - 1]?=some x→lt y x=true) (q:∀ r g,Merged lt u v r→Q (its it r) (setG st g) s):kasC (model prog w) A E (z437 (its it u) (its it v)) Q st s:=by
 have rf:=od.rf
 obtain⟨y0,hy0⟩:∃ y,v[0]?=some y:=⟨_,List.getElem?_eq_getElem v1⟩
 obtain⟨x0,hx0⟩:∃ x,u[0]?=some x:=⟨_,List.getElem?_eq_getElem u1⟩
 obtain⟨xl,hxl⟩:∃ x,u[u.length - 1]?=some x:=⟨_,List.getElem?_eq_getElem (by omega)⟩
 have upu:∀ {i j x z},u[i]?=some x→i≤j→u[j]?=some z→lt z x=false:=fun{i j x z} hx hij hz=>
  su.head hx (rf x) z (List.mem_of_getElem? (i:=j - i) (by rw [List.getElem?_drop,show i + (j - i)=j by omega];exact hz))
 have upv:∀ {i j x z},v[i]?=some x→i≤j→v[j]?=some z→lt z x=false:=fun{i j x z} hx hij hz=>
  sv.head hx (rf x) z (List.mem_of_getElem? (i:=j - i) (by rw [List.getElem?_drop,show i + (j - i)=j by omega];exact hz))
 have inU:∀ {i:Nat}{z},z∈u.drop i→∃ j,i≤j∧u[j]?=some z:=fun{i z} hz=>by
  obtain⟨j,hj⟩:=List.mem_iff_getElem?.mp hz
  rw [List.getElem?_drop] at hj
  exact⟨_,by omega,hj⟩
 have inV:∀ {i:Nat}{z},z∈v.drop i→∃ j,i≤j∧v[j]?=some z:=fun{i z} hz=>by
  obtain⟨j,hj⟩:=List.mem_iff_getElem?.mp hz
  rw [List.getElem?_drop] at hj
  exact⟨_,by omega,hj⟩
 have getU:∀ {i},i < u.length→∃ x,u[i]?=some x∧x < n:=fun{i} hi=>⟨u[i],List.getElem?_eq_getElem hi,hu _ (List.getElem_mem hi)⟩
 have getV:∀ {i},i < v.length→∃ x,v[i]?=some x∧x < n:=fun{i} hi=>⟨v[i],List.getElem?_eq_getElem hi,hv _ (List.getElem_mem hi)⟩
 have lastV:∀ {ib:Nat}{x},x∈v.drop ib→∀ {ia},ia + 1=u.length→∀ z∈u.drop ia,lt z x=false:=fun{ib x} hx {ia} e z hz=>by
  obtain⟨j,h1,h2⟩:=inU hz
  have:j < u.length:=(List.getElem?_eq_some_iff.mp h2).1
  rw [show j=u.length - 1 by omega] at h2
  exact od.as _ _ (last x (List.mem_of_mem_drop hx) z h2)
 have fin1:∀ {o ia ib},MI lt u v o ia ib→ib=v.length→ia≤u.length→Merged lt u v (o++u.drop ia++v.drop ib):=fun m h1 h2=>m.finU su rf (by omega) h2
 have fin2:∀ {o ia ib},MI lt u v o ia ib→ib≤v.length→ia + 1=u.length→Merged lt u v (o++v.drop ib++u.drop ia):=fun m h1 h2=>m.finV su sv rf h1 (by omega) fun x hx z hz=>lastV hx h2 z hz
 have m0:MI lt u v [y0] 0 1:=by
  have:MI lt u v [] 0 0:=⟨by simp,List.Pairwise.nil,fun x hx=>(by cases hx),fun x hx=>(by cases hx)⟩
  refine this.takeV sv hy0 (rf y0) fun z hz=>?_
  obtain⟨j,_,h2⟩:=inU hz
  exact od.tr _ _ _ (od.as _ _ (first y0 x0 hy0 hx0)) (upu hx0 (Nat.zero_le _) h2)
 unfold z437
 k_delta "mergeLo"
 refine kasC_bind (kasC_lift (wpAny_rule (kasC_bind (qelem (y4 hy0) ?_))))
 try dsimp only
 rw [show (#[kas_item it y0]:Array Keyed)=its it [y0] from rfl]
 by_cases z1:1=v.length
 ·first | refine kasC_t (by simp [z1]) ?_ | rw [if_pos (by simp [z1])]
  rw [z7,z7]
  exact kasC_pure (q _ (gallopOf st) (fin1 m0 z1 (by omega)))
 first | refine kasC_f (by simp;omega) ?_ | rw [if_neg (by simp;omega)]
 by_cases z2:0 + 1=u.length
 ·first | refine kasC_t (by simp;omega) ?_ | rw [if_pos (by simp;omega)]
  rw [z7,z7]
  exact kasC_pure (q _ (gallopOf st) (fin2 m0 (by omega) z2))
 first | refine kasC_f (by simp;omega) ?_ | rw [if_neg (by simp;omega)]
 refine kasC_bind (kasC_get ?_)
 refine kasC_bind (z16 (fun t c st'=>c.1=none∧Mid lt u v it c.2.1 c.2.2.1 c.2.2.2.1∧t + 1≤c.2.2.1 + c.2.2.2.1∧∃ g,st'=setG st g) (fun c st'=>(∃ g,st'=setG st g)∧Res lt u v it c.1) ⟨rfl,⟨_,rfl,m0,by dsimp only;omega,by dsimp only;omega⟩,by dsimp only;omega,gallopOf st,rfl⟩ ?_ ?_ ?_)
 ·intro t x
  refine st5 (hp:=fun p q=>t + 1≤p + q) ?_
  intro ia ib mg o g0 ht m h1 h2 hp
  dsimp only at hp ⊢
  refine kasC_bind (z16 (fun t' c st'=>c.1=none∧Mid lt u v it c.2.1 c.2.2.1 c.2.2.2.1∧ia + ib + t'≤c.2.2.1 + c.2.2.2.1∧st'=setG st g0) (fun c st'=>st'=setG st g0∧((c.1=none∧Mid lt u v it c.2.1 c.2.2.1 c.2.2.2.1∧ia + ib + 1≤c.2.2.1 + c.2.2.2.1)∨Res lt u v it c.1)) ⟨rfl,⟨_,rfl,m,h1,h2⟩,by dsimp only;omega,rfl⟩ ?_ ?_ ?_)
  ·intro t' x
   refine st6 (hp:=fun p q=>ia + ib + t'≤p + q) ?_
   intro ia' ib' ac bc o' ht' m' h1' h2' hp'
   dsimp only at hp' ⊢
   obtain⟨y,hy,yn⟩:=getV h2'
   obtain⟨x1,hx1,xn1⟩:=getU (i:=ia') (by omega)
   refine kasC_bind (qelem (y4 hy) (kasC_bind (qelem (y4 hx1) (kasC_bind (qlt hc hk yn xn1 ?_)))))
   cases e:lt y x1 with
   | true=>
    try dsimp only
    first | refine kasC_t rfl ?_ | rw [if_pos rfl]
    refine kasC_bind (qelem (y4 hy) ?_)
    try dsimp only
    rw [z27]
    have M1:=m'.takeV sv hy (rf y) (fun z hz=>by obtain⟨j,a1,a2⟩:=inU hz;exact od.tr _ _ _ (od.as _ _ e) (upu hx1 a1 a2))
    by_cases z3:ib' + 1=v.length
    ·first | refine kasC_t (by simp [z3]) ?_ | rw [if_pos (by simp [z3])]
     exact kasC_pure ⟨rfl,rfl,.inr ⟨_,by rw [z7,z7],fin1 M1 z3 (by omega)⟩⟩
    ·first | refine kasC_f (by simp [z3]) ?_ | rw [if_neg (by simp [z3])]
     split
     ·exact kasC_pure ⟨rfl,rfl,.inl ⟨rfl,⟨_,rfl,M1,by dsimp only;omega,by dsimp only;omega⟩,by dsimp only;omega⟩⟩
     ·exact kasC_pure ⟨rfl,rfl,⟨_,rfl,M1,by dsimp only;omega,by dsimp only;omega⟩,by dsimp only;omega,rfl⟩
   | false=>
    try dsimp only
    first | refine kasC_f (by decide) ?_ | rw [if_neg (by decide)]
    refine kasC_bind (qelem (y4 hx1) ?_)
    try dsimp only
    rw [z27]
    have M1:=m'.takeU su hx1 (rf x1) (fun z hz=>by obtain⟨j,a1,a2⟩:=inV hz;exact od.tr _ _ _ e (upv hy a1 a2))
    by_cases z3:ia' + 1 + 1=u.length
    ·first | refine kasC_t (by simp [z3]) ?_ | rw [if_pos (by simp [z3])]
     exact kasC_pure ⟨rfl,rfl,.inr ⟨_,by rw [z7,z7],fin2 M1 (by omega) z3⟩⟩
    ·first | refine kasC_f (by simp [z3]) ?_ | rw [if_neg (by simp [z3])]
     split
     ·exact kasC_pure ⟨rfl,rfl,.inl ⟨rfl,⟨_,rfl,M1,by dsimp only;omega,by dsimp only;omega⟩,by dsimp only;omega⟩⟩
     ·exact kasC_pure ⟨rfl,rfl,⟨_,rfl,M1,by dsimp only;omega,by dsimp only;omega⟩,by dsimp only;omega,rfl⟩
  ·refine pr6 ?_
   rintro r out ia' ib' ac bc st' ⟨rfl,mid,hp',rfl⟩
   refine⟨rfl,.inl ⟨rfl,mid,?_⟩⟩
   dsimp only at hp' ⊢
   rw [v3,v3] at hp'
   omega
  ·refine pr6 ?_
   rintro r out ia' ib' ac bc st' ⟨rfl,hh⟩
   rcases hh with ⟨rfl,⟨o',rfl,m',h1',h2'⟩,hp'⟩ | ⟨l,rfl,ml⟩
   ·dsimp only at m' h1' h2' hp' ⊢
    refine kasC_bind (kasC_lift (wpAny_rule ?_))
    refine kasC_bind (z16 (fun t' c st'=>c.1=none∧Mid lt u v it c.2.1 c.2.2.1 c.2.2.2.1∧ia + ib + 1≤c.2.2.1 + c.2.2.2.1∧∃ g,st'=setG st g) (fun c st'=>(∃ g,st'=setG st g)∧((c.1=none∧Mid lt u v it c.2.1 c.2.2.1 c.2.2.2.1∧ia + ib + 1≤c.2.2.1 + c.2.2.2.1)∨Res lt u v it c.1)) ⟨rfl,⟨_,rfl,m',h1',h2'⟩,by dsimp only;omega,_,rfl⟩ ?_ ?_ ?_)
    ·intro t' x
     refine st7 (hp:=fun p q=>ia + ib + 1≤p + q) ?_
     intro ia ib ac bc o g1 ht' m h1 h2 hp
     dsimp only at hp ⊢
     obtain⟨y,hy,yn⟩:=getV h2
     refine key7 (fun n h p=>kasC_f h p) (fun n h p=>kasC_t h p) ?_
     intro mg2
     refine kasC_bind (qset ?_)
     refine kasC_bind (qelem (y4 hy) (kasC_bind (z66 (g:=fun i=>u.getD (ia + i) 0) hc hk (fun i hi=>?_) (fun i hi=>?_) yn (fun i j hij hj hb=>?_) (by rw [v3];omega) fun k kl kt kf=>?_)))
     ·rw [v3] at hi
      obtain⟨t',ht',_⟩:=getU (i:=ia + i) (by omega)
      rw [y4 ht',List.getD_eq_getElem?_getD,ht']
      rfl
     ·rw [v3] at hi
      obtain⟨t',ht',tn'⟩:=getU (i:=ia + i) (by omega)
      rw [List.getD_eq_getElem?_getD,ht']
      exact tn'
     ·rw [v3] at hj
      obtain⟨ti,hti,_⟩:=getU (i:=ia + i) (by omega)
      obtain⟨tj,htj,_⟩:=getU (i:=ia + j) (by omega)
      simp only [byG,Bool.false_eq_true,if_false,List.getD_eq_getElem?_getD,hti,htj,Option.getD_some,Bool.not_eq_true'] at hb ⊢
      exact od.tr _ _ _ (upu hti (by omega) htj) hb
     rw [v3] at kl kf
     have gu:∀ {a b z:Nat},a=b→u[b]?=some z→u.getD a 0=z:=fun{a b z} e1 e2=>by rw [e1,List.getD_eq_getElem?_getD,e2];rfl
     simp only [byG,Bool.false_eq_true,if_false,Bool.not_eq_true',Bool.not_eq_false'] at kt kf
     have kl2:ia + k + 1≤u.length:=by
      by_cases z:ia + k + 1≤u.length
      ·exact z
      ·have:=kt (u.length - 1 - ia) (by omega)
       rw [gu (show ia + (u.length - 1 - ia)=u.length - 1 by omega) hxl,last y (List.mem_of_getElem? hy) xl hxl] at this
       cases this
     try dsimp only
     by_cases zk:k > 0
     ·first | refine kasC_t zk ?_ | rw [if_pos zk]
      rw [z364,Nat.add_sub_cancel_left]
      have MO:=MI.takeUs su rf k m (by omega) (fun i h1 h2 x' hx' z hz=>by
       obtain⟨j,a1,a2⟩:=inV hz
       have:=kt (i - ia) (by omega)
       rw [gu (show ia + (i - ia)=i by omega) hx'] at this
       exact od.tr _ _ _ this (upv hy a1 a2))
      by_cases z1:ia + k + 1=u.length
      ·first | refine kasC_t (by simp [z1]) ?_ | rw [if_pos (by simp [z1])]
       exact kasC_pure ⟨rfl,⟨_,rfl⟩,.inr ⟨_,by rw [z7,z7],fin2 MO (by omega) z1⟩⟩
      ·first | refine kasC_f (by simp [z1]) ?_ | rw [if_neg (by simp [z1])]
       first | refine kasC_f (by simp;omega) ?_ | rw [if_neg (by simp;omega)]
       have lessU:∀ z∈u.drop (ia + k),lt y z=true:=fun z hz=>by
        obtain⟨j,a1,a2⟩:=inU hz
        have:=kf (j - ia) (by omega) (by have:=(List.getElem?_eq_some_iff.mp a2).1;omega)
        rw [gu (show ia + (j - ia)=j by omega) a2] at this
        exact this
       refine kasC_bind (qelem (y4 hy) ?_)
       try dsimp only
       rw [z27]
       have M2:=MO.takeV sv hy (rf y) (fun z hz=>od.as _ _ (lessU z hz))
       by_cases z2:ib + 1=v.length
       ·first | refine kasC_t (by simp [z2]) ?_ | rw [if_pos (by simp [z2])]
        exact kasC_pure ⟨rfl,⟨_,rfl⟩,.inr ⟨_,by rw [z7,z7],fin1 M2 z2 (by omega)⟩⟩
       ·first | refine kasC_f (by simp [z2]) ?_ | rw [if_neg (by simp [z2])]
        obtain⟨x1,hx1,xn1⟩:=getU (i:=(ia + k)) (by omega)
        refine kasC_bind (qelem (y4 hx1) (kasC_bind (z66 (g:=fun i=>v.getD (ib + 1 + i) 0) hc hk (fun i hi=>?_) (fun i hi=>?_) xn1 (fun i j hij hj hb=>?_) (by rw [v3];omega) fun k2 k2l kt kf=>?_)))
        ·rw [v3] at hi
         obtain⟨t',ht',_⟩:=getV (i:=ib + 1 + i) (by omega)
         rw [y4 ht',List.getD_eq_getElem?_getD,ht']
         rfl
        ·rw [v3] at hi
         obtain⟨t',ht',tn'⟩:=getV (i:=ib + 1 + i) (by omega)
         rw [List.getD_eq_getElem?_getD,ht']
         exact tn'
        ·rw [v3] at hj
         obtain⟨ti,hti,_⟩:=getV (i:=ib + 1 + i) (by omega)
         obtain⟨tj,htj,_⟩:=getV (i:=ib + 1 + j) (by omega)
         simp only [byG,if_true,List.getD_eq_getElem?_getD,hti,htj,Option.getD_some] at hb ⊢
         cases e:lt ti x1 with
         | true=>rfl
         | false=>rw [od.tr _ _ _ e (upv hti (by omega) htj)] at hb;cases hb
        rw [v3] at k2l kf
        have gv:∀ {a b z:Nat},a=b→v[b]?=some z→v.getD a 0=z:=fun{a b z} e1 e2=>by rw [e1,List.getD_eq_getElem?_getD,e2];rfl
        simp only [byG,if_true] at kt kf
        try dsimp only
        by_cases z3:k2 > 0
        ·first | refine kasC_t z3 ?_ | rw [if_pos z3]
         rw [z364,Nat.add_sub_cancel_left]
         have M3:=MI.takeVs sv rf k2 M2 (by omega) (fun i h1 h2 x' hx' z hz=>by
          obtain⟨j,a1,a2⟩:=inU hz
          have:=kt (i - (ib + 1)) (by omega)
          rw [gv (show ib + 1 + (i - (ib + 1))=i by omega) hx'] at this
          exact od.tr _ _ _ (od.as _ _ this) (upu hx1 a1 a2))
         by_cases z5:ib + 1 + k2=v.length
         ·first | refine kasC_t (by simp [z5]) ?_ | rw [if_pos (by simp [z5])]
          exact kasC_pure ⟨rfl,⟨_,rfl⟩,.inr ⟨_,by rw [z7,z7],fin1 M3 z5 (by omega)⟩⟩
         ·first | refine kasC_f (by simp [z5]) ?_ | rw [if_neg (by simp [z5])]
          refine kasC_bind (qelem (y4 hx1) ?_)
          try dsimp only
          rw [z27]
          have M4:=M3.takeU su hx1 (rf x1) (by
           intro z hz
           obtain⟨j,a1,a2⟩:=inV hz
           have:=kf (j - (ib + 1)) (by omega) (by have:=(List.getElem?_eq_some_iff.mp a2).1;omega)
           rw [gv (show ib + 1 + (j - (ib + 1))=j by omega) a2] at this
           exact this)
          by_cases z4:(ia + k) + 1 + 1=u.length
          ·first | refine kasC_t (by simp [z4]) ?_ | rw [if_pos (by simp [z4])]
           exact kasC_pure ⟨rfl,⟨_,rfl⟩,.inr ⟨_,by rw [z7,z7],fin2 M4 (by omega) z4⟩⟩
          ·first | refine kasC_f (by simp [z4]) ?_ | rw [if_neg (by simp [z4])]
           split
           ·exact kasC_pure ⟨rfl,⟨_,rfl⟩,.inl ⟨rfl,⟨_,rfl,M4,by dsimp only;omega,by dsimp only;omega⟩,by dsimp only;omega⟩⟩
           ·exact kasC_pure ⟨rfl,rfl,⟨_,rfl,M4,by dsimp only;omega,by dsimp only;omega⟩,by dsimp only;omega,_,rfl⟩
        ·first | refine kasC_f z3 ?_ | rw [if_neg z3]
         obtain rfl:k2=0:=by omega
         refine kasC_bind (qelem (y4 hx1) ?_)
         try dsimp only
         rw [z27]
         have M4:=M2.takeU su hx1 (rf x1) (by
          intro z hz
          obtain⟨j,a1,a2⟩:=inV hz
          have:=kf (j - (ib + 1)) (by omega) (by have:=(List.getElem?_eq_some_iff.mp a2).1;omega)
          rw [gv (show ib + 1 + (j - (ib + 1))=j by omega) a2] at this
          exact this)
         by_cases z4:(ia + k) + 1 + 1=u.length
         ·first | refine kasC_t (by simp [z4]) ?_ | rw [if_pos (by simp [z4])]
          exact kasC_pure ⟨rfl,⟨_,rfl⟩,.inr ⟨_,by rw [z7,z7],fin2 M4 (by omega) z4⟩⟩
         ·first | refine kasC_f (by simp [z4]) ?_ | rw [if_neg (by simp [z4])]
          split
          ·exact kasC_pure ⟨rfl,⟨_,rfl⟩,.inl ⟨rfl,⟨_,rfl,M4,by dsimp only;omega,by dsimp only;omega⟩,by dsimp only;omega⟩⟩
          ·exact kasC_pure ⟨rfl,rfl,⟨_,rfl,M4,by dsimp only;omega,by dsimp only;omega⟩,by dsimp only;omega,_,rfl⟩
     ·first | refine kasC_f zk ?_ | rw [if_neg zk]
      obtain rfl:k=0:=by omega
      have MO:=m
      have lessU:∀ z∈u.drop ia,lt y z=true:=fun z hz=>by
       obtain⟨j,a1,a2⟩:=inU hz
       have:=kf (j - ia) (by omega) (by have:=(List.getElem?_eq_some_iff.mp a2).1;omega)
       rw [gu (show ia + (j - ia)=j by omega) a2] at this
       exact this
      refine kasC_bind (qelem (y4 hy) ?_)
      try dsimp only
      rw [z27]
      have M2:=MO.takeV sv hy (rf y) (fun z hz=>od.as _ _ (lessU z hz))
      by_cases z2:ib + 1=v.length
      ·first | refine kasC_t (by simp [z2]) ?_ | rw [if_pos (by simp [z2])]
       exact kasC_pure ⟨rfl,⟨_,rfl⟩,.inr ⟨_,by rw [z7,z7],fin1 M2 z2 (by omega)⟩⟩
      ·first | refine kasC_f (by simp [z2]) ?_ | rw [if_neg (by simp [z2])]
       obtain⟨x1,hx1,xn1⟩:=getU (i:=ia) (by omega)
       refine kasC_bind (qelem (y4 hx1) (kasC_bind (z66 (g:=fun i=>v.getD (ib + 1 + i) 0) hc hk (fun i hi=>?_) (fun i hi=>?_) xn1 (fun i j hij hj hb=>?_) (by rw [v3];omega) fun k2 k2l kt kf=>?_)))
       ·rw [v3] at hi
        obtain⟨t',ht',_⟩:=getV (i:=ib + 1 + i) (by omega)
        rw [y4 ht',List.getD_eq_getElem?_getD,ht']
        rfl
       ·rw [v3] at hi
        obtain⟨t',ht',tn'⟩:=getV (i:=ib + 1 + i) (by omega)
        rw [List.getD_eq_getElem?_getD,ht']
        exact tn'
       ·rw [v3] at hj
        obtain⟨ti,hti,_⟩:=getV (i:=ib + 1 + i) (by omega)
        obtain⟨tj,htj,_⟩:=getV (i:=ib + 1 + j) (by omega)
        simp only [byG,if_true,List.getD_eq_getElem?_getD,hti,htj,Option.getD_some] at hb ⊢
        cases e:lt ti x1 with
        | true=>rfl
        | false=>rw [od.tr _ _ _ e (upv hti (by omega) htj)] at hb;cases hb
       rw [v3] at k2l kf
       have gv:∀ {a b z:Nat},a=b→v[b]?=some z→v.getD a 0=z:=fun{a b z} e1 e2=>by rw [e1,List.getD_eq_getElem?_getD,e2];rfl
       simp only [byG,if_true] at kt kf
       try dsimp only
       by_cases z3:k2 > 0
       ·first | refine kasC_t z3 ?_ | rw [if_pos z3]
        rw [z364,Nat.add_sub_cancel_left]
        have M3:=MI.takeVs sv rf k2 M2 (by omega) (fun i h1 h2 x' hx' z hz=>by
         obtain⟨j,a1,a2⟩:=inU hz
         have:=kt (i - (ib + 1)) (by omega)
         rw [gv (show ib + 1 + (i - (ib + 1))=i by omega) hx'] at this
         exact od.tr _ _ _ (od.as _ _ this) (upu hx1 a1 a2))
        by_cases z5:ib + 1 + k2=v.length
        ·first | refine kasC_t (by simp [z5]) ?_ | rw [if_pos (by simp [z5])]
         exact kasC_pure ⟨rfl,⟨_,rfl⟩,.inr ⟨_,by rw [z7,z7],fin1 M3 z5 (by omega)⟩⟩
        ·first | refine kasC_f (by simp [z5]) ?_ | rw [if_neg (by simp [z5])]
         refine kasC_bind (qelem (y4 hx1) ?_)
         try dsimp only
         rw [z27]
         have M4:=M3.takeU su hx1 (rf x1) (by
          intro z hz
          obtain⟨j,a1,a2⟩:=inV hz
          have:=kf (j - (ib + 1)) (by omega) (by have:=(List.getElem?_eq_some_iff.mp a2).1;omega)
          rw [gv (show ib + 1 + (j - (ib + 1))=j by omega) a2] at this
          exact this)
         by_cases z4:ia + 1 + 1=u.length
         ·first | refine kasC_t (by simp [z4]) ?_ | rw [if_pos (by simp [z4])]
          exact kasC_pure ⟨rfl,⟨_,rfl⟩,.inr ⟨_,by rw [z7,z7],fin2 M4 (by omega) z4⟩⟩
         ·first | refine kasC_f (by simp [z4]) ?_ | rw [if_neg (by simp [z4])]
          split
          ·exact kasC_pure ⟨rfl,⟨_,rfl⟩,.inl ⟨rfl,⟨_,rfl,M4,by dsimp only;omega,by dsimp only;omega⟩,by dsimp only;omega⟩⟩
          ·exact kasC_pure ⟨rfl,rfl,⟨_,rfl,M4,by dsimp only;omega,by dsimp only;omega⟩,by dsimp only;omega,_,rfl⟩
       ·first | refine kasC_f z3 ?_ | rw [if_neg z3]
        obtain rfl:k2=0:=by omega
        refine kasC_bind (qelem (y4 hx1) ?_)
        try dsimp only
        rw [z27]
        have M4:=M2.takeU su hx1 (rf x1) (by
         intro z hz
         obtain⟨j,a1,a2⟩:=inV hz
         have:=kf (j - (ib + 1)) (by omega) (by have:=(List.getElem?_eq_some_iff.mp a2).1;omega)
         rw [gv (show ib + 1 + (j - (ib + 1))=j by omega) a2] at this
         exact this)
        by_cases z4:ia + 1 + 1=u.length
        ·first | refine kasC_t (by simp [z4]) ?_ | rw [if_pos (by simp [z4])]
         exact kasC_pure ⟨rfl,⟨_,rfl⟩,.inr ⟨_,by rw [z7,z7],fin2 M4 (by omega) z4⟩⟩
        ·first | refine kasC_f (by simp [z4]) ?_ | rw [if_neg (by simp [z4])]
         split
         ·exact kasC_pure ⟨rfl,⟨_,rfl⟩,.inl ⟨rfl,⟨_,rfl,M4,by dsimp only;omega,by dsimp only;omega⟩,by dsimp only;omega⟩⟩
         ·exact kasC_pure ⟨rfl,rfl,⟨_,rfl,M4,by dsimp only;omega,by dsimp only;omega⟩,by dsimp only;omega,_,rfl⟩
    ·refine pr7 ?_
     rintro r out ia' ib' mg' ac bc st' ⟨rfl,mid,hp',g1,rfl⟩
     exact⟨⟨g1,rfl⟩,.inl ⟨rfl,mid,hp'⟩⟩
    ·refine pr7 ?_
     rintro r out ia' ib' mg' ac bc st' ⟨⟨g1,rfl⟩,hh⟩
     rcases hh with ⟨rfl,mid,hp'⟩ | ⟨l,rfl,ml⟩
     ·dsimp only at mid hp' ⊢
      refine kasC_bind (qset (kasC_pure ⟨rfl,rfl,mid,?_,_,rfl⟩))
      try dsimp only
      omega
     ·exact kasC_pure ⟨rfl,⟨g1,rfl⟩,l,rfl,ml⟩
   ·exact kasC_pure ⟨rfl,⟨g0,rfl⟩,l,rfl,ml⟩
 ·refine pr5 ?_
  rintro r out ia ib mg st' ⟨rfl,⟨o,rfl,m,h1,h2⟩,hp,g0,rfl⟩
  dsimp only at m h1 h2 hp
  rw [v3,v3] at hp
  omega
 ·refine pr5 ?_
  rintro r out ia ib mg st' ⟨⟨g0,rfl⟩,l,rfl,ml⟩
  exact kasC_pure (q l g0 ml)
end
end L2
set_option Elab.async false
set_option linter.all false
set_option maxRecDepth 100000
namespace L2
open PySem PySem.Spec PyProof.Rows PySem.W
def z478:Array Keyed→Array Keyed→StateT SortSt Sem (Array Keyed):=sortPriv% PySem.Builtin.mergeHi
section
variable {it:Array Keyed}{o l p:List Nat}
theorem z563 {i:Nat}(h0:0 < i) (h1:i≤l.length):l.reverse[l.length - i]?=l[i - 1]?:=by
 rw [List.getElem?_reverse (by omega)]
 congr 1
 omega
theorem z570 {a i:Nat}(h0:a≤i) (h1:i≤l.length):(l.reverse.drop (l.length - i)).take (i - a)=((l.drop a).take (i - a)).reverse:=by
 rw [List.drop_reverse,List.take_reverse,List.length_take,List.drop_take,show l.length - (l.length - i)=i by omega,show min i l.length - (i - a)=a by omega]
theorem z175 {i:Nat}(h1:i≤l.length):l.reverse.drop (l.length - i)=(l.take i).reverse:=by
 rw [List.drop_reverse,show l.length - (l.length - i)=i by omega]
theorem z362 {a i:Nat}:its it o++((its it l).extract a i).reverse=its it (o++((l.drop a).take (i - a)).reverse):=by simp [its,List.map_take,List.map_drop]
theorem z40 {i j:Nat}:(its it l).extract 0 i++(its it p).extract 0 j++(its it o).reverse=its it (l.take i++p.take j++o.reverse):=by simp [its,List.map_take]
end
def gtr (lt:Nat→Nat→Bool) (x y:Nat):Bool:=lt y x
theorem Ord.flip {lt:Nat→Nat→Bool}(o:Ord lt):Ord (gtr lt):=⟨fun i j k h1 h2=>o.tr k j i h2 h1,fun i j h=>o.as j i h⟩
theorem Srt.rev {lt:Nat→Nat→Bool}{l:List Nat}(h:Srt lt l):Srt (gtr lt) l.reverse:=List.pairwise_reverse.mpr h
theorem Merged.rev {lt:Nat→Nat→Bool}{u v r:List Nat}(h:Merged (gtr lt) v.reverse u.reverse r):Merged lt u v r.reverse:=by
 refine⟨?_,List.pairwise_reverse.mpr h.2⟩
 refine(List.reverse_perm r).trans (h.1.trans ?_)
 rw [← List.reverse_append]
 exact List.reverse_perm _
section
variable {prog:Program}{w:World}{A:Around}{E:Value→Shared→Prop}{κ:SortKind}{it:Array Keyed}{n:Nat}{lt:Nat→Nat→Bool}{s:Shared}{st:SortSt}
def MidR (lt:Nat→Nat→Bool) (u v:List Nat) (it:Array Keyed) (out:Array Keyed) (na nb:Nat):Prop:=∃ o,out=its it o∧MI (gtr lt) v.reverse u.reverse o (v.length - nb) (u.length - na)∧0 < na∧1 < nb∧na≤u.length∧nb≤v.length
theorem sr5 {u v:List Nat}{T:Prop}{hp:Nat→Nat→Prop}{G:Option (Array Keyed) × Nat × Nat × Array Keyed × Nat→SortSt→Prop} (k:∀ na nb mg o g,T→MI (gtr lt) v.reverse u.reverse o (v.length - nb) (u.length - na)→0 < na→1 < nb→na≤u.length→nb≤v.length→hp na nb→G (none,na,nb,its it o,mg) (setG st g)):∀ c st',T→(c.1=none∧MidR lt u v it c.2.2.2.1 c.2.1 c.2.2.1∧hp c.2.1 c.2.2.1∧∃ g,st'=setG st g)→G c st':=by
 rintro⟨r,na,nb,out,mg⟩ st' ht ⟨rfl,⟨o,rfl,m,h1,h2,h3,h4⟩,h,g,rfl⟩
 exact k na nb mg o g ht m h1 h2 h3 h4 h
theorem sr6 {u v:List Nat}{T:Prop}{hp:Nat→Nat→Prop}{s0:SortSt}{G:Option (Array Keyed) × Nat × Nat × Array Keyed × Nat × Nat→SortSt→Prop} (k:∀ na nb ac bc o,T→MI (gtr lt) v.reverse u.reverse o (v.length - nb) (u.length - na)→0 < na→1 < nb→na≤u.length→nb≤v.length→hp na nb→G (none,na,nb,its it o,ac,bc) s0):∀ c st',T→(c.1=none∧MidR lt u v it c.2.2.2.1 c.2.1 c.2.2.1∧hp c.2.1 c.2.2.1∧st'=s0)→G c st':=by
 rintro⟨r,na,nb,out,ac,bc⟩ st' ht ⟨rfl,⟨o,rfl,m,h1,h2,h3,h4⟩,h,rfl⟩
 exact k na nb ac bc o ht m h1 h2 h3 h4 h
theorem sr7 {u v:List Nat}{T:Prop}{hp:Nat→Nat→Prop}{G:Option (Array Keyed) × Nat × Nat × Array Keyed × Nat × Nat × Nat→SortSt→Prop} (k:∀ na nb ac bc o g,T→MI (gtr lt) v.reverse u.reverse o (v.length - nb) (u.length - na)→0 < na→1 < nb→na≤u.length→nb≤v.length→hp na nb→∀ mg,G (none,na,nb,its it o,mg,ac,bc) (setG st g)):∀ c st',T→(c.1=none∧MidR lt u v it c.2.2.2.1 c.2.1 c.2.2.1∧hp c.2.1 c.2.2.1∧∃ g,st'=setG st g)→G c st':=by
 rintro⟨r,na,nb,out,mg,ac,bc⟩ st' ht ⟨rfl,⟨o,rfl,m,h1,h2,h3,h4⟩,h,g,rfl⟩
 exact k na nb ac bc o g ht m h1 h2 h3 h4 h mg
theorem z441 {u v:List Nat}{Q:Array Keyed→SortSt→Shared→Prop}(hc:Asks n lt (kas_cmp prog w A κ it) s) (od:Ord lt) (hk:kindOf st=κ) (hu:∀ x∈u,x < n) (hv:∀ x∈v,x < n) (su:Srt lt u) (sv:Srt lt v) (u1:0 < u.length) (v1:0 < v.length)
  (first:∀ y,v[0]?=some y→∀ x∈u,lt y x=true) (last:∀ y∈v,∀ x,u[u.length - 1]?=some x→lt y x=true) (q:∀ r g,Merged lt u v r→Q (its it r) (setG st g) s):kasC (model prog w) A E (z478 (its it u) (its it v)) Q st s:=by
 have rf:=od.rf
 have fo:=od.flip
 have rf':∀ x,gtr lt x x=false:=rf
 have su':=su.rev
 have sv':=sv.rev
 obtain⟨y0,hy0⟩:∃ y,v[0]?=some y:=⟨_,List.getElem?_eq_getElem v1⟩
 obtain⟨yl,hyl⟩:∃ y,v[v.length - 1]?=some y:=⟨_,List.getElem?_eq_getElem (by omega)⟩
 obtain⟨xl,hxl⟩:∃ x,u[u.length - 1]?=some x:=⟨_,List.getElem?_eq_getElem (by omega)⟩
 have upu:∀ {i j x z},u[i]?=some x→i≤j→u[j]?=some z→lt z x=false:=fun{i j x z} hx hij hz=>
  su.head hx (rf x) z (List.mem_of_getElem? (i:=j - i) (by rw [List.getElem?_drop,show i + (j - i)=j by omega];exact hz))
 have upv:∀ {i j x z},v[i]?=some x→i≤j→v[j]?=some z→lt z x=false:=fun{i j x z} hx hij hz=>
  sv.head hx (rf x) z (List.mem_of_getElem? (i:=j - i) (by rw [List.getElem?_drop,show i + (j - i)=j by omega];exact hz))
 have inU:∀ {i:Nat}{z},i≤u.length→z∈u.reverse.drop (u.length - i)→∃ j,j < i∧u[j]?=some z:=fun{i z} hi hz=>by
  rw [z175 hi] at hz
  obtain⟨j,hj⟩:=List.mem_iff_getElem?.mp (List.mem_reverse.mp hz)
  rw [List.getElem?_take] at hj
  split at hj
  ·exact⟨j,by assumption,hj⟩
  ·cases hj
 have inV:∀ {i:Nat}{z},i≤v.length→z∈v.reverse.drop (v.length - i)→∃ j,j < i∧v[j]?=some z:=fun{i z} hi hz=>by
  rw [z175 hi] at hz
  obtain⟨j,hj⟩:=List.mem_iff_getElem?.mp (List.mem_reverse.mp hz)
  rw [List.getElem?_take] at hj
  split at hj
  ·exact⟨j,by assumption,hj⟩
  ·cases hj
 have getU:∀ {i},i < u.length→∃ x,u[i]?=some x∧x < n:=fun{i} hi=>⟨u[i],List.getElem?_eq_getElem hi,hu _ (List.getElem_mem hi)⟩
 have getV:∀ {i},i < v.length→∃ x,v[i]?=some x∧x < n:=fun{i} hi=>⟨v[i],List.getElem?_eq_getElem hi,hv _ (List.getElem_mem hi)⟩
 have tkU:∀ {o na nb x},MI (gtr lt) v.reverse u.reverse o (v.length - nb) (u.length - na)→0 < na→na≤u.length→nb≤v.length→u[na - 1]?=some x→(∀ j z,j < nb→v[j]?=some z→lt x z=false)→MI (gtr lt) v.reverse u.reverse (o++[x]) (v.length - nb) (u.length - (na - 1)):=fun{o na nb x} m h1 h2 h3 hx h=>by
  rw [show u.length - (na - 1)=u.length - na + 1 by omega]
  refine m.takeV su' (by rw [z563 h1 h2];exact hx) (rf' x) fun z hz=>?_
  obtain⟨j,a1,a2⟩:=inV h3 hz
  exact h j z a1 a2
 have tkV:∀ {o na nb y},MI (gtr lt) v.reverse u.reverse o (v.length - nb) (u.length - na)→0 < nb→nb≤v.length→na≤u.length→v[nb - 1]?=some y→(∀ j z,j < na→u[j]?=some z→lt y z=false)→MI (gtr lt) v.reverse u.reverse (o++[y]) (v.length - (nb - 1)) (u.length - na):=fun{o na nb y} m h1 h2 h3 hy h=>by
  rw [show v.length - (nb - 1)=v.length - nb + 1 by omega]
  refine m.takeU sv' (by rw [z563 h1 h2];exact hy) (rf' y) fun z hz=>?_
  obtain⟨j,a1,a2⟩:=inU h3 hz
  exact h j z a1 a2
 have tkUs:∀ {o na nb a},MI (gtr lt) v.reverse u.reverse o (v.length - nb) (u.length - na)→a≤na→na≤u.length→nb≤v.length→(∀ i x,a≤i→i < na→u[i]?=some x→∀ j z,j < nb→v[j]?=some z→lt x z=false)→MI (gtr lt) v.reverse u.reverse (o++((u.drop a).take (na - a)).reverse) (v.length - nb) (u.length - a):=fun{o na nb a} m h1 h2 h3 h=>by
  rw [← z570 h1 h2,show u.length - a=u.length - na + (na - a) by omega]
  refine MI.takeVs su' rf' (na - a) m (by rw [List.length_reverse];omega) fun i g1 g2 x hx z hz=>?_
  obtain⟨j,a1,a2⟩:=inV h3 hz
  rw [List.getElem?_reverse (by omega)] at hx
  exact h _ x (by omega) (by omega) hx j z a1 a2
 have tkVs:∀ {o na nb a},MI (gtr lt) v.reverse u.reverse o (v.length - nb) (u.length - na)→a≤nb→nb≤v.length→na≤u.length→(∀ i x,a≤i→i < nb→v[i]?=some x→∀ j z,j < na→u[j]?=some z→lt x z=false)→MI (gtr lt) v.reverse u.reverse (o++((v.drop a).take (nb - a)).reverse) (v.length - a) (u.length - na):=fun{o na nb a} m h1 h2 h3 h=>by
  rw [← z570 h1 h2,show v.length - a=v.length - nb + (nb - a) by omega]
  refine MI.takeUs sv' rf' (nb - a) m (by rw [List.length_reverse];omega) fun i g1 g2 x hx z hz=>?_
  obtain⟨j,a1,a2⟩:=inU h3 hz
  rw [List.getElem?_reverse (by omega)] at hx
  exact h _ x (by omega) (by omega) hx j z a1 a2
 have fin1:∀ {o na nb},MI (gtr lt) v.reverse u.reverse o (v.length - nb) (u.length - na)→na=0→nb≤v.length→Merged lt u v (u.take na++v.take nb++o.reverse):=fun{o na nb} m h1 h2=>by
  have:=(m.finU sv' rf' (by rw [List.length_reverse];omega) (by rw [List.length_reverse];omega)).rev
  rw [z175 h2,z175 (by omega),h1] at this
  simpa [h1] using this
 have fin2:∀ {o na nb},MI (gtr lt) v.reverse u.reverse o (v.length - nb) (u.length - na)→nb=1→na≤u.length→Merged lt u v (v.take nb++u.take na++o.reverse):=fun{o na nb} m h1 h2=>by
  have:=(m.finV sv' su' rf' (by rw [List.length_reverse];omega) (by rw [List.length_reverse];omega) (fun x hx z hz=>by
   obtain⟨j,a1,a2⟩:=inU h2 hx
   obtain⟨i,b1,b2⟩:=inV (by omega) hz
   obtain rfl:i=0:=by omega
   exact od.as _ _ (first z b2 x (List.mem_of_getElem? a2)))).rev
  rw [z175 h2,z175 (by omega)] at this
  simpa using this
 have m0:MI (gtr lt) v.reverse u.reverse [xl] (v.length - v.length) (u.length - (u.length - 1)):=by
  have:MI (gtr lt) v.reverse u.reverse [] (v.length - v.length) (u.length - u.length):=⟨by simp,List.Pairwise.nil,fun x hx=>(by cases hx),fun x hx=>(by cases hx)⟩
  exact tkU this u1 (Nat.le_refl _) (Nat.le_refl _) hxl fun j z _ hz=>od.as _ _ (last z (List.mem_of_getElem? hz) xl hxl)
 unfold z478
 k_delta "mergeHi"
 refine kasC_bind (kasC_lift (wpAny_rule ?_))
 try dsimp only
 rw [v3]
 refine kasC_bind (qelem (y4 hxl) ?_)
 try dsimp only
 rw [show (#[kas_item it xl]:Array Keyed)=its it [xl] from rfl]
 by_cases z1:u.length - 1=0
 ·first | refine kasC_t (by simp [z1]) ?_ | rw [if_pos (by simp [z1])]
  rw [v3,z40]
  exact kasC_pure (q _ (gallopOf st) (fin1 m0 z1 (Nat.le_refl _)))
 first | refine kasC_f (by simp [z1]) ?_ | rw [if_neg (by simp [z1])]
 by_cases z2:v.length=1
 ·first | refine kasC_t (by simp [z2]) ?_ | rw [if_pos (by simp [z2])]
  rw [v3,z40]
  exact kasC_pure (q _ (gallopOf st) (fin2 m0 z2 (by omega)))
 first | refine kasC_f (by simp [z2]) ?_ | rw [if_neg (by simp [z2])]
 refine kasC_bind (kasC_get ?_)
 refine kasC_bind (z16 (fun t c st'=>c.1=none∧MidR lt u v it c.2.2.2.1 c.2.1 c.2.2.1∧c.2.1 + c.2.2.1 + t + 1≤u.length + v.length∧∃ g,st'=setG st g) (fun c st'=>(∃ g,st'=setG st g)∧Res lt u v it c.1) ⟨rfl,⟨_,rfl,by dsimp only;rw [v3];exact m0,by dsimp only;omega,by dsimp only;rw [v3];omega,by dsimp only;omega,by dsimp only;rw [v3];exact Nat.le_refl _⟩,by dsimp only;rw [v3];omega,gallopOf st,rfl⟩ ?_ ?_ ?_)
 ·intro t x
  refine sr5 (hp:=fun p q=>p + q + t + 1≤u.length + v.length) ?_
  intro na nb mg o g0 ht m h1 h2 h3 h4 hp
  dsimp only at hp ⊢
  refine kasC_bind (z16 (fun t' c st'=>c.1=none∧MidR lt u v it c.2.2.2.1 c.2.1 c.2.2.1∧c.2.1 + c.2.2.1 + t'≤na + nb∧st'=setG st g0) (fun c st'=>st'=setG st g0∧((c.1=none∧MidR lt u v it c.2.2.2.1 c.2.1 c.2.2.1∧c.2.1 + c.2.2.1 + 1≤na + nb)∨Res lt u v it c.1)) ⟨rfl,⟨_,rfl,m,h1,h2,h3,h4⟩,by dsimp only;omega,rfl⟩ ?_ ?_ ?_)
  ·intro t' x
   refine sr6 (hp:=fun p q=>p + q + t'≤na + nb) ?_
   intro na' nb' ac bc o' ht' m' h1' h2' h3' h4' hp'
   dsimp only at hp' ⊢
   obtain⟨y,hy,yn⟩:=getV (i:=nb' - 1) (by omega)
   obtain⟨x1,hx1,xn1⟩:=getU (i:=na' - 1) (by omega)
   refine kasC_bind (qelem (y4 hy) (kasC_bind (qelem (y4 hx1) (kasC_bind (qlt hc hk yn xn1 ?_)))))
   cases e:lt y x1 with
   | true=>
    try dsimp only
    first | refine kasC_t rfl ?_ | rw [if_pos rfl]
    refine kasC_bind (qelem (y4 hx1) ?_)
    try dsimp only
    rw [z27]
    have M1:=tkU m' (by omega) (by omega) (by omega) hx1 (fun j z hj hz=>od.tr _ _ _ (upv hz (by omega) hy) (od.as _ _ e))
    by_cases z3:na' - 1=0
    ·first | refine kasC_t (by simp [z3]) ?_ | rw [if_pos (by simp [z3])]
     rw [z40]
     exact kasC_pure ⟨rfl,rfl,.inr ⟨_,rfl,fin1 M1 z3 (by omega)⟩⟩
    ·first | refine kasC_f (by simp [z3]) ?_ | rw [if_neg (by simp [z3])]
     split
     ·exact kasC_pure ⟨rfl,rfl,.inl ⟨rfl,⟨_,rfl,M1,by dsimp only;omega,by dsimp only;omega,by dsimp only;omega,by dsimp only;omega⟩,by dsimp only;omega⟩⟩
     ·exact kasC_pure ⟨rfl,rfl,⟨_,rfl,M1,by dsimp only;omega,by dsimp only;omega,by dsimp only;omega,by dsimp only;omega⟩,by dsimp only;omega,rfl⟩
   | false=>
    try dsimp only
    first | refine kasC_f (by decide) ?_ | rw [if_neg (by decide)]
    refine kasC_bind (qelem (y4 hy) ?_)
    try dsimp only
    rw [z27]
    have M1:=tkV m' (by omega) (by omega) (by omega) hy (fun j z hj hz=>od.tr _ _ _ (upu hz (by omega) hx1) e)
    by_cases z3:nb' - 1=1
    ·first | refine kasC_t (by simp [z3]) ?_ | rw [if_pos (by simp [z3])]
     rw [z40]
     exact kasC_pure ⟨rfl,rfl,.inr ⟨_,rfl,fin2 M1 z3 (by omega)⟩⟩
    ·first | refine kasC_f (by simp [z3]) ?_ | rw [if_neg (by simp [z3])]
     split
     ·exact kasC_pure ⟨rfl,rfl,.inl ⟨rfl,⟨_,rfl,M1,by dsimp only;omega,by dsimp only;omega,by dsimp only;omega,by dsimp only;omega⟩,by dsimp only;omega⟩⟩
     ·exact kasC_pure ⟨rfl,rfl,⟨_,rfl,M1,by dsimp only;omega,by dsimp only;omega,by dsimp only;omega,by dsimp only;omega⟩,by dsimp only;omega,rfl⟩
  ·refine pr6 ?_
   rintro r na' nb' out ac bc st' ⟨rfl,mid,hp',rfl⟩
   refine⟨rfl,.inl ⟨rfl,mid,?_⟩⟩
   dsimp only at hp' ⊢
   rw [v3] at hp'
   omega
  ·refine pr6 ?_
   rintro r na' nb' out ac bc st' ⟨rfl,hh⟩
   rcases hh with ⟨rfl,⟨o',rfl,m',h1',h2',h3',h4'⟩,hp'⟩ | ⟨l,rfl,ml⟩
   ·dsimp only at m' h1' h2' h3' h4' hp' ⊢
    refine kasC_bind (kasC_lift (wpAny_rule ?_))
    refine kasC_bind (z16 (fun t' c st'=>c.1=none∧MidR lt u v it c.2.2.2.1 c.2.1 c.2.2.1∧c.2.1 + c.2.2.1 + 1≤na + nb∧∃ g,st'=setG st g) (fun c st'=>(∃ g,st'=setG st g)∧((c.1=none∧MidR lt u v it c.2.2.2.1 c.2.1 c.2.2.1∧c.2.1 + c.2.2.1 + 1≤na + nb)∨Res lt u v it c.1)) ⟨rfl,⟨_,rfl,m',h1',h2',h3',h4'⟩,by dsimp only;omega,_,rfl⟩ ?_ ?_ ?_)
    ·intro t' x
     refine sr7 (hp:=fun p q=>p + q + 1≤na + nb) ?_
     intro na2 nb2 ac bc o2 g1 ht' m2 h12 h22 h32 h42 hp2
     dsimp only at hp2 ⊢
     obtain⟨y,hy,yn⟩:=getV (i:=nb2 - 1) (by omega)
     refine key7 (fun n h p=>kasC_f h p) (fun n h p=>kasC_t h p) ?_
     intro mg2
     refine kasC_bind (qset ?_)
     refine kasC_bind (qelem (y4 hy) (kasC_bind (z66 (g:=fun i=>u.getD i 0) hc hk (fun i hi=>?_) (fun i hi=>?_) yn (fun i j hij hj hb=>?_) (by omega) fun k kl kt kf=>?_)))
     ·obtain⟨t',ht',_⟩:=getU (i:=i) (by omega)
      rw [Nat.zero_add,y4 ht',List.getD_eq_getElem?_getD,ht']
      rfl
     ·obtain⟨t',ht',tn'⟩:=getU (i:=i) (by omega)
      rw [List.getD_eq_getElem?_getD,ht']
      exact tn'
     ·obtain⟨ti,hti,_⟩:=getU (i:=i) (by omega)
      obtain⟨tj,htj,_⟩:=getU (i:=j) (by omega)
      simp only [byG,Bool.false_eq_true,if_false,List.getD_eq_getElem?_getD,hti,htj,Option.getD_some,Bool.not_eq_true'] at hb ⊢
      exact od.tr _ _ _ (upu hti (by omega) htj) hb
     have gu:∀ {a b z:Nat},a=b→u[b]?=some z→u.getD a 0=z:=fun{a b z} e1 e2=>by rw [e1,List.getD_eq_getElem?_getD,e2];rfl
     simp only [byG,Bool.false_eq_true,if_false,Bool.not_eq_true',Bool.not_eq_false'] at kt kf
     have lessU:∀ j z,j < k→u[j]?=some z→lt y z=false:=fun j z hj hz=>by
      have:=kt j hj
      rw [gu rfl hz] at this
      exact this
     try dsimp only
     by_cases zk:na2 - k > 0
     ·first | refine kasC_t zk ?_ | rw [if_pos zk]
      rw [z362]
      have MO:=tkUs m2 kl (by omega) (by omega) (fun i x' h1 h2 hx' j z hj hz=>by
       have:=kf i h1 h2
       rw [gu rfl hx'] at this
       exact od.tr _ _ _ (upv hz (by omega) hy) (od.as _ _ this))
      by_cases z1:k=0
      ·first | refine kasC_t (by simp [z1]) ?_ | rw [if_pos (by simp [z1])]
       rw [z40]
       exact kasC_pure ⟨rfl,⟨_,rfl⟩,.inr ⟨_,rfl,fin1 MO z1 (by omega)⟩⟩
      ·first | refine kasC_f (by simp [z1]) ?_ | rw [if_neg (by simp [z1])]
       refine kasC_bind (qelem (y4 hy) ?_)
       try dsimp only
       rw [z27]
       have M2:=tkV MO (by omega) (by omega) (by omega) hy (fun j z hj hz=>lessU j z hj hz)
       by_cases z2:nb2 - 1=1
       ·first | refine kasC_t (by simp [z2]) ?_ | rw [if_pos (by simp [z2])]
        rw [z40]
        exact kasC_pure ⟨rfl,⟨_,rfl⟩,.inr ⟨_,rfl,fin2 M2 z2 (by omega)⟩⟩
       ·first | refine kasC_f (by simp [z2]) ?_ | rw [if_neg (by simp [z2])]
        obtain⟨x1,hx1,xn1⟩:=getU (i:=k - 1) (by omega)
        refine kasC_bind (qelem (y4 hx1) (kasC_bind (z66 (g:=fun i=>v.getD i 0) hc hk (fun i hi=>?_) (fun i hi=>?_) xn1 (fun i j hij hj hb=>?_) (by omega) fun k2 k2l kt2 kf2=>?_)))
        ·obtain⟨t',ht',_⟩:=getV (i:=i) (by omega)
         rw [Nat.zero_add,y4 ht',List.getD_eq_getElem?_getD,ht']
         rfl
        ·obtain⟨t',ht',tn'⟩:=getV (i:=i) (by omega)
         rw [List.getD_eq_getElem?_getD,ht']
         exact tn'
        ·obtain⟨ti,hti,_⟩:=getV (i:=i) (by omega)
         obtain⟨tj,htj,_⟩:=getV (i:=j) (by omega)
         simp only [byG,if_true,List.getD_eq_getElem?_getD,hti,htj,Option.getD_some] at hb ⊢
         cases e:lt ti x1 with
         | true=>rfl
         | false=>rw [od.tr _ _ _ e (upv hti (by omega) htj)] at hb;cases hb
        have gv:∀ {a b z:Nat},a=b→v[b]?=some z→v.getD a 0=z:=fun{a b z} e1 e2=>by rw [e1,List.getD_eq_getElem?_getD,e2];rfl
        simp only [byG,if_true] at kt2 kf2
        have k21:1≤k2:=by
         by_cases z:1≤k2
         ·exact z
         ·have:=kf2 0 (by omega) (by omega)
          rw [gv rfl hy0,first y0 hy0 x1 (List.mem_of_getElem? hx1)] at this
          cases this
        try dsimp only
        by_cases z3:nb2 - 1 - k2 > 0
        ·first | refine kasC_t z3 ?_ | rw [if_pos z3]
         rw [z362]
         have M3:=tkVs M2 k2l (by omega) (by omega) (fun i x' h1 h2 hx' j z hj hz=>by
          have:=kf2 i h1 (by omega)
          rw [gv rfl hx'] at this
          exact od.tr _ _ _ (upu hz (by omega) hx1) this)
         by_cases z5:k2=1
         ·first | refine kasC_t (by simp [z5]) ?_ | rw [if_pos (by simp [z5])]
          rw [z40]
          exact kasC_pure ⟨rfl,⟨_,rfl⟩,.inr ⟨_,rfl,fin2 M3 z5 (by omega)⟩⟩
         ·first | refine kasC_f (by simp [z5]) ?_ | rw [if_neg (by simp [z5])]
          first | refine kasC_f (by simp;omega) ?_ | rw [if_neg (by simp;omega)]
          refine kasC_bind (qelem (y4 hx1) ?_)
          try dsimp only
          rw [z27]
          have M4:=tkU M3 (by omega) (by omega) (by omega) hx1 (fun j z hj hz=>by
           have:=kt2 j (by omega)
           rw [gv rfl hz] at this
           exact od.as _ _ this)
          by_cases z4:k - 1=0
          ·first | refine kasC_t (by simp [z4]) ?_ | rw [if_pos (by simp [z4])]
           rw [z40]
           exact kasC_pure ⟨rfl,⟨_,rfl⟩,.inr ⟨_,rfl,fin1 M4 z4 (by omega)⟩⟩
          ·first | refine kasC_f (by simp [z4]) ?_ | rw [if_neg (by simp [z4])]
           split
           ·exact kasC_pure ⟨rfl,⟨_,rfl⟩,.inl ⟨rfl,⟨_,rfl,M4,by dsimp only;omega,by dsimp only;omega,by dsimp only;omega,by dsimp only;omega⟩,by dsimp only;omega⟩⟩
           ·exact kasC_pure ⟨rfl,rfl,⟨_,rfl,M4,by dsimp only;omega,by dsimp only;omega,by dsimp only;omega,by dsimp only;omega⟩,by dsimp only;omega,_,rfl⟩
        ·first | refine kasC_f z3 ?_ | rw [if_neg z3]
         obtain rfl:k2=nb2 - 1:=by omega
         refine kasC_bind (qelem (y4 hx1) ?_)
         try dsimp only
         rw [z27]
         have M4:=tkU M2 (by omega) (by omega) (by omega) hx1 (fun j z hj hz=>by
          have:=kt2 j (by omega)
          rw [gv rfl hz] at this
          exact od.as _ _ this)
         by_cases z4:k - 1=0
         ·first | refine kasC_t (by simp [z4]) ?_ | rw [if_pos (by simp [z4])]
          rw [z40]
          exact kasC_pure ⟨rfl,⟨_,rfl⟩,.inr ⟨_,rfl,fin1 M4 z4 (by omega)⟩⟩
         ·first | refine kasC_f (by simp [z4]) ?_ | rw [if_neg (by simp [z4])]
          split
          ·exact kasC_pure ⟨rfl,⟨_,rfl⟩,.inl ⟨rfl,⟨_,rfl,M4,by dsimp only;omega,by dsimp only;omega,by dsimp only;omega,by dsimp only;omega⟩,by dsimp only;omega⟩⟩
          ·exact kasC_pure ⟨rfl,rfl,⟨_,rfl,M4,by dsimp only;omega,by dsimp only;omega,by dsimp only;omega,by dsimp only;omega⟩,by dsimp only;omega,_,rfl⟩
     ·first | refine kasC_f zk ?_ | rw [if_neg zk]
      obtain rfl:k=na2:=by omega
      have MO:=m2
      refine kasC_bind (qelem (y4 hy) ?_)
      try dsimp only
      rw [z27]
      have M2:=tkV MO (by omega) (by omega) (by omega) hy (fun j z hj hz=>lessU j z hj hz)
      by_cases z2:nb2 - 1=1
      ·first | refine kasC_t (by simp [z2]) ?_ | rw [if_pos (by simp [z2])]
       rw [z40]
       exact kasC_pure ⟨rfl,⟨_,rfl⟩,.inr ⟨_,rfl,fin2 M2 z2 (by omega)⟩⟩
      ·first | refine kasC_f (by simp [z2]) ?_ | rw [if_neg (by simp [z2])]
       obtain⟨x1,hx1,xn1⟩:=getU (i:=k - 1) (by omega)
       refine kasC_bind (qelem (y4 hx1) (kasC_bind (z66 (g:=fun i=>v.getD i 0) hc hk (fun i hi=>?_) (fun i hi=>?_) xn1 (fun i j hij hj hb=>?_) (by omega) fun k2 k2l kt2 kf2=>?_)))
       ·obtain⟨t',ht',_⟩:=getV (i:=i) (by omega)
        rw [Nat.zero_add,y4 ht',List.getD_eq_getElem?_getD,ht']
        rfl
       ·obtain⟨t',ht',tn'⟩:=getV (i:=i) (by omega)
        rw [List.getD_eq_getElem?_getD,ht']
        exact tn'
       ·obtain⟨ti,hti,_⟩:=getV (i:=i) (by omega)
        obtain⟨tj,htj,_⟩:=getV (i:=j) (by omega)
        simp only [byG,if_true,List.getD_eq_getElem?_getD,hti,htj,Option.getD_some] at hb ⊢
        cases e:lt ti x1 with
        | true=>rfl
        | false=>rw [od.tr _ _ _ e (upv hti (by omega) htj)] at hb;cases hb
       have gv:∀ {a b z:Nat},a=b→v[b]?=some z→v.getD a 0=z:=fun{a b z} e1 e2=>by rw [e1,List.getD_eq_getElem?_getD,e2];rfl
       simp only [byG,if_true] at kt2 kf2
       have k21:1≤k2:=by
        by_cases z:1≤k2
        ·exact z
        ·have:=kf2 0 (by omega) (by omega)
         rw [gv rfl hy0,first y0 hy0 x1 (List.mem_of_getElem? hx1)] at this
         cases this
       try dsimp only
       by_cases z3:nb2 - 1 - k2 > 0
       ·first | refine kasC_t z3 ?_ | rw [if_pos z3]
        rw [z362]
        have M3:=tkVs M2 k2l (by omega) (by omega) (fun i x' h1 h2 hx' j z hj hz=>by
         have:=kf2 i h1 (by omega)
         rw [gv rfl hx'] at this
         exact od.tr _ _ _ (upu hz (by omega) hx1) this)
        by_cases z5:k2=1
        ·first | refine kasC_t (by simp [z5]) ?_ | rw [if_pos (by simp [z5])]
         rw [z40]
         exact kasC_pure ⟨rfl,⟨_,rfl⟩,.inr ⟨_,rfl,fin2 M3 z5 (by omega)⟩⟩
        ·first | refine kasC_f (by simp [z5]) ?_ | rw [if_neg (by simp [z5])]
         first | refine kasC_f (by simp;omega) ?_ | rw [if_neg (by simp;omega)]
         refine kasC_bind (qelem (y4 hx1) ?_)
         try dsimp only
         rw [z27]
         have M4:=tkU M3 (by omega) (by omega) (by omega) hx1 (fun j z hj hz=>by
          have:=kt2 j (by omega)
          rw [gv rfl hz] at this
          exact od.as _ _ this)
         by_cases z4:k - 1=0
         ·first | refine kasC_t (by simp [z4]) ?_ | rw [if_pos (by simp [z4])]
          rw [z40]
          exact kasC_pure ⟨rfl,⟨_,rfl⟩,.inr ⟨_,rfl,fin1 M4 z4 (by omega)⟩⟩
         ·first | refine kasC_f (by simp [z4]) ?_ | rw [if_neg (by simp [z4])]
          split
          ·exact kasC_pure ⟨rfl,⟨_,rfl⟩,.inl ⟨rfl,⟨_,rfl,M4,by dsimp only;omega,by dsimp only;omega,by dsimp only;omega,by dsimp only;omega⟩,by dsimp only;omega⟩⟩
          ·exact kasC_pure ⟨rfl,rfl,⟨_,rfl,M4,by dsimp only;omega,by dsimp only;omega,by dsimp only;omega,by dsimp only;omega⟩,by dsimp only;omega,_,rfl⟩
       ·first | refine kasC_f z3 ?_ | rw [if_neg z3]
        obtain rfl:k2=nb2 - 1:=by omega
        refine kasC_bind (qelem (y4 hx1) ?_)
        try dsimp only
        rw [z27]
        have M4:=tkU M2 (by omega) (by omega) (by omega) hx1 (fun j z hj hz=>by
         have:=kt2 j (by omega)
         rw [gv rfl hz] at this
         exact od.as _ _ this)
        by_cases z4:k - 1=0
        ·first | refine kasC_t (by simp [z4]) ?_ | rw [if_pos (by simp [z4])]
         rw [z40]
         exact kasC_pure ⟨rfl,⟨_,rfl⟩,.inr ⟨_,rfl,fin1 M4 z4 (by omega)⟩⟩
        ·first | refine kasC_f (by simp [z4]) ?_ | rw [if_neg (by simp [z4])]
         split
         ·exact kasC_pure ⟨rfl,⟨_,rfl⟩,.inl ⟨rfl,⟨_,rfl,M4,by dsimp only;omega,by dsimp only;omega,by dsimp only;omega,by dsimp only;omega⟩,by dsimp only;omega⟩⟩
         ·exact kasC_pure ⟨rfl,rfl,⟨_,rfl,M4,by dsimp only;omega,by dsimp only;omega,by dsimp only;omega,by dsimp only;omega⟩,by dsimp only;omega,_,rfl⟩
    ·refine pr7 ?_
     rintro r na' nb' out mg' ac bc st' ⟨rfl,mid,hp',g1,rfl⟩
     exact⟨⟨g1,rfl⟩,.inl ⟨rfl,mid,hp'⟩⟩
    ·refine pr7 ?_
     rintro r na' nb' out mg' ac bc st' ⟨⟨g1,rfl⟩,hh⟩
     rcases hh with ⟨rfl,mid,hp'⟩ | ⟨l,rfl,ml⟩
     ·dsimp only at mid hp' ⊢
      refine kasC_bind (qset (kasC_pure ⟨rfl,rfl,mid,?_,_,rfl⟩))
      dsimp only
      omega
     ·exact kasC_pure ⟨rfl,⟨g1,rfl⟩,l,rfl,ml⟩
   ·exact kasC_pure ⟨rfl,⟨g0,rfl⟩,l,rfl,ml⟩
 ·refine pr5 ?_
  rintro r na nb out mg st' ⟨rfl,⟨o,rfl,m,h1,h2,h3,h4⟩,hp,g0,rfl⟩
  dsimp only at m h1 h2 hp
  rw [v3] at hp
  omega
 ·refine pr5 ?_
  rintro r na nb out mg st' ⟨⟨g0,rfl⟩,l,rfl,ml⟩
  exact kasC_pure (q l g0 ml)
end
end L2
set_option Elab.async false
set_option linter.all false
set_option maxRecDepth 100000
namespace L2
open PySem PySem.Spec PyProof.Rows PySem.W
def seg (p:List Nat) (a k:Nat):List Nat:=(p.drop a).take k
theorem z92 {p:List Nat}{a k i:Nat}(h:i < k):(seg p a k)[i]?=p[a + i]?:=by
 unfold seg
 rw [List.getElem?_take]
 first | refine kasC_t h ?_ | rw [if_pos h]
 rw [List.getElem?_drop]
theorem z146 {p:List Nat}{a k:Nat}(h:a + k≤p.length):(seg p a k).length=k:=by
 unfold seg
 rw [List.length_take,List.length_drop]
 omega
theorem z595 {p:List Nat}{a k i:Nat}:(seg p a k).drop i=seg p (a + i) (k - i):=by
 unfold seg
 rw [List.drop_take,List.drop_drop]
theorem z586 {p:List Nat}{a k i:Nat}(h:i≤k):(seg p a k).take i=seg p a i:=by
 unfold seg
 rw [List.take_take,Nat.min_eq_left h]
theorem z484 {p:List Nat}{a k j:Nat}:seg p a k++seg p (a + k) j=seg p a (k + j):=by
 unfold seg
 rw [← List.drop_drop,← List.take_add]
theorem z431 {p:List Nat}{a k:Nat}:p.take (a + k)=p.take a++seg p a k:=List.take_add
theorem z604 {p:List Nat}{a k:Nat}:p.drop a=seg p a k++p.drop (a + k):=by
 unfold seg
 rw [← List.drop_drop,List.take_append_drop]
def putS (p:List Nat) (a:Nat) (r:List Nat):List Nat:=p.take a++r++p.drop (a + r.length)
theorem z489 {α:Type}{a0:Nat}:∀ (l:List α) (j:Nat) (xs:List α),a0 + j + l.length≤xs.length→(l.zipIdx j).foldl (fun a (q:α × Nat)=>a.setIfInBounds (a0 + q.2) q.1) xs.toArray=(xs.take (a0 + j)++l++xs.drop (a0 + j + l.length)).toArray
 | [],j,xs,h=>by simp
 | x::l,j,xs,h=>by
  rw [List.zipIdx_cons,List.foldl_cons]
  have h':a0 + j + (l.length + 1)≤xs.length:=h
  have e:xs.toArray.setIfInBounds (a0 + j) x=(xs.set (a0 + j) x).toArray:=by simp
  rw [e,z489 l (j + 1) (xs.set (a0 + j) x) (by rw [List.length_set];omega)]
  congr 1
  have e1:(xs.set (a0 + j) x).take (a0 + (j + 1))=xs.take (a0 + j)++[x]:=by
   rw [show a0 + (j + 1)=a0 + j + 1 by omega,List.take_add_one,List.take_set_of_le (Nat.le_refl _),List.getElem?_set]
   first | refine kasC_t rfl ?_ | rw [if_pos rfl]
   first | refine kasC_t (by omega) ?_ | rw [if_pos (by omega)]
   rfl
  have e2:(xs.set (a0 + j) x).drop (a0 + (j + 1) + l.length)=xs.drop (a0 + j + (x::l).length):=by
   rw [List.drop_set_of_lt (by omega),List.length_cons]
   congr 1
   omega
  rw [e1,e2]
  simp
theorem z433 {it:Array Keyed}{p r:List Nat}{a:Nat}(h:a + r.length≤p.length):(its it r).toList.zipIdx.foldl (fun a0 (q:Keyed × Nat)=>a0.setIfInBounds (a + q.2) q.1) (its it p)=its it (putS p a r):=by
 have:=z489 (a0:=a) (r.map (kas_item it)) 0 (p.map (kas_item it)) (by rw [List.length_map,List.length_map];omega)
 unfold its putS
 rw [show ((r.map (kas_item it)).toArray).toList=r.map (kas_item it) by simp]
 rw [this]
 simp [List.map_take,List.map_drop]
section
variable {lt:Nat→Nat→Bool}{p:List Nat}{a na nb k m:Nat}{r:List Nat}
theorem z185 (od:Ord lt) (hp:a + na + nb≤p.length) (sx:Srt lt (seg p a na)) (sy:Srt lt (seg p (a + na) nb)) (hk:k≤na) (hm:m≤nb)
  (lo:∀ i x,i < k→p[a + i]?=some x→∀ j y,j < nb→p[a + na + j]?=some y→lt y x=false) (hi:∀ j y,m≤j→j < nb→p[a + na + j]?=some y→∀ i x,i < na→p[a + i]?=some x→lt y x=false)
  (hr:Merged lt (seg p (a + k) (na - k)) (seg p (a + na) m) r):r.length=na - k + m∧∃ R,Merged lt (seg p a na) (seg p (a + na) nb) R∧putS p (a + k) r=putS p a R∧R.length=na + nb:=by
 have lr:r.length=na - k + m:=by
  rw [hr.1.length_eq,List.length_append,z146 (by omega),z146 (by omega)]
 have inX:∀ {a' k' x},a' + k'≤p.length→x∈seg p a' k'→∃ i,i < k'∧p[a' + i]?=some x:=fun{a' k' x} h hx=>by
  obtain⟨i,hi⟩:=List.mem_iff_getElem?.mp hx
  have:=(List.getElem?_eq_some_iff.mp hi).1
  rw [z146 h] at this
  rw [z92 this] at hi
  exact⟨i,this,hi⟩
 have e1:seg p a na=seg p a k++seg p (a + k) (na - k):=by rw [z484,show k + (na - k)=na by omega]
 have e2:seg p (a + na) nb=seg p (a + na) m++seg p (a + na + m) (nb - m):=by rw [z484,show m + (nb - m)=nb by omega]
 refine⟨lr,seg p a k++r++seg p (a + na + m) (nb - m),⟨?_,?_⟩,?_,?_⟩
 ·rw [e1,e2,List.append_assoc,List.append_assoc,← List.append_assoc (seg p (a + k) (na - k))]
  exact List.Perm.append_left _ (hr.1.append_right _)
 ·have sx':=sx
  have sy':=sy
  rw [e1] at sx'
  rw [e2] at sy'
  obtain⟨x1,x2,x3⟩:=List.pairwise_append.mp sx'
  obtain⟨y1,y2,y3⟩:=List.pairwise_append.mp sy'
  have mr:∀ z∈r,z∈seg p (a + k) (na - k)∨z∈seg p (a + na) m:=fun z hz=>List.mem_append.mp (hr.1.mem_iff.mp hz)
  refine List.pairwise_append.mpr ⟨List.pairwise_append.mpr ⟨x1,hr.2,fun x hx z hz=>?_⟩,y2,fun x hx z hz=>?_⟩
  ·rcases mr z hz with w | w
   ·exact x3 x hx z w
   ·obtain⟨i,i1,i2⟩:=inX (by omega) hx
    obtain⟨j,j1,j2⟩:=inX (by omega) w
    exact lo i x i1 i2 j z (by omega) j2
  ·obtain⟨j,j1,j2⟩:=inX (by omega) hz
   have j2':p[a + na + (m + j)]?=some z:=by rw [show a + na + (m + j)=a + na + m + j by omega];exact j2
   rcases List.mem_append.mp hx with w | w
   ·obtain⟨i,i1,i2⟩:=inX (by omega) w
    exact lo i x i1 i2 (m + j) z (by omega) j2'
   ·rcases mr x w with w | w
    ·obtain⟨i,i1,i2⟩:=inX (by omega) w
     exact hi (m + j) z (by omega) (by omega) j2' (k + i) x (by omega) (by rw [show a + (k + i)=a + k + i by omega];exact i2)
    ·exact y3 x w z hz
 ·unfold putS
  rw [lr,List.length_append,List.length_append,z146 (by omega),z146 (by omega),lr,z431,show a + k + (na - k + m)=a + na + m by omega,show a + (k + (na - k + m) + (nb - m))=a + na + m + (nb - m) by omega,z604 (p:=p) (a:=a + na + m) (k:=nb - m)]
  simp [List.append_assoc]
 ·rw [List.length_append,List.length_append,z146 (by omega),z146 (by omega),lr]
  omega
end
section
variable {prog:Program}{w:World}{A:Around}{E:Value→Shared→Prop}{κ:SortKind}{it:Array Keyed}{n:Nat}{lt:Nat→Nat→Bool}{s:Shared}
theorem z577 {M:Model}{A:Around}{E:Value→Shared→Prop}{σ:Type}{x st:σ}{Q:PUnit→σ→Shared→Prop}{s:Shared}(h:Q ⟨⟩ x s):kasC M A E (set x:StateT σ Sem PUnit) Q st s:=by
 unfold kasC
 rw [StateT.run_set]
 exact wpAny_pure h
theorem z560 {i j:Nat}{p:List Nat}:(its it p).extract i j=its it (seg p i (j - i)):=by simp [its,seg,List.map_take,List.map_drop]
theorem z463 {p:List Nat}{pend:Array (Nat × Nat × Nat)}{g i a na pw nb pw2:Nat}{Q:Bool→SortSt→Shared→Prop}(hc:Asks n lt (kas_cmp prog w A κ it) s) (od:Ord lt) (hn:∀ x∈p,x < n) (h1:pend[i]?=some (a,na,pw)) (h2:pend[i + 1]?=some (a + na,nb,pw2)) (na1:0 < na) (nb1:0 < nb) (hp:a + na + nb≤p.length) (sx:Srt lt (seg p a na)) (sy:Srt lt (seg p (a + na) nb))
  (q:∀ R g',Merged lt (seg p a na) (seg p (a + na) nb) R→R.length=na + nb→Q true (SortSt.mk' κ (its it (putS p a R)) ((pend.setIfInBounds i (a,na + nb,pw)).eraseIdxIfInBounds (i + 1)) g' none) s):
  kasC (model prog w) A E (mergeAt' i) Q (SortSt.mk' κ (its it p) pend g none) s:=by
 have rf:=od.rf
 have getP:∀ {j},j < p.length→∃ x,p[j]?=some x∧x < n:=fun{j} hj=>⟨p[j],List.getElem?_eq_getElem hj,hn _ (List.getElem_mem hj)⟩
 have upx:∀ {i j x z},p[a + i]?=some x→i≤j→j < na→p[a + j]?=some z→lt z x=false:=fun{i j x z} hx hij hj hz=>
  sx.head (i:=i) (by rw [z92 (by omega)];exact hx) (rf x) z (List.mem_of_getElem? (i:=j - i) (by rw [List.getElem?_drop,show i + (j - i)=j by omega,z92 hj];exact hz))
 have upy:∀ {i j x z},p[a + na + i]?=some x→i≤j→j < nb→p[a + na + j]?=some z→lt z x=false:=fun{i j x z} hx hij hj hz=>
  sy.head (i:=i) (by rw [z92 (by omega)];exact hx) (rf x) z (List.mem_of_getElem? (i:=j - i) (by rw [List.getElem?_drop,show i + (j - i)=j by omega,z92 hj];exact hz))
 have gp:∀ {c b z:Nat},c=b→p[b]?=some z→p.getD c 0=z:=fun{c b z} e1 e2=>by rw [e1,List.getD_eq_getElem?_getD,e2];rfl
 obtain⟨y0,hy0,y0n⟩:=getP (j:=a + na) (by omega)
 obtain⟨xl,hxl,xln⟩:=getP (j:=a + na - 1) (by omega)
 have hxl':p[a + (na - 1)]?=some xl:=by rw [show a + (na - 1)=a + na - 1 by omega];exact hxl
 unfold mergeAt'
 k_delta "mergeAt"
 refine kasC_bind (kasC_get ?_)
 dsimp only
 rw [h1,h2]
 dsimp only
 refine kasC_bind (z577 ?_)
 refine kasC_bind (qelem (y4 hy0) (kasC_bind (z66 (g:=fun i=>p.getD (a + i) 0) hc rfl (fun i hi=>?_) (fun i hi=>?_) y0n (fun i j hij hj hb=>?_) na1 fun k kl kt kf=>?_)))
 ·obtain⟨t',ht',_⟩:=getP (j:=a + i) (by omega)
  rw [y4 ht',gp rfl ht']
 ·obtain⟨t',ht',tn'⟩:=getP (j:=a + i) (by omega)
  rw [gp rfl ht']
  exact tn'
 ·obtain⟨ti,hti,_⟩:=getP (j:=a + i) (by omega)
  obtain⟨tj,htj,_⟩:=getP (j:=a + j) (by omega)
  simp only [byG,Bool.false_eq_true,if_false,gp rfl hti,gp rfl htj,Bool.not_eq_true'] at hb ⊢
  exact od.tr _ _ _ (upx hti (by omega) hj htj) hb
 simp only [byG,Bool.false_eq_true,if_false,Bool.not_eq_true',Bool.not_eq_false'] at kt kf
 have lo:∀ i x,i < k→p[a + i]?=some x→∀ j y,j < nb→p[a + na + j]?=some y→lt y x=false:=fun i x hi hx j y hj hy=>by
  have:=kt i hi
  rw [gp rfl hx] at this
  exact od.tr _ _ _ this (upy (i:=0) hy0 (Nat.zero_le _) hj hy)
 dsimp only
 by_cases zk:na - k=0
 ·first | refine kasC_t (by simp [zk]) ?_ | rw [if_pos (by simp [zk])]
  obtain rfl:k=na:=by omega
  have e0:Merged lt (seg p (a + k) (k - k)) (seg p (a + k) 0) []:=by
   unfold seg
   rw [Nat.sub_self,List.take_zero]
   exact⟨List.Perm.refl _,List.Pairwise.nil⟩
  obtain⟨_,R,hR,eR,lR⟩:=z185 od hp sx sy (Nat.le_refl _) (Nat.zero_le nb) lo (fun j y _ hj hy i x hi hx=>lo i x hi hx j y hj hy) e0
  have e1:putS p (a + k) []=p:=by unfold putS;simp
  rw [e1] at eR
  have:=q R g hR lR
  rw [← eR] at this
  exact kasC_pure this
 ·first | refine kasC_f (by simp [zk]) ?_ | rw [if_neg (by simp [zk])]
  rw [show a + k + (na - k) - 1=a + na - 1 by omega]
  refine kasC_bind (qelem (y4 hxl) (kasC_bind (z66 (g:=fun i=>p.getD (a + na + i) 0) hc rfl (fun i hi=>?_) (fun i hi=>?_) xln (fun i j hij hj hb=>?_) (by omega) fun m ml mt mf=>?_)))
  ·obtain⟨t',ht',_⟩:=getP (j:=a + na + i) (by omega)
   rw [y4 ht',gp rfl ht']
  ·obtain⟨t',ht',tn'⟩:=getP (j:=a + na + i) (by omega)
   rw [gp rfl ht']
   exact tn'
  ·obtain⟨ti,hti,_⟩:=getP (j:=a + na + i) (by omega)
   obtain⟨tj,htj,_⟩:=getP (j:=a + na + j) (by omega)
   simp only [byG,if_true,gp rfl hti,gp rfl htj] at hb ⊢
   cases e:lt ti xl with
   | true=>rfl
   | false=>rw [od.tr _ _ _ e (upy hti hij hj htj)] at hb;cases hb
  simp only [byG,if_true] at mt mf
  have top:∀ i x,k≤i→i < na→p[a + i]?=some x→lt y0 x=true:=fun i x h1 h2 hx=>by
   have:=kf i h1 h2
   rw [gp rfl hx] at this
   exact this
  have m1:0 < m:=by
   by_cases z:0 < m
   ·exact z
   ·have:=mf 0 (by omega) nb1
    rw [gp (show a + na + 0=a + na by omega) hy0,top (na - 1) xl (by omega) (by omega) hxl'] at this
    cases this
  have hi:∀ j y,m≤j→j < nb→p[a + na + j]?=some y→∀ i x,i < na→p[a + i]?=some x→lt y x=false:=fun j y h1 h2 hy i x hi hx=>by
   have:=mf j h1 h2
   rw [gp rfl hy] at this
   exact od.tr _ _ _ (upx hx (show i≤na - 1 by omega) (by omega) hxl') this
  dsimp only
  first | refine kasC_f (by simp;omega) ?_ | rw [if_neg (by simp;omega)]
  rw [z560,z560,show a + na - (a + k)=na - k by omega,show a + na + m - (a + na)=m by omega]
  have lu:(seg p (a + k) (na - k)).length=na - k:=z146 (by omega)
  have lv:(seg p (a + na) m).length=m:=z146 (by omega)
  have su:Srt lt (seg p (a + k) (na - k)):=by rw [← z595];exact sx.drop k
  have sv:Srt lt (seg p (a + na) m):=by rw [← z586 ml];exact List.Pairwise.sublist (List.take_sublist _ _) sy
  have mem:∀ {b c x},x∈seg p b c→x∈p:=fun h=>List.mem_of_mem_drop (List.mem_of_mem_take h)
  have fst:∀ y,(seg p (a + na) m)[0]?=some y→∀ x∈seg p (a + k) (na - k),lt y x=true:=fun y hy x hx=>by
   rw [z92 m1,Nat.add_zero,hy0] at hy
   cases hy
   obtain⟨i,hi⟩:=List.mem_iff_getElem?.mp hx
   have il:=(List.getElem?_eq_some_iff.mp hi).1
   rw [lu] at il
   rw [z92 il] at hi
   exact top (k + i) x (by omega) (by omega) (by rw [show a + (k + i)=a + k + i by omega];exact hi)
  have lst:∀ y∈seg p (a + na) m,∀ x,(seg p (a + k) (na - k))[(seg p (a + k) (na - k)).length - 1]?=some x→lt y x=true:=fun y hy x hx=>by
   rw [lu,z92 (by omega),show a + k + (na - k - 1)=a + na - 1 by omega,hxl] at hx
   cases hx
   obtain⟨j,hj⟩:=List.mem_iff_getElem?.mp hy
   have jl:=(List.getElem?_eq_some_iff.mp hj).1
   rw [lv] at jl
   rw [z92 jl] at hj
   have:=mt j jl
   rw [gp rfl hj] at this
   exact this
  by_cases z:na - k≤m
  ·first | refine kasC_t z ?_ | rw [if_pos z]
   refine kasC_bind (z436 hc od rfl (fun x hx=>hn x (mem hx)) (fun x hx=>hn x (mem hx)) su sv (by omega) (by omega) (fun y x hy hx=>fst y hy x (List.mem_of_getElem? hx)) lst fun r g' hr=>?_)
   refine kasC_bind (kasC_modify (kasC_bind (kasC_get (kasC_pure ?_))))
   obtain⟨lr,R,hR,eR,lR⟩:=z185 od hp sx sy kl ml lo hi hr
   dsimp only
   rw [z433 (by rw [lr];omega),eR]
   exact q R g' hR lR
  ·first | refine kasC_f z ?_ | rw [if_neg z]
   refine kasC_bind (z441 hc od rfl (fun x hx=>hn x (mem hx)) (fun x hx=>hn x (mem hx)) su sv (by omega) (by omega) fst lst fun r g' hr=>?_)
   refine kasC_bind (kasC_modify (kasC_bind (kasC_get (kasC_pure ?_))))
   obtain⟨lr,R,hR,eR,lR⟩:=z185 od hp sx sy kl ml lo hi hr
   dsimp only
   rw [z433 (by rw [lr];omega),eR]
   exact q R g' hR lR
end
end L2
set_option Elab.async false
set_option linter.all false
set_option maxRecDepth 100000
namespace L2
open PySem PySem.Spec PyProof.Rows PySem.W
section
variable {lt:Nat→Nat→Bool}{f f':Nat→Nat}{m:Nat}
def UpF (lt:Nat→Nat→Bool) (f:Nat→Nat) (m:Nat):Prop:=∀ i j,i≤j→j < m→lt (f j) (f i)=false
def DnF (lt:Nat→Nat→Bool) (f:Nat→Nat) (m:Nat):Prop:=∀ i j,i≤j→j < m→lt (f i) (f j)=false
def EvF (lt:Nat→Nat→Bool) (f:Nat→Nat) (u v:Nat):Prop:=∀ i j,u≤i→i < v→u≤j→j < v→lt (f i) (f j)=false
def AlF (lt:Nat→Nat→Bool) (f f':Nat→Nat):Prop:=∀ k,lt (f' k) (f k)=false∧lt (f k) (f' k)=false
theorem z236 (o:Ord lt) (h:UpF lt f (m + 1)) (hl:lt (f (m + 1)) (f m)=false):UpF lt f (m + 2):=fun i j hij hj=>by
 by_cases e:j=m + 1
 ·subst e
  by_cases e2:i=m + 1
  ·rw [e2];exact o.rf _
  ·exact o.tr _ _ _ (h i m (by omega) (by omega)) hl
 ·exact h i j hij (by omega)
theorem z100 (o:Ord lt) (h:DnF lt f (m + 1)) (hl:lt (f m) (f (m + 1))=false):DnF lt f (m + 2):=fun i j hij hj=>by
 by_cases e:j=m + 1
 ·subst e
  by_cases e2:i=m + 1
  ·rw [e2];exact o.rf _
  ·exact o.tr _ _ _ hl (h i m (by omega) (by omega))
 ·exact h i j hij (by omega)
theorem z161 (o:Ord lt) (h:DnF lt f m) (e:AlF lt f f'):DnF lt f' m:=fun i j hij hj=>o.tr _ _ _ (e j).2 (o.tr _ _ _ (h i j hij hj) (e i).1)
theorem z624 (o:Ord lt):UpF lt f 1:=fun i j h1 h2=>by
 rw [show i=0 by omega,show j=0 by omega]
 exact o.rf _
end
section
variable {M:Model}{A:Around}{E:Value→Shared→Prop}{σ:Type}{s:Shared}
theorem z512 {β:Type}{a b:Nat}{c:β}{f:Nat→β→StateT σ Sem (ForInStep β)}{Q:β→σ→Shared→Prop}{st:σ}(J:Nat→β→σ→Prop) (F:β→σ→Prop) (h0:J 0 c st)
  (hs:∀ k c st,k < b - a→J k c st→kasC M A E (f (a + k) c) (fun r st' s'=>s'=s∧(match r with | .done c'=>F c' st' | .yield c'=>J (k + 1) c' st')) st s) (hd:∀ c st,J (b - a) c st→F c st) (hq:∀ c st,F c st→Q c st s):kasC M A E (forIn [a:b] c f) Q st s:=by
 refine kasC_range ?_
 have go:∀ (m k:Nat) (c:β) (st:σ),k + m=b - a→J k c st→kasC M A E (forIn (List.range' (a + k) m) c f) Q st s:=by
  intro m
  induction m with
  | zero=>
   intro k c st hl j
   refine kasC_nil (hq c st (hd c st ?_))
   rw [← show k=b - a by omega]
   exact j
  | succ m ih=>
   intro k c st hl j
   rw [List.range'_succ]
   refine kasC_cons (wpAny_mono (hs k c st (by omega) j) (fun r s' h=>?_) fun _ _ e=>e)
   obtain⟨r,st'⟩:=r
   obtain⟨rfl,h⟩:=h
   cases r with
   | done c'=>exact hq c' st' h
   | yield c'=>exact ih (k + 1) c' st' (by omega) h
 have:=go (b - a) 0 c st (by omega) h0
 rw [Nat.add_zero] at this
 exact this
end
def Kl (lo:Nat) (p:Array Nat) (i:Nat):Nat:=Kp p (lo + i)
section
variable {lt:Nat→Nat→Bool}{p:Array Nat}{lo u v:Nat}
theorem kl_rev (hv:lo + v≤p.size) (huv:u≤v) (k:Nat):Kl lo (kas_rev p (lo + u) (lo + v)) k=if u≤k∧k < v then Kl lo p (u + v - 1 - k) else Kl lo p k:=by
 unfold Kl
 rw [kp_rev hv (by omega)]
 by_cases h:u≤k∧k < v
 ·first | refine kasC_t ⟨by omega,by omega⟩ ?_ | rw [if_pos ⟨by omega,by omega⟩]
  first | refine kasC_t h ?_ | rw [if_pos h]
  congr 1
  omega
 ·first | refine kasC_f (by omega) ?_ | rw [if_neg (by omega)]
  first | refine kasC_f h ?_ | rw [if_neg h]
theorem z641 (hv:lo + v≤p.size) (huv:u≤v){i:Nat}(hi:i < lo):Kp (kas_rev p (lo + u) (lo + v)) i=Kp p i:=by
 rw [kp_rev hv (by omega)]
 first | refine kasC_f (by omega) ?_ | rw [if_neg (by omega)]
theorem al_rev (o:Ord lt) (hv:lo + v≤p.size) (huv:u≤v) (he:EvF lt (Kl lo p) u v):AlF lt (Kl lo p) (Kl lo (kas_rev p (lo + u) (lo + v))):=fun k=>by
 rw [kl_rev hv huv]
 by_cases h:u≤k∧k < v
 ·first | refine kasC_t h ?_ | rw [if_pos h]
  exact⟨he _ _ (by omega) (by omega) h.1 h.2,he _ _ h.1 h.2 (by omega) (by omega)⟩
 ·first | refine kasC_f h ?_ | rw [if_neg h]
  exact⟨o.rf _,o.rf _⟩
end
structure Kept (n lo:Nat) (p0 p:Array Nat):Prop where
 pm:Pm n p
 pre:∀ i,i < lo→Kp p i=Kp p0 i
theorem Kept.rev {n lo u v:Nat}{p0 p:Array Nat}(h:Kept n lo p0 p) (hv:lo + v≤n) (huv:u≤v):Kept n lo p0 (kas_rev p (lo + u) (lo + v)):=
 ⟨h.pm.rev _ _,fun i hi=>by rw [z641 (by rw [h.pm.size];exact hv) huv hi];exact h.pre i hi⟩
section
variable {prog:Program}{w:World}{A:Around}{E:Value→Shared→Prop}{κ:SortKind}{it:Array Keyed}{n:Nat}{lt:Nat→Nat→Bool}{s:Shared}{pend:Array (Nat × Nat × Nat)}{g:Nat}{p:Array Nat}
abbrev sst (κ:SortKind) (it:Array Keyed) (pend:Array (Nat × Nat × Nat)) (g:Nat) (p:Array Nat):SortSt:=SortSt.mk' κ (p.map (kas_item it)) pend g none
theorem rltAt {i j:Nat}{Q:Option Bool→SortSt→Shared→Prop}(hc:Asks n lt (kas_cmp prog w A κ it) s) (P:Pm n p) (hi:i < n) (hj:j < n) (h:Q (some (lt (Kp p i) (Kp p j))) (sst κ it pend g p) s):kasC (model prog w) A E (ltAt' i j) Q (sst κ it pend g p) s:=by
 have at':∀ {i},i < n→(p.map (kas_item it))[i]?=some (kas_item it (Kp p i)):=fun{i} hi=>by
  have sz:=P.size
  have e:p[i]?=some (Kp p i):=by unfold Kp;simp [Array.getD,sz,hi]
  rw [Array.getElem?_map,e]
  rfl
 rw [ltAt'_eq]
 exact kasC_bind (kasC_get (kasC_bind (qelem (at' hi) (kasC_bind (qelem (at' hj) (qlt hc rfl (P.below (by omega) _) (P.below (by omega) _) h))))))
theorem rrev {i j:Nat}{Q:Unit→SortSt→Shared→Prop}(h:Q () (sst κ it pend g (kas_rev p i j)) s):kasC (model prog w) A E (reverseSlice' i j) Q (sst κ it pend g p) s:=by
 rw [reverseSlice'_eq]
 refine kasC_modify ?_
 have e1:mirror (p.map (kas_item it)) i j ((j - i) / 2)=(kas_rev p i j).map (kas_item it):=kas_swaps_map (kas_item it) (fun k=>i + k) (fun k=>j - 1 - k) _ p
 show Q () (SortSt.mk' κ (mirror (p.map (kas_item it)) i j ((j - i) / 2)) pend g none) s
 rw [e1]
 exact h
theorem rmove {k l:Nat}{Q:Unit→SortSt→Shared→Prop}(h:Q () (sst κ it pend g (bubble p k (k - l))) s):kasC (model prog w) A E (moveDown' k l) Q (sst κ it pend g p) s:=by
 rw [moveDown'_eq]
 refine kasC_modify ?_
 have e1:bubble (p.map (kas_item it)) k (k - l)=(bubble p k (k - l)).map (kas_item it):=kas_swaps_map (kas_item it) (fun i=>k - i) (fun i=>k - i - 1) _ p
 show Q () (SortSt.mk' κ (bubble (p.map (kas_item it)) k (k - l)) pend g none) s
 rw [e1]
 exact h
theorem z504 {lo m ok:Nat}{Q:Bool→SortSt→Shared→Prop}(hc:Asks n lt (kas_cmp prog w A κ it) s) (o:Ord lt) (P:Pm n p) (hm:lo + m≤n) (h1:1≤ok) (hu:UpF lt (Kl lo p) ok) (hok:ok≤m) (q:∀ p',Kept n lo p p'→UpF lt (Kl lo p') m→Q true (sst κ it pend g p') s):
  kasC (model prog w) A E (binarySort' lo m ok) Q (sst κ it pend g p) s:=by
 rw [binarySort'_eq]
 have e1:max ok 1=ok:=by omega
 rw [e1]
 refine kasC_bind (z512 (fun t c st'=>c.1=none∧∃ p',st'=sst κ it pend g p'∧Kept n lo p p'∧UpF lt (Kl lo p') (ok + t)) (fun c st'=>c.1=none∧∃ p',st'=sst κ it pend g p'∧Kept n lo p p'∧UpF lt (Kl lo p') m) ⟨rfl,p,rfl,⟨P,fun _ _=>rfl⟩,hu⟩ ?_ ?_ ?_)
 ·rintro t ⟨r,_⟩ st' ht ⟨rfl,p',rfl,kp,up⟩
  have sz:=kp.pm.size
  dsimp only
  refine kasC_bind (z16 (fun t2 c st''=>st''=sst κ it pend g p'∧c.1=none∧c.2.1≤c.2.2∧c.2.2≤ok + t∧c.2.2 - c.2.1 + t2≤ok + t∧(∀ i,i < c.2.1→lt (Kl lo p' (ok + t)) (Kl lo p' i)=false)∧(∀ i,c.2.2≤i→i < ok + t→lt (Kl lo p' i) (Kl lo p' (ok + t))=false)) (fun c st''=>st''=sst κ it pend g p'∧c.1=none∧c.2.1≤ok + t∧(∀ i,i < c.2.1→lt (Kl lo p' (ok + t)) (Kl lo p' i)=false)∧(∀ i,c.2.1≤i→i < ok + t→lt (Kl lo p' i) (Kl lo p' (ok + t))=false)) ⟨rfl,rfl,Nat.zero_le _,Nat.le_refl _,by dsimp only;omega,fun i hi=>absurd hi (Nat.not_lt_zero i),fun i a b=>by dsimp only at a;omega⟩ ?_ ?_ ?_)
  ·rintro t2 x ⟨r,l,u⟩ st'' ht2 ⟨rfl,rfl,g1,g2,g3,g4,g5⟩
   dsimp only at g1 g2 g3 g4 g5 ⊢
   by_cases z:l ≥ u
   ·first | refine kasC_t z ?_ | rw [if_pos z]
    exact kasC_pure ⟨rfl,rfl,rfl,by dsimp only;omega,g4,fun i a b=>g5 i (by dsimp only at a;omega) b⟩
   ·first | refine kasC_f z ?_ | rw [if_neg z]
    refine kasC_bind (rltAt hc kp.pm (by omega) (by omega) ?_)
    have kk:lt (Kp p' (lo + (ok + t))) (Kp p' (lo + (l + u) / 2))=lt (Kl lo p' (ok + t)) (Kl lo p' ((l + u) / 2)):=rfl
    rw [kk]
    cases e:lt (Kl lo p' (ok + t)) (Kl lo p' ((l + u) / 2)) with
    | true=>
     dsimp only
     first | refine kasC_t rfl ?_ | rw [if_pos rfl]
     exact kasC_pure ⟨rfl,rfl,rfl,by dsimp only;omega,by dsimp only;omega,by dsimp only;omega,g4,fun i a b=>o.tr _ _ _ (o.as _ _ e) (up _ i a b)⟩
    | false=>
     dsimp only
     first | refine kasC_f (by decide) ?_ | rw [if_neg (by decide)]
     exact kasC_pure ⟨rfl,rfl,rfl,by dsimp only;omega,by dsimp only;omega,by dsimp only;omega,fun i a=>o.tr _ _ _ (up i ((l + u) / 2) (by dsimp only at a;omega) (by omega)) e,g5⟩
  ·rintro⟨r,l,u⟩ st'' ⟨rfl,rfl,g1,g2,g3,g4,g5⟩
   dsimp only at g1 g2 g3 g4 g5
   exact⟨rfl,rfl,by dsimp only;omega,g4,fun i a b=>g5 i (by dsimp only at a;omega) b⟩
  ·rintro⟨r,l,u⟩ st'' ⟨rfl,rfl,g2,a1,a2⟩
   dsimp only at g2 a1 a2 ⊢
   refine kasC_bind (rmove (kasC_pure ⟨rfl,rfl,_,rfl,⟨Array.Perm.trans (bubble_perm _ _ _) kp.pm,fun i hi=>?_⟩,fun i j hij hj=>?_⟩))
   ·rw [z392 (by omega) (by omega)]
    first | refine kasC_f (by omega) ?_ | rw [if_neg (by omega)]
    first | refine kasC_f (by omega) ?_ | rw [if_neg (by omega)]
    exact kp.pre i hi
   ·have kb:∀ x,Kl lo (bubble p' (lo + (ok + t)) (lo + (ok + t) - (lo + l))) x=if x=l then Kl lo p' (ok + t) else if l < x∧x≤ok + t then Kl lo p' (x - 1) else Kl lo p' x:=fun x=>by
     unfold Kl
     rw [z392 (by omega) (by omega)]
     by_cases h1:x=l
     ·first | refine kasC_t h1 ?_ | rw [if_pos h1]
      first | refine kasC_t (by omega) ?_ | rw [if_pos (by omega)]
     ·first | refine kasC_f h1 ?_ | rw [if_neg h1]
      first | refine kasC_f (by omega) ?_ | rw [if_neg (by omega)]
      by_cases h2:l < x∧x≤ok + t
      ·first | refine kasC_t h2 ?_ | rw [if_pos h2]
       first | refine kasC_t ⟨by omega,by omega⟩ ?_ | rw [if_pos ⟨by omega,by omega⟩]
       rw [show lo + x - 1=lo + (x - 1) by omega]
      ·first | refine kasC_f h2 ?_ | rw [if_neg h2]
       first | refine kasC_f (by omega) ?_ | rw [if_neg (by omega)]
    rw [kb,kb]
    by_cases i1:i=l
    ·first | refine kasC_t i1 ?_ | rw [if_pos i1]
     by_cases j1:j=l
     ·rw [if_pos j1];exact o.rf _
     ·first | refine kasC_f j1 ?_ | rw [if_neg j1]
      first | refine kasC_t ⟨by omega,by omega⟩ ?_ | rw [if_pos ⟨by omega,by omega⟩]
      exact a2 (j - 1) (by omega) (by omega)
    ·first | refine kasC_f i1 ?_ | rw [if_neg i1]
     by_cases j1:j=l
     ·first | refine kasC_t j1 ?_ | rw [if_pos j1]
      first | refine kasC_f (by omega) ?_ | rw [if_neg (by omega)]
      exact a1 i (by omega)
     ·first | refine kasC_f j1 ?_ | rw [if_neg j1]
      by_cases i2:l < i∧i≤ok + t
      ·first | refine kasC_t i2 ?_ | rw [if_pos i2]
       first | refine kasC_t ⟨by omega,by omega⟩ ?_ | rw [if_pos ⟨by omega,by omega⟩]
       exact up _ _ (by omega) (by omega)
      ·first | refine kasC_f i2 ?_ | rw [if_neg i2]
       by_cases j2:l < j∧j≤ok + t
       ·first | refine kasC_t j2 ?_ | rw [if_pos j2]
        exact up _ _ (by omega) (by omega)
       ·first | refine kasC_f j2 ?_ | rw [if_neg j2]
        exact up _ _ hij (by omega)
 ·rintro⟨r,_⟩ st' ⟨rfl,p',rfl,kp,up⟩
  rw [show ok + (m - ok)=m by omega] at up
  exact⟨rfl,p',rfl,kp,up⟩
 ·rintro⟨r,_⟩ st' ⟨rfl,p',rfl,kp,up⟩
  exact kasC_pure (q p' kp up)
end
end L2
set_option Elab.async false
set_option linter.all false
set_option maxRecDepth 100000
namespace L2
open PySem PySem.Spec PyProof.Rows PySem.W
section
variable {prog:Program}{w:World}{A:Around}{E:Value→Shared→Prop}{κ:SortKind}{it:Array Keyed}{n:Nat}{lt:Nat→Nat→Bool}{s:Shared}{pend:Array (Nat × Nat × Nat)}{g:Nat}{p:Array Nat}
theorem z532 {lo nrem:Nat}{Q:Option Nat→SortSt→Shared→Prop}(hc:Asks n lt (kas_cmp prog w A κ it) s) (o:Ord lt) (P:Pm n p) (hm:lo + nrem≤n) (h1:1≤nrem) (q:∀ m p',1≤m→m≤nrem→Kept n lo p p'→UpF lt (Kl lo p') m→Q (some m) (sst κ it pend g p') s):
  kasC (model prog w) A E (countRun' lo nrem) Q (sst κ it pend g p) s:=by
 have sz:=P.size
 have K0:Kept n lo p p:=⟨P,fun _ _=>rfl⟩
 unfold countRun'
 k_delta "countRun"
 refine kasC_bind (z16 (fun t c st'=>c.1=none∧c.2=t + 1∧UpF lt (Kl lo p) (t + 1)∧st'=sst κ it pend g p) (fun c st'=>c.1=none∧1≤c.2∧c.2≤nrem∧UpF lt (Kl lo p) c.2∧(c.2=nrem∨lt (Kl lo p c.2) (Kl lo p (c.2 - 1))=true)∧st'=sst κ it pend g p) ⟨rfl,rfl,z624 o,rfl⟩ ?_ ?_ ?_)
 ·rintro t x ⟨r,c⟩ st' ht ⟨rfl,rfl,up,rfl⟩
  try dsimp only
  refine kasC_bind (rltAt hc P (by omega) (by omega) ?_)
  rw [show lo + (t + 1) - 1=lo + t by omega,show lt (Kp p (lo + (t + 1))) (Kp p (lo + t))=lt (Kl lo p (t + 1)) (Kl lo p t) from rfl]
  cases e:lt (Kl lo p (t + 1)) (Kl lo p t) with
  | true=>exact kasC_pure ⟨rfl,rfl,by dsimp only;omega,by dsimp only;omega,up,.inr e,rfl⟩
  | false=>exact kasC_pure ⟨rfl,rfl,rfl,z236 o up e,rfl⟩
 ·rintro⟨r,c⟩ st' ⟨rfl,rfl,up,rfl⟩
  rw [show nrem - 1 + 1=nrem by omega] at up ⊢
  exact⟨rfl,h1,Nat.le_refl _,up,.inl rfl,rfl⟩
 ·rintro⟨r,c⟩ st' ⟨rfl,c1,c2,up,stop,rfl⟩
  dsimp only at c1 c2 up stop ⊢
  by_cases z:c=nrem
  ·first | refine kasC_t (by simp [z]) ?_ | rw [if_pos (by simp [z])]
   exact kasC_pure (q c p c1 c2 K0 up)
  ·first | refine kasC_f (by simp [z]) ?_ | rw [if_neg (by simp [z])]
   obtain⟨b,rfl⟩:∃ b,c=b + 1:=⟨c - 1,by omega⟩
   have h4:lt (Kl lo p (b + 1)) (Kl lo p b)=true:=by
    rcases stop with y | y
    ·exact absurd y z
    ·exact y
   have h5:=o.as _ _ h4
   by_cases z1:b + 1 > 1
   ·first | refine kasC_t z1 ?_ | rw [if_pos z1]
    rw [show lo + (b + 1) - 1=lo + b by omega]
    refine kasC_bind (rltAt hc P (by omega) (by omega) ?_)
    rw [show lt (Kp p lo) (Kp p (lo + b))=lt (Kl lo p 0) (Kl lo p b) from rfl]
    cases e:lt (Kl lo p 0) (Kl lo p b) with
    | true=>exact kasC_pure (q (b + 1) p c1 c2 K0 up)
    | false=>
     try dsimp only
     first | refine kasC_f (by decide) ?_ | rw [if_neg (by decide)]
     refine kasC_bind (rrev ?_)
     have ev:EvF lt (Kl lo p) 0 (b + 1):=fun i j a1 a2 a3 a4=>o.tr _ _ _ (up j b (by omega) (by omega)) (o.tr _ _ _ e (up 0 i (by omega) a2))
     have al:=al_rev (lo:=lo) (u:=0) (v:=b + 1) o (by omega) (Nat.zero_le _) ev
     have dn0:DnF lt (Kl lo p) (b + 1):=fun i j hij hj=>ev i j (Nat.zero_le _) (by omega) (Nat.zero_le _) hj
     have K1:Kept n lo p (kas_rev p lo (lo + (b + 1))):=Kept.rev (u:=0) K0 (by omega) (Nat.zero_le _)
     have D1:DnF lt (Kl lo (kas_rev p lo (lo + (b + 1)))) (b + 2):=z100 o (z161 o dn0 al) (o.tr _ _ _ (al (b + 1)).2 (o.tr _ _ _ h5 (al b).1))
     refine kasC_bind (kasC_lift (wpAny_rule ?_))
     try dsimp only
     refine kasC_bind (z16 (fun t c st'=>c.1=none∧c.2.1=b + 2 + t∧∃ p2,st'=sst κ it pend g p2∧Kept n lo p p2∧c.2.2 + 1≤c.2.1∧DnF lt (Kl lo p2) c.2.1∧EvF lt (Kl lo p2) (c.2.1 - 1 - c.2.2) c.2.1) (fun c st'=>c.1=none∧b + 2≤c.2.1∧c.2.1≤nrem∧∃ p2,st'=sst κ it pend g p2∧Kept n lo p p2∧c.2.2 + 1≤c.2.1∧DnF lt (Kl lo p2) c.2.1∧EvF lt (Kl lo p2) (c.2.1 - 1 - c.2.2) c.2.1) ⟨rfl,rfl,_,rfl,K1,by dsimp only;omega,D1,fun i j a1 a2 a3 a4=>by dsimp only at a1 a2 a3 a4;rw [show i=b + 1 by omega,show j=b + 1 by omega];exact o.rf _⟩ ?_ ?_ ?_)
     ·rintro t x ⟨r,c,ne⟩ st' ht ⟨rfl,ec,p2,rfl,k2,n2,d2,e2⟩
      dsimp only at ec n2 d2 e2 ⊢
      have s2:=k2.pm.size
      obtain⟨c',rfl⟩:∃ c',c=c' + 1:=⟨c - 1,by omega⟩
      rw [show lo + (c' + 1) - 1=lo + c' by omega]
      refine kasC_bind (rltAt hc k2.pm (by omega) (by omega) ?_)
      rw [show lt (Kp p2 (lo + (c' + 1))) (Kp p2 (lo + c'))=lt (Kl lo p2 (c' + 1)) (Kl lo p2 c') from rfl]
      cases e:lt (Kl lo p2 (c' + 1)) (Kl lo p2 c') with
      | true=>
       try dsimp only
       first | refine kasC_t rfl ?_ | rw [if_pos rfl]
       have one:∀ f:Nat→Nat,EvF lt f (c' + 1 + 1 - 1 - 0) (c' + 1 + 1):=fun f i j a1 a2 a3 a4=>by rw [show i=c' + 1 by omega,show j=c' + 1 by omega];exact o.rf _
       by_cases z:ne > 0
       ·first | refine kasC_t z ?_ | rw [if_pos z]
        rw [show lo + (c' + 1) - (ne + 1)=lo + (c' - ne) by omega]
        refine kasC_bind (rrev (kasC_pure ⟨rfl,rfl,by dsimp only;omega,_,rfl,k2.rev (by omega) (by omega),by dsimp only;omega,?_,one _⟩))
        have al:=al_rev (p:=p2) (lo:=lo) (u:=c' - ne) (v:=c' + 1) o (by omega) (by omega) (by rw [show c' + 1 - 1 - ne=c' - ne by omega] at e2;exact e2)
        exact z100 o (z161 o d2 al) (o.tr _ _ _ (al (c' + 1)).2 (o.tr _ _ _ (o.as _ _ e) (al c').1))
       ·first | refine kasC_f z ?_ | rw [if_neg z]
        exact kasC_pure ⟨rfl,rfl,by dsimp only;omega,p2,rfl,k2,by dsimp only;omega,z100 o d2 (o.as _ _ e),one _⟩
      | false=>
       try dsimp only
       first | refine kasC_f (by decide) ?_ | rw [if_neg (by decide)]
       refine kasC_bind (rltAt hc k2.pm (by omega) (by omega) ?_)
       rw [show lt (Kp p2 (lo + c')) (Kp p2 (lo + (c' + 1)))=lt (Kl lo p2 c') (Kl lo p2 (c' + 1)) from rfl]
       cases e3:lt (Kl lo p2 c') (Kl lo p2 (c' + 1)) with
       | true=>exact kasC_pure ⟨rfl,rfl,by dsimp only;omega,by dsimp only;omega,p2,rfl,k2,n2,d2,e2⟩
       | false=>
        refine kasC_pure ⟨rfl,rfl,by dsimp only;omega,p2,rfl,k2,by dsimp only;omega,z100 o d2 e3,?_⟩
        intro i j a1 a2 a3 a4
        dsimp only at a1 a2 a3 a4
        have new:∀ i,c' + 1 - 1 - ne≤i→i < c' + 1→lt (Kl lo p2 i) (Kl lo p2 (c' + 1))=false∧lt (Kl lo p2 (c' + 1)) (Kl lo p2 i)=false:=fun i g1 g2=>
         ⟨o.tr _ _ _ e3 (e2 i c' g1 g2 (by omega) (by omega)),o.tr _ _ _ (e2 c' i (by omega) (by omega) g1 g2) e⟩
        by_cases w1:i=c' + 1
        ·by_cases w2:j=c' + 1
         ·rw [w1,w2];exact o.rf _
         ·rw [w1];exact(new j (by omega) (by omega)).2
        ·by_cases w2:j=c' + 1
         ·rw [w2];exact(new i (by omega) (by omega)).1
         ·exact e2 i j (by omega) (by omega) (by omega) (by omega)
     ·rintro⟨r,c,ne⟩ st' ⟨rfl,ec,p2,rfl,k2,n2,d2,e2⟩
      dsimp only at ec
      exact⟨rfl,by dsimp only;omega,by dsimp only;omega,p2,rfl,k2,n2,d2,e2⟩
     ·rintro⟨r,c,ne⟩ st' ⟨rfl,c1,c2,p2,rfl,K2,n2,d2,e2⟩
      dsimp only at c1 c2 n2 d2 e2 ⊢
      have s2:=K2.pm.size
      by_cases z:ne > 0
      ·first | refine kasC_t z ?_ | rw [if_pos z]
       rw [show lo + c - (ne + 1)=lo + (c - 1 - ne) by omega]
       refine kasC_bind (rrev ?_)
       have al:=al_rev (p:=p2) (lo:=lo) (u:=c - 1 - ne) (v:=c) o (by omega) (by omega) e2
       have D2:=z161 o d2 al
       have K2':=K2
       have K2:=K2'.rev (u:=c - 1 - ne) (v:=c) (by omega) (by omega)
       refine kasC_bind (rrev ?_)
       have kr:Kept n lo p (kas_rev (kas_rev p2 (lo + (c - 1 - ne)) (lo + c)) lo (lo + c)):=Kept.rev (u:=0) K2 (by omega) (Nat.zero_le _)
       have ur:UpF lt (Kl lo (kas_rev (kas_rev p2 (lo + (c - 1 - ne)) (lo + c)) lo (lo + c))) c:=fun i j hij hj=>by
        have e:=kl_rev (lo:=lo) (u:=0) (v:=c) (p:=(kas_rev p2 (lo + (c - 1 - ne)) (lo + c))) (by rw [K2.pm.size];omega) (Nat.zero_le _)
        rw [show kas_rev (kas_rev p2 (lo + (c - 1 - ne)) (lo + c)) lo (lo + c)=kas_rev (kas_rev p2 (lo + (c - 1 - ne)) (lo + c)) (lo + 0) (lo + c) from rfl,e,e]
        first | refine kasC_t ⟨Nat.zero_le _,hj⟩ ?_ | rw [if_pos ⟨Nat.zero_le _,hj⟩]
        first | refine kasC_t ⟨Nat.zero_le _,by omega⟩ ?_ | rw [if_pos ⟨Nat.zero_le _,by omega⟩]
        exact D2 _ _ (by omega) (by omega)
       refine kasC_bind (z16 (fun t d st'=>d.1=none∧d.2=c + t∧UpF lt (Kl lo (kas_rev (kas_rev p2 (lo + (c - 1 - ne)) (lo + c)) lo (lo + c))) (c + t)∧st'=sst κ it pend g (kas_rev (kas_rev p2 (lo + (c - 1 - ne)) (lo + c)) lo (lo + c))) (fun d st'=>d.1=none∧1≤d.2∧d.2≤nrem∧UpF lt (Kl lo (kas_rev (kas_rev p2 (lo + (c - 1 - ne)) (lo + c)) lo (lo + c))) d.2∧st'=sst κ it pend g (kas_rev (kas_rev p2 (lo + (c - 1 - ne)) (lo + c)) lo (lo + c))) ⟨rfl,rfl,ur,rfl⟩ ?_ ?_ ?_)
       ·rintro t x ⟨r,c3⟩ st' ht ⟨rfl,rfl,up,rfl⟩
        try dsimp only
        refine kasC_bind (rltAt hc kr.pm (by omega) (by omega) ?_)
        rw [show lo + (c + t) - 1=lo + (c + t - 1) by omega,show lt (Kp (kas_rev (kas_rev p2 (lo + (c - 1 - ne)) (lo + c)) lo (lo + c)) (lo + (c + t))) (Kp (kas_rev (kas_rev p2 (lo + (c - 1 - ne)) (lo + c)) lo (lo + c)) (lo + (c + t - 1)))=lt (Kl lo (kas_rev (kas_rev p2 (lo + (c - 1 - ne)) (lo + c)) lo (lo + c)) (c + t)) (Kl lo (kas_rev (kas_rev p2 (lo + (c - 1 - ne)) (lo + c)) lo (lo + c)) (c + t - 1)) from rfl]
        cases e:lt (Kl lo (kas_rev (kas_rev p2 (lo + (c - 1 - ne)) (lo + c)) lo (lo + c)) (c + t)) (Kl lo (kas_rev (kas_rev p2 (lo + (c - 1 - ne)) (lo + c)) lo (lo + c)) (c + t - 1)) with
        | true=>exact kasC_pure ⟨rfl,rfl,by dsimp only;omega,by dsimp only;omega,up,rfl⟩
        | false=>
         refine kasC_pure ⟨rfl,rfl,rfl,?_,rfl⟩
         obtain⟨b',hb⟩:∃ b',c + t=b' + 1:=⟨c + t - 1,by omega⟩
         rw [show c + (t + 1)=b' + 2 by omega]
         rw [hb] at up e
         exact z236 o up e
       ·rintro⟨r,c3⟩ st' ⟨rfl,rfl,up,rfl⟩
        exact⟨rfl,by dsimp only;omega,by dsimp only;omega,up,rfl⟩
       ·rintro⟨r,c3⟩ st' ⟨rfl,c4,c5,up,rfl⟩
        exact kasC_pure (q c3 _ c4 c5 kr up)
      ·first | refine kasC_f z ?_ | rw [if_neg z]
       have D2:=d2
       refine kasC_bind (rrev ?_)
       have kr:Kept n lo p (kas_rev p2 lo (lo + c)):=Kept.rev (u:=0) K2 (by omega) (Nat.zero_le _)
       have ur:UpF lt (Kl lo (kas_rev p2 lo (lo + c))) c:=fun i j hij hj=>by
        have e:=kl_rev (lo:=lo) (u:=0) (v:=c) (p:=p2) (by rw [K2.pm.size];omega) (Nat.zero_le _)
        rw [show kas_rev p2 lo (lo + c)=kas_rev p2 (lo + 0) (lo + c) from rfl,e,e]
        first | refine kasC_t ⟨Nat.zero_le _,hj⟩ ?_ | rw [if_pos ⟨Nat.zero_le _,hj⟩]
        first | refine kasC_t ⟨Nat.zero_le _,by omega⟩ ?_ | rw [if_pos ⟨Nat.zero_le _,by omega⟩]
        exact D2 _ _ (by omega) (by omega)
       refine kasC_bind (z16 (fun t d st'=>d.1=none∧d.2=c + t∧UpF lt (Kl lo (kas_rev p2 lo (lo + c))) (c + t)∧st'=sst κ it pend g (kas_rev p2 lo (lo + c))) (fun d st'=>d.1=none∧1≤d.2∧d.2≤nrem∧UpF lt (Kl lo (kas_rev p2 lo (lo + c))) d.2∧st'=sst κ it pend g (kas_rev p2 lo (lo + c))) ⟨rfl,rfl,ur,rfl⟩ ?_ ?_ ?_)
       ·rintro t x ⟨r,c3⟩ st' ht ⟨rfl,rfl,up,rfl⟩
        try dsimp only
        refine kasC_bind (rltAt hc kr.pm (by omega) (by omega) ?_)
        rw [show lo + (c + t) - 1=lo + (c + t - 1) by omega,show lt (Kp (kas_rev p2 lo (lo + c)) (lo + (c + t))) (Kp (kas_rev p2 lo (lo + c)) (lo + (c + t - 1)))=lt (Kl lo (kas_rev p2 lo (lo + c)) (c + t)) (Kl lo (kas_rev p2 lo (lo + c)) (c + t - 1)) from rfl]
        cases e:lt (Kl lo (kas_rev p2 lo (lo + c)) (c + t)) (Kl lo (kas_rev p2 lo (lo + c)) (c + t - 1)) with
        | true=>exact kasC_pure ⟨rfl,rfl,by dsimp only;omega,by dsimp only;omega,up,rfl⟩
        | false=>
         refine kasC_pure ⟨rfl,rfl,rfl,?_,rfl⟩
         obtain⟨b',hb⟩:∃ b',c + t=b' + 1:=⟨c + t - 1,by omega⟩
         rw [show c + (t + 1)=b' + 2 by omega]
         rw [hb] at up e
         exact z236 o up e
       ·rintro⟨r,c3⟩ st' ⟨rfl,rfl,up,rfl⟩
        exact⟨rfl,by dsimp only;omega,by dsimp only;omega,up,rfl⟩
       ·rintro⟨r,c3⟩ st' ⟨rfl,c4,c5,up,rfl⟩
        exact kasC_pure (q c3 _ c4 c5 kr up)
   ·first | refine kasC_f z1 ?_ | rw [if_neg z1]
    obtain rfl:b=0:=by omega
    have K1:=K0
    have D1:DnF lt (Kl lo p) (0 + 2):=z100 o (fun i j hij hj=>by rw [show i=0 by omega,show j=0 by omega];exact o.rf _) h5
    refine kasC_bind (kasC_lift (wpAny_rule ?_))
    try dsimp only
    refine kasC_bind (z16 (fun t c st'=>c.1=none∧c.2.1=0 + 2 + t∧∃ p2,st'=sst κ it pend g p2∧Kept n lo p p2∧c.2.2 + 1≤c.2.1∧DnF lt (Kl lo p2) c.2.1∧EvF lt (Kl lo p2) (c.2.1 - 1 - c.2.2) c.2.1) (fun c st'=>c.1=none∧0 + 2≤c.2.1∧c.2.1≤nrem∧∃ p2,st'=sst κ it pend g p2∧Kept n lo p p2∧c.2.2 + 1≤c.2.1∧DnF lt (Kl lo p2) c.2.1∧EvF lt (Kl lo p2) (c.2.1 - 1 - c.2.2) c.2.1) ⟨rfl,rfl,p,rfl,K1,by dsimp only;omega,D1,fun i j a1 a2 a3 a4=>by dsimp only at a1 a2 a3 a4;rw [show i=0 + 1 by omega,show j=0 + 1 by omega];exact o.rf _⟩ ?_ ?_ ?_)
    ·rintro t x ⟨r,c,ne⟩ st' ht ⟨rfl,ec,p2,rfl,k2,n2,d2,e2⟩
     dsimp only at ec n2 d2 e2 ⊢
     have s2:=k2.pm.size
     obtain⟨c',rfl⟩:∃ c',c=c' + 1:=⟨c - 1,by omega⟩
     rw [show lo + (c' + 1) - 1=lo + c' by omega]
     refine kasC_bind (rltAt hc k2.pm (by omega) (by omega) ?_)
     rw [show lt (Kp p2 (lo + (c' + 1))) (Kp p2 (lo + c'))=lt (Kl lo p2 (c' + 1)) (Kl lo p2 c') from rfl]
     cases e:lt (Kl lo p2 (c' + 1)) (Kl lo p2 c') with
     | true=>
      try dsimp only
      first | refine kasC_t rfl ?_ | rw [if_pos rfl]
      have one:∀ f:Nat→Nat,EvF lt f (c' + 1 + 1 - 1 - 0) (c' + 1 + 1):=fun f i j a1 a2 a3 a4=>by rw [show i=c' + 1 by omega,show j=c' + 1 by omega];exact o.rf _
      by_cases z:ne > 0
      ·first | refine kasC_t z ?_ | rw [if_pos z]
       rw [show lo + (c' + 1) - (ne + 1)=lo + (c' - ne) by omega]
       refine kasC_bind (rrev (kasC_pure ⟨rfl,rfl,by dsimp only;omega,_,rfl,k2.rev (by omega) (by omega),by dsimp only;omega,?_,one _⟩))
       have al:=al_rev (p:=p2) (lo:=lo) (u:=c' - ne) (v:=c' + 1) o (by omega) (by omega) (by rw [show c' + 1 - 1 - ne=c' - ne by omega] at e2;exact e2)
       exact z100 o (z161 o d2 al) (o.tr _ _ _ (al (c' + 1)).2 (o.tr _ _ _ (o.as _ _ e) (al c').1))
      ·first | refine kasC_f z ?_ | rw [if_neg z]
       exact kasC_pure ⟨rfl,rfl,by dsimp only;omega,p2,rfl,k2,by dsimp only;omega,z100 o d2 (o.as _ _ e),one _⟩
     | false=>
      try dsimp only
      first | refine kasC_f (by decide) ?_ | rw [if_neg (by decide)]
      refine kasC_bind (rltAt hc k2.pm (by omega) (by omega) ?_)
      rw [show lt (Kp p2 (lo + c')) (Kp p2 (lo + (c' + 1)))=lt (Kl lo p2 c') (Kl lo p2 (c' + 1)) from rfl]
      cases e3:lt (Kl lo p2 c') (Kl lo p2 (c' + 1)) with
      | true=>exact kasC_pure ⟨rfl,rfl,by dsimp only;omega,by dsimp only;omega,p2,rfl,k2,n2,d2,e2⟩
      | false=>
       refine kasC_pure ⟨rfl,rfl,by dsimp only;omega,p2,rfl,k2,by dsimp only;omega,z100 o d2 e3,?_⟩
       intro i j a1 a2 a3 a4
       dsimp only at a1 a2 a3 a4
       have new:∀ i,c' + 1 - 1 - ne≤i→i < c' + 1→lt (Kl lo p2 i) (Kl lo p2 (c' + 1))=false∧lt (Kl lo p2 (c' + 1)) (Kl lo p2 i)=false:=fun i g1 g2=>
        ⟨o.tr _ _ _ e3 (e2 i c' g1 g2 (by omega) (by omega)),o.tr _ _ _ (e2 c' i (by omega) (by omega) g1 g2) e⟩
       by_cases w1:i=c' + 1
       ·by_cases w2:j=c' + 1
        ·rw [w1,w2];exact o.rf _
        ·rw [w1];exact(new j (by omega) (by omega)).2
       ·by_cases w2:j=c' + 1
        ·rw [w2];exact(new i (by omega) (by omega)).1
        ·exact e2 i j (by omega) (by omega) (by omega) (by omega)
    ·rintro⟨r,c,ne⟩ st' ⟨rfl,ec,p2,rfl,k2,n2,d2,e2⟩
     dsimp only at ec
     exact⟨rfl,by dsimp only;omega,by dsimp only;omega,p2,rfl,k2,n2,d2,e2⟩
    ·rintro⟨r,c,ne⟩ st' ⟨rfl,c1,c2,p2,rfl,K2,n2,d2,e2⟩
     dsimp only at c1 c2 n2 d2 e2 ⊢
     have s2:=K2.pm.size
     by_cases z:ne > 0
     ·first | refine kasC_t z ?_ | rw [if_pos z]
      rw [show lo + c - (ne + 1)=lo + (c - 1 - ne) by omega]
      refine kasC_bind (rrev ?_)
      have al:=al_rev (p:=p2) (lo:=lo) (u:=c - 1 - ne) (v:=c) o (by omega) (by omega) e2
      have D2:=z161 o d2 al
      have K2':=K2
      have K2:=K2'.rev (u:=c - 1 - ne) (v:=c) (by omega) (by omega)
      refine kasC_bind (rrev ?_)
      have kr:Kept n lo p (kas_rev (kas_rev p2 (lo + (c - 1 - ne)) (lo + c)) lo (lo + c)):=Kept.rev (u:=0) K2 (by omega) (Nat.zero_le _)
      have ur:UpF lt (Kl lo (kas_rev (kas_rev p2 (lo + (c - 1 - ne)) (lo + c)) lo (lo + c))) c:=fun i j hij hj=>by
       have e:=kl_rev (lo:=lo) (u:=0) (v:=c) (p:=(kas_rev p2 (lo + (c - 1 - ne)) (lo + c))) (by rw [K2.pm.size];omega) (Nat.zero_le _)
       rw [show kas_rev (kas_rev p2 (lo + (c - 1 - ne)) (lo + c)) lo (lo + c)=kas_rev (kas_rev p2 (lo + (c - 1 - ne)) (lo + c)) (lo + 0) (lo + c) from rfl,e,e]
       first | refine kasC_t ⟨Nat.zero_le _,hj⟩ ?_ | rw [if_pos ⟨Nat.zero_le _,hj⟩]
       first | refine kasC_t ⟨Nat.zero_le _,by omega⟩ ?_ | rw [if_pos ⟨Nat.zero_le _,by omega⟩]
       exact D2 _ _ (by omega) (by omega)
      refine kasC_bind (z16 (fun t d st'=>d.1=none∧d.2=c + t∧UpF lt (Kl lo (kas_rev (kas_rev p2 (lo + (c - 1 - ne)) (lo + c)) lo (lo + c))) (c + t)∧st'=sst κ it pend g (kas_rev (kas_rev p2 (lo + (c - 1 - ne)) (lo + c)) lo (lo + c))) (fun d st'=>d.1=none∧1≤d.2∧d.2≤nrem∧UpF lt (Kl lo (kas_rev (kas_rev p2 (lo + (c - 1 - ne)) (lo + c)) lo (lo + c))) d.2∧st'=sst κ it pend g (kas_rev (kas_rev p2 (lo + (c - 1 - ne)) (lo + c)) lo (lo + c))) ⟨rfl,rfl,ur,rfl⟩ ?_ ?_ ?_)
      ·rintro t x ⟨r,c3⟩ st' ht ⟨rfl,rfl,up,rfl⟩
       try dsimp only
       refine kasC_bind (rltAt hc kr.pm (by omega) (by omega) ?_)
       rw [show lo + (c + t) - 1=lo + (c + t - 1) by omega,show lt (Kp (kas_rev (kas_rev p2 (lo + (c - 1 - ne)) (lo + c)) lo (lo + c)) (lo + (c + t))) (Kp (kas_rev (kas_rev p2 (lo + (c - 1 - ne)) (lo + c)) lo (lo + c)) (lo + (c + t - 1)))=lt (Kl lo (kas_rev (kas_rev p2 (lo + (c - 1 - ne)) (lo + c)) lo (lo + c)) (c + t)) (Kl lo (kas_rev (kas_rev p2 (lo + (c - 1 - ne)) (lo + c)) lo (lo + c)) (c + t - 1)) from rfl]
       cases e:lt (Kl lo (kas_rev (kas_rev p2 (lo + (c - 1 - ne)) (lo + c)) lo (lo + c)) (c + t)) (Kl lo (kas_rev (kas_rev p2 (lo + (c - 1 - ne)) (lo + c)) lo (lo + c)) (c + t - 1)) with
       | true=>exact kasC_pure ⟨rfl,rfl,by dsimp only;omega,by dsimp only;omega,up,rfl⟩
       | false=>
        refine kasC_pure ⟨rfl,rfl,rfl,?_,rfl⟩
        obtain⟨b',hb⟩:∃ b',c + t=b' + 1:=⟨c + t - 1,by omega⟩
        rw [show c + (t + 1)=b' + 2 by omega]
        rw [hb] at up e
        exact z236 o up e
      ·rintro⟨r,c3⟩ st' ⟨rfl,rfl,up,rfl⟩
       exact⟨rfl,by dsimp only;omega,by dsimp only;omega,up,rfl⟩
      ·rintro⟨r,c3⟩ st' ⟨rfl,c4,c5,up,rfl⟩
       exact kasC_pure (q c3 _ c4 c5 kr up)
     ·first | refine kasC_f z ?_ | rw [if_neg z]
      have D2:=d2
      refine kasC_bind (rrev ?_)
      have kr:Kept n lo p (kas_rev p2 lo (lo + c)):=Kept.rev (u:=0) K2 (by omega) (Nat.zero_le _)
      have ur:UpF lt (Kl lo (kas_rev p2 lo (lo + c))) c:=fun i j hij hj=>by
       have e:=kl_rev (lo:=lo) (u:=0) (v:=c) (p:=p2) (by rw [K2.pm.size];omega) (Nat.zero_le _)
       rw [show kas_rev p2 lo (lo + c)=kas_rev p2 (lo + 0) (lo + c) from rfl,e,e]
       first | refine kasC_t ⟨Nat.zero_le _,hj⟩ ?_ | rw [if_pos ⟨Nat.zero_le _,hj⟩]
       first | refine kasC_t ⟨Nat.zero_le _,by omega⟩ ?_ | rw [if_pos ⟨Nat.zero_le _,by omega⟩]
       exact D2 _ _ (by omega) (by omega)
      refine kasC_bind (z16 (fun t d st'=>d.1=none∧d.2=c + t∧UpF lt (Kl lo (kas_rev p2 lo (lo + c))) (c + t)∧st'=sst κ it pend g (kas_rev p2 lo (lo + c))) (fun d st'=>d.1=none∧1≤d.2∧d.2≤nrem∧UpF lt (Kl lo (kas_rev p2 lo (lo + c))) d.2∧st'=sst κ it pend g (kas_rev p2 lo (lo + c))) ⟨rfl,rfl,ur,rfl⟩ ?_ ?_ ?_)
      ·rintro t x ⟨r,c3⟩ st' ht ⟨rfl,rfl,up,rfl⟩
       try dsimp only
       refine kasC_bind (rltAt hc kr.pm (by omega) (by omega) ?_)
       rw [show lo + (c + t) - 1=lo + (c + t - 1) by omega,show lt (Kp (kas_rev p2 lo (lo + c)) (lo + (c + t))) (Kp (kas_rev p2 lo (lo + c)) (lo + (c + t - 1)))=lt (Kl lo (kas_rev p2 lo (lo + c)) (c + t)) (Kl lo (kas_rev p2 lo (lo + c)) (c + t - 1)) from rfl]
       cases e:lt (Kl lo (kas_rev p2 lo (lo + c)) (c + t)) (Kl lo (kas_rev p2 lo (lo + c)) (c + t - 1)) with
       | true=>exact kasC_pure ⟨rfl,rfl,by dsimp only;omega,by dsimp only;omega,up,rfl⟩
       | false=>
        refine kasC_pure ⟨rfl,rfl,rfl,?_,rfl⟩
        obtain⟨b',hb⟩:∃ b',c + t=b' + 1:=⟨c + t - 1,by omega⟩
        rw [show c + (t + 1)=b' + 2 by omega]
        rw [hb] at up e
        exact z236 o up e
      ·rintro⟨r,c3⟩ st' ⟨rfl,rfl,up,rfl⟩
       exact⟨rfl,by dsimp only;omega,by dsimp only;omega,up,rfl⟩
      ·rintro⟨r,c3⟩ st' ⟨rfl,c4,c5,up,rfl⟩
       exact kasC_pure (q c3 _ c4 c5 kr up)
end
end L2
set_option Elab.async false
set_option linter.all false
set_option maxRecDepth 100000
namespace L2
open PySem PySem.Spec PyProof.Rows PySem.W
abbrev Rn:=Nat × Nat × Nat
def Ch (lt:Nat→Nat→Bool) (l:List Nat):Nat→List Rn→Nat→Prop
 | a,[],b=>a=b
 | a,(x,k,_)::L,b=>x=a∧0 < k∧Srt lt (seg l a k)∧Ch lt l (a + k) L b
section
variable {lt:Nat→Nat→Bool}{l l':List Nat}
theorem Ch.le:∀ {L:List Rn}{a b:Nat},Ch lt l a L b→a + L.length≤b
 | [],a,b,h=>by rw [show a=b from h];exact Nat.le_refl _
 | (x,k,w)::L,a,b,h=>by
  have:=Ch.le h.2.2.2
  have:=h.2.1
  rw [List.length_cons]
  omega
theorem z348 {a k:Nat}(h:∀ i,a≤i→i < a + k→l'[i]?=l[i]?):seg l' a k=seg l a k:=by
 refine List.ext_getElem? fun i=>?_
 by_cases z:i < k
 ·rw [z92 z,z92 z]
  exact h _ (by omega) (by omega)
 ·unfold seg
  rw [List.getElem?_take,List.getElem?_take]
  first | refine kasC_f z ?_ | rw [if_neg z]
  first | refine kasC_f z ?_ | rw [if_neg z]
theorem Ch.same:∀ {L:List Rn}{a b:Nat},Ch lt l a L b→(∀ i,a≤i→i < b→l'[i]?=l[i]?)→Ch lt l' a L b
 | [],_,_,h,_=>h
 | (x,k,w)::L,a,b,h,e=>by
  have:=Ch.le h.2.2.2
  exact⟨h.1,h.2.1,by rw [z348 fun i h1 h2=>e i h1 (by omega)];exact h.2.2.1,Ch.same h.2.2.2 fun i h1 h2=>e i (by omega) h2⟩
theorem Ch.app:∀ {L M:List Rn}{a b:Nat},Ch lt l a (L++M) b↔∃ c,Ch lt l a L c∧Ch lt l c M b
 | [],M,a,b=>⟨fun h=>⟨a,rfl,h⟩,fun⟨c,h1,h2⟩=>by rw [show a=c from h1];exact h2⟩
 | (x,k,w)::L,M,a,b=>by
  constructor
  ·rintro⟨h1,h2,h3,h4⟩
   obtain⟨c,h5,h6⟩:=Ch.app.mp h4
   exact⟨c,⟨h1,h2,h3,h5⟩,h6⟩
  ·rintro⟨c,⟨h1,h2,h3,h5⟩,h6⟩
   exact⟨h1,h2,h3,Ch.app.mpr ⟨c,h5,h6⟩⟩
theorem z350 {a:Nat}{r:List Nat}(h:a + r.length≤l.length){i:Nat}(hi:i < a∨a + r.length≤i):(putS l a r)[i]?=l[i]?:=by
 unfold putS
 rcases hi with hi | hi
 ·rw [List.append_assoc,List.getElem?_append_left (by rw [List.length_take];omega),List.getElem?_take]
  first | refine kasC_t hi ?_ | rw [if_pos hi]
 ·rw [List.getElem?_append_right (by rw [List.length_append,List.length_take];omega),List.length_append,List.length_take,List.getElem?_drop]
  congr 1
  omega
theorem z609 {a:Nat}{r:List Nat}(h:a + r.length≤l.length):seg (putS l a r) a r.length=r:=by
 unfold seg putS
 rw [List.append_assoc,List.drop_append_of_le_length (by rw [List.length_take];omega),List.drop_of_length_le (by rw [List.length_take];omega),List.nil_append,List.take_append_of_le_length (Nat.le_refl _),List.take_length]
theorem z515 {a:Nat}{r:List Nat}(h:r.Perm (seg l a r.length)):(putS l a r).Perm l:=by
 unfold putS
 have e:l=l.take a++seg l a r.length++l.drop (a + r.length):=by rw [← z431,List.take_append_drop]
 conv=>rhs;rw [e]
 exact(List.Perm.append_left _ h).append_right _
theorem Ch.merge {L1 L2:List Rn}{a b c na nb pw pw2:Nat}{R:List Nat}(h:Ch lt l a (L1++(c,na,pw)::(c + na,nb,pw2)::L2) b) (hb:b≤l.length) (hR:Merged lt (seg l c na) (seg l (c + na) nb) R) (lR:R.length=na + nb):Ch lt (putS l c R) a (L1++(c,na + nb,pw)::L2) b∧(putS l c R).Perm l:=by
 obtain⟨d,h1,h2,h3,h4,h5,h6,h7,h8⟩:=Ch.app.mp h
 subst h2
 have le1:=Ch.le h1
 have le2:=Ch.le h8
 have hl:c + R.length≤l.length:=by omega
 refine⟨Ch.app.mpr ⟨c,h1.same fun i g1 g2=>z350 hl (.inl g2),rfl,by omega,?_,?_⟩,z515 ?_⟩
 ·rw [← lR,z609 hl]
  exact hR.2
 ·rw [← Nat.add_assoc]
  exact h8.same fun i g1 g2=>z350 hl (.inr (by omega))
 ·rw [lR,← z484]
  exact hR.1
theorem Ch.pow {L:List Rn}{x k w w' a b:Nat}(h:Ch lt l a (L++[(x,k,w)]) b):Ch lt l a (L++[(x,k,w')]) b:=by
 obtain⟨c,h1,h2⟩:=Ch.app.mp h
 exact Ch.app.mpr ⟨c,h1,h2⟩
theorem srt_up {p:Array Nat}{lo m:Nat}(h:UpF lt (Kl lo p) m) (hm:lo + m≤p.size):Srt lt (seg p.toList lo m):=by
 refine List.pairwise_iff_getElem.mpr fun i j hi hj hij=>?_
 have lm:(seg p.toList lo m).length=m:=z146 (by simpa using hm)
 have at':∀ {i} (hi:i < (seg p.toList lo m).length),(seg p.toList lo m)[i]=Kl lo p i:=fun{i} hi=>by
  have e:=z92 (p:=p.toList) (a:=lo) (k:=m) (i:=i) (by omega)
  rw [List.getElem?_eq_getElem hi] at e
  have e2:p.toList[lo + i]?=some (Kl lo p i):=by
   unfold Kl Kp
   have:lo + i < p.size:=by omega
   simp [Array.getD,this]
  rw [e2] at e
  exact Option.some.inj e
 rw [at' hi,at' hj]
 exact h i j (by omega) (by omega)
theorem up_srt {p:Array Nat}{n:Nat}(hn:p.size=n) (h:Srt lt (seg p.toList 0 n)) (o:Ord lt):Up lt p n:=fun i j hij hj=>by
 have e:seg p.toList 0 n=p.toList:=by unfold seg;rw [List.drop_zero,List.take_of_length_le (by simp [hn])]
 rw [e] at h
 have at':∀ {i},i < n→p.toList[i]?=some (Kp p i):=fun{i} hi=>by
  unfold Kp
  have:i < p.size:=by omega
  simp [Array.getD,this]
 exact h.head (at' (by omega)) (o.rf _) _ (List.mem_of_getElem? (i:=j - i) (by rw [List.getElem?_drop,show i + (j - i)=j by omega];exact at' hj))
theorem z490 {n lo:Nat}{p p':Array Nat}(P:Pm n p) (k:Kept n lo p p') (hlo:lo≤n):∀ i,i < lo→p'.toList[i]?=p.toList[i]?:=fun i hi=>by
 have s1:=P.size
 have s2:=k.pm.size
 have:=k.pre i hi
 unfold Kp at this
 have a1:i < p.size:=by omega
 have a2:i < p'.size:=by omega
 simp [Array.getD,a1,a2] at this
 simp [a1,a2,this]
end
section
variable {prog:Program}{w:World}{A:Around}{E:Value→Shared→Prop}{κ:SortKind}{it:Array Keyed}{n:Nat}{lt:Nat→Nat→Bool}{s:Shared}
theorem z547 {p:Array Nat}:p.map (kas_item it)=its it p.toList:=by simp [its,← Array.toList_map]
theorem z346 {L1 L2:List Rn}{p:Array Nat}{c na nb pw pw2 g b:Nat}{Q:Bool→SortSt→Shared→Prop}(hc:Asks n lt (kas_cmp prog w A κ it) s) (od:Ord lt) (P:Pm n p) (hb:b≤n) (h:Ch lt p.toList 0 (L1++(c,na,pw)::(c + na,nb,pw2)::L2) b)
  (q:∀ p' g',Pm n p'→Ch lt p'.toList 0 (L1++(c,na + nb,pw)::L2) b→(∀ i,b≤i→p'.toList[i]?=p.toList[i]?)→Q true (sst κ it (L1++(c,na + nb,pw)::L2).toArray g' p') s):
  kasC (model prog w) A E (mergeAt' L1.length) Q (sst κ it (L1++(c,na,pw)::(c + na,nb,pw2)::L2).toArray g p) s:=by
 have sz:=P.size
 have ll:p.toList.length=n:=by simp [sz]
 obtain⟨d,h1,h2,h3,h4,h5,h6,h7,h8⟩:=Ch.app.mp h
 have le2:=Ch.le h8
 subst h2
 show kasC _ _ _ _ _ (SortSt.mk' κ (p.map (kas_item it)) _ g none) s
 rw [z547]
 refine z463 (pw:=pw) (pw2:=pw2) hc od (fun x hx=>?_) (i:=L1.length) (by simp) (by simp) h3 h6 (by omega) h4 h7 fun R g' hR lR=>?_
 ·have:x∈(List.range n).toArray:=(Array.Perm.mem_iff P).mp (by simpa using hx)
  simpa using this
 ·obtain⟨c1,c2⟩:=h.merge (by omega) hR lR
  have e1:((L1++(c,na,pw)::(c + na,nb,pw2)::L2).toArray.setIfInBounds L1.length (c,na + nb,pw)).eraseIdxIfInBounds (L1.length + 1)=(L1++(c,na + nb,pw)::L2).toArray:=by
   simp [List.eraseIdx_append_of_length_le]
  rw [e1]
  have:=q (putS p.toList c R).toArray g' ?_ (by simpa using c1) fun i hi=>?_
  ·show Q true (SortSt.mk' κ (its it (putS p.toList c R)) _ g' none) s
   have e2:(putS p.toList c R).toArray.map (kas_item it)=its it (putS p.toList c R):=by rw [z547]
   rw [← e2]
   exact this
  ·unfold Pm at P ⊢
   have:(putS p.toList c R).Perm (List.range n):=c2.trans (by simpa [Array.perm_iff_toList_perm] using P)
   simpa [Array.perm_iff_toList_perm] using this
  ·have:=z350 (l:=p.toList) (a:=c) (r:=R) (by omega) (i:=i) (.inr (by omega))
   simpa using this
theorem Ch.split {l:List Nat}:∀ {L:List Rn}{a b i:Nat},Ch lt l a L b→i + 1 < L.length→∃ (L1 L2:List Rn) (c na pw nb pw2:Nat),L=L1++(c,na,pw)::(c + na,nb,pw2)::L2∧L1.length=i
 | [],_,_,_,_,hi=>by simp at hi
 | [_],_,_,_,_,hi=>by simp at hi
 | (x,k,w)::(y,k2,w2)::L,a,b,0,h,_=>by
  obtain⟨h1,h2,h3,h4,h5⟩:=h
  subst h1 h4
  exact⟨[],L,x,k,w,k2,w2,rfl,rfl⟩
 | (x,k,w)::(y,k2,w2)::L,a,b,i + 1,h,hi=>by
  obtain⟨L1,L2,c,na,pw,nb,pw2,e1,e2⟩:=Ch.split (i:=i) h.2.2.2 (by simp at hi ⊢;omega)
  exact⟨(x,k,w)::L1,L2,c,na,pw,nb,pw2,by rw [e1];rfl,by simp [e2]⟩
theorem z422 {M:List Rn}{x:Rn}{f:Rn→Rn}:((M++[x]).toArray).modify ((M++[x]).toArray.size - 1) f=(M++[f x]).toArray:=by
 apply Array.ext_getElem?
 intro i
 rw [Array.getElem?_modify]
 simp only [List.size_toArray,List.length_append,List.length_cons,List.length_nil,List.getElem?_toArray]
 by_cases z:M.length=i
 ·subst z
  simp
 ·first | refine kasC_f (by omega) ?_ | rw [if_neg (by omega)]
  by_cases y:i < M.length
  ·rw [List.getElem?_append_left y,List.getElem?_append_left y]
  ·rw [List.getElem?_eq_none (by simp;omega),List.getElem?_eq_none (by simp;omega)]
theorem z644 {Q:Unit→SortSt→Shared→Prop}{p0:Array Nat}{g:Nat}(hc:Asks n lt (kas_cmp prog w A κ it) s) (od:Ord lt) (P:Pm n p0) (h0:0 < n) (q:∀ p L g',Pm n p→Up lt p n→Q () (sst κ it L g' p) s):kasC (model prog w) A E sortRuns' Q (sst κ it #[] g p0) s:=by
 rw [sortRuns'_eq]
 refine kasC_bind (kasC_get ?_)
 have sz:=P.size
 have e0:(arrOf (sst κ it #[] g p0)).size=n:=by show (p0.map (kas_item it)).size=n;simp [sz]
 rw [e0]
 dsimp only
 refine kasC_bind (z16 (fun t c st'=>c.1=none∧∃ (p:Array Nat) (L:List Rn) (g':Nat),st'=sst κ it L.toArray g' p∧Pm n p∧Ch lt p.toList 0 L c.2∧c.2≤n∧t≤c.2) (fun c st'=>c.1=none∧∃ (p:Array Nat) (L:List Rn) (g':Nat),st'=sst κ it L.toArray g' p∧Pm n p∧Ch lt p.toList 0 L n) ⟨rfl,p0,[],g,rfl,P,rfl,Nat.zero_le _,Nat.le_refl _⟩ ?_ ?_ ?_)
 ·rintro t x ⟨r,lo⟩ st' ht ⟨rfl,p,L,g',rfl,P',ch,hlo,htl⟩
  dsimp only at ch hlo htl ⊢
  by_cases z:lo ≥ n
  ·first | refine kasC_t z ?_ | rw [if_pos z]
   obtain rfl:lo=n:=by omega
   exact kasC_pure ⟨rfl,rfl,p,L,g',rfl,P',ch⟩
  ·first | refine kasC_f z ?_ | rw [if_neg z]
   refine kasC_bind (z532 hc od P' (by omega) (by omega) fun m p1 m1 m2 k1 u1=>?_)
   try dsimp only
   split
   ·rename_i zm
    refine kasC_bind (kasC_lift (wpAny_rule ?_))
    refine kasC_bind (z504 hc od k1.pm (by omega) m1 u1 (by omega) fun p2 k2 u2=>?_)
    first | refine kasC_f (by decide) ?_ | rw [if_neg (by decide)]
    have kN:Kept n lo p p2:=⟨k2.pm,fun i hi=>(k2.pre i hi).trans (k1.pre i hi)⟩
    have kget:=z490 P' kN hlo
    have uN:=u2
    have kpos:0 < min (n - lo) (minRun' n n 0):=by omega
    have chN:Ch lt p2.toList 0 L lo:=ch.same fun i _ hi=>kget i hi
    have srN:Srt lt (seg p2.toList lo (min (n - lo) (minRun' n n 0))):=srt_up uN (by rw [kN.pm.size];omega)
    refine kasC_bind (kasC_get ?_)
    rcases List.eq_nil_or_concat L with rfl | ⟨L',r0,rfl⟩
    ·try dsimp only
     rw [show (pendingOf (sst κ it ([]:List Rn).toArray g' p2)).back?=none from rfl]
     try dsimp only
     refine kasC_bind (kasC_modify (kasC_pure ⟨rfl,rfl,p2,[(lo,(min (n - lo) (minRun' n n 0)),0)],g',rfl,kN.pm,?_,by dsimp only;omega,by dsimp only;omega⟩))
     obtain rfl:lo=0:=(show 0=lo from chN).symm
     exact⟨rfl,by omega,srN,rfl⟩
    ·obtain⟨s1,n1,w1⟩:=r0
     rw [List.concat_eq_append] at chN
     try dsimp only
     rw [show (pendingOf (sst κ it ((L'.concat (s1,n1,w1)).toArray) g' p2)).back?=some (s1,n1,w1) from(by show ((L'.concat (s1,n1,w1)).toArray).back?=_;simp [List.concat_eq_append])]
     try dsimp only
     rw [List.concat_eq_append]
     refine kasC_bind (z16 (fun t2 c st'=>c.1=none∧∃ (p3:Array Nat) (L3:List Rn) (g3:Nat),st'=sst κ it L3.toArray g3 p3∧Pm n p3∧Ch lt p3.toList 0 L3 lo∧L3≠[]∧∀ i,lo≤i→p3.toList[i]?=p2.toList[i]?) (fun c st'=>c.1=none∧∃ (p3:Array Nat) (L3:List Rn) (g3:Nat),st'=sst κ it L3.toArray g3 p3∧Pm n p3∧Ch lt p3.toList 0 L3 lo∧L3≠[]∧∀ i,lo≤i→p3.toList[i]?=p2.toList[i]?) ⟨rfl,p2,_,g',rfl,kN.pm,chN,by simp,fun _ _=>rfl⟩ ?_ (fun c st' h=>h) ?_)
     ·rintro t2 x ⟨r,_⟩ st' ht2 ⟨rfl,p3,L3,g3,rfl,P3,ch3,ne3,sm3⟩
      refine kasC_bind (kasC_get ?_)
      have es:(pendingOf (sst κ it L3.toArray g3 p3)).size=L3.length:=by show (L3.toArray).size=_;simp
      rw [es]
      by_cases z:L3.length > 1
      ·obtain⟨M1,M2,c,na,pw,nb,pw2,e1,e2⟩:=ch3.split (i:=L3.length - 2) (by omega)
       have eg:(pendingOf (sst κ it L3.toArray g3 p3))[L3.length - 2]?=some (c,na,pw):=by
        show (L3.toArray)[L3.length - 2]?=_
        rw [← e2]
        simp [e1]
       first | refine kasC_t z ?_ | rw [if_pos z]
       rw [eg]
       try dsimp only
       split
       ·exact kasC_pure ⟨rfl,rfl,p3,L3,g3,rfl,P3,ch3,ne3,sm3⟩
       ·rw [← e2]
        subst e1
        refine kasC_bind (z346 hc od P3 (by omega) ch3 fun p4 g4 P4 ch4 sm4=>?_)
        exact kasC_pure ⟨rfl,rfl,p4,_,g4,rfl,P4,ch4,by simp,fun i hi=>(sm4 i hi).trans (sm3 i hi)⟩
      ·first | refine kasC_f z ?_ | rw [if_neg z]
       exact kasC_pure ⟨rfl,rfl,p3,L3,g3,rfl,P3,ch3,ne3,sm3⟩
     ·rintro⟨r,_⟩ st' ⟨rfl,p3,L3,g3,rfl,P3,ch3,ne3,sm3⟩
      try dsimp only
      rcases List.eq_nil_or_concat L3 with rfl | ⟨M,⟨x3,k3,w3⟩,rfl⟩
      ·exact absurd rfl ne3
      rw [List.concat_eq_append] at ch3 ⊢
      refine kasC_bind (kasC_modify (kasC_bind (kasC_modify (kasC_pure ⟨rfl,rfl,p3,M++[(x3,k3,power' n (2 * s1 + n1) (2 * s1 + n1 + n1 + (min (n - lo) (minRun' n n 0))) n)]++[(lo,(min (n - lo) (minRun' n n 0)),0)],g3,?_,P3,Ch.app.mpr ⟨lo,ch3.pow,rfl,by omega,?_,rfl⟩,by dsimp only;omega,by dsimp only;omega⟩))))
      ·show SortSt.mk' κ (p3.map (kas_item it)) ((((M++[(x3,k3,w3)]).toArray).modify ((M++[(x3,k3,w3)]).toArray.size - 1) _).push (lo,(min (n - lo) (minRun' n n 0)),0)) g3 none=_
       rw [z422]
       simp
      ·rw [z348 fun i h1 h2=>sm3 i h1]
       exact srN
   ·have kN:=k1
    have kget:=z490 P' kN hlo
    have uN:=u1
    have chN:Ch lt p1.toList 0 L lo:=ch.same fun i _ hi=>kget i hi
    have srN:Srt lt (seg p1.toList lo m):=srt_up uN (by rw [kN.pm.size];omega)
    refine kasC_bind (kasC_get ?_)
    rcases List.eq_nil_or_concat L with rfl | ⟨L',r0,rfl⟩
    ·try dsimp only
     rw [show (pendingOf (sst κ it ([]:List Rn).toArray g' p1)).back?=none from rfl]
     try dsimp only
     refine kasC_bind (kasC_modify (kasC_pure ⟨rfl,rfl,p1,[(lo,m,0)],g',rfl,kN.pm,?_,by dsimp only;omega,by dsimp only;omega⟩))
     obtain rfl:lo=0:=(show 0=lo from chN).symm
     exact⟨rfl,by omega,srN,rfl⟩
    ·obtain⟨s1,n1,w1⟩:=r0
     rw [List.concat_eq_append] at chN
     try dsimp only
     rw [show (pendingOf (sst κ it ((L'.concat (s1,n1,w1)).toArray) g' p1)).back?=some (s1,n1,w1) from(by show ((L'.concat (s1,n1,w1)).toArray).back?=_;simp [List.concat_eq_append])]
     try dsimp only
     rw [List.concat_eq_append]
     refine kasC_bind (z16 (fun t2 c st'=>c.1=none∧∃ (p3:Array Nat) (L3:List Rn) (g3:Nat),st'=sst κ it L3.toArray g3 p3∧Pm n p3∧Ch lt p3.toList 0 L3 lo∧L3≠[]∧∀ i,lo≤i→p3.toList[i]?=p1.toList[i]?) (fun c st'=>c.1=none∧∃ (p3:Array Nat) (L3:List Rn) (g3:Nat),st'=sst κ it L3.toArray g3 p3∧Pm n p3∧Ch lt p3.toList 0 L3 lo∧L3≠[]∧∀ i,lo≤i→p3.toList[i]?=p1.toList[i]?) ⟨rfl,p1,_,g',rfl,kN.pm,chN,by simp,fun _ _=>rfl⟩ ?_ (fun c st' h=>h) ?_)
     ·rintro t2 x ⟨r,_⟩ st' ht2 ⟨rfl,p3,L3,g3,rfl,P3,ch3,ne3,sm3⟩
      refine kasC_bind (kasC_get ?_)
      have es:(pendingOf (sst κ it L3.toArray g3 p3)).size=L3.length:=by show (L3.toArray).size=_;simp
      rw [es]
      by_cases z:L3.length > 1
      ·obtain⟨M1,M2,c,na,pw,nb,pw2,e1,e2⟩:=ch3.split (i:=L3.length - 2) (by omega)
       have eg:(pendingOf (sst κ it L3.toArray g3 p3))[L3.length - 2]?=some (c,na,pw):=by
        show (L3.toArray)[L3.length - 2]?=_
        rw [← e2]
        simp [e1]
       first | refine kasC_t z ?_ | rw [if_pos z]
       rw [eg]
       try dsimp only
       split
       ·exact kasC_pure ⟨rfl,rfl,p3,L3,g3,rfl,P3,ch3,ne3,sm3⟩
       ·rw [← e2]
        subst e1
        refine kasC_bind (z346 hc od P3 (by omega) ch3 fun p4 g4 P4 ch4 sm4=>?_)
        exact kasC_pure ⟨rfl,rfl,p4,_,g4,rfl,P4,ch4,by simp,fun i hi=>(sm4 i hi).trans (sm3 i hi)⟩
      ·first | refine kasC_f z ?_ | rw [if_neg z]
       exact kasC_pure ⟨rfl,rfl,p3,L3,g3,rfl,P3,ch3,ne3,sm3⟩
     ·rintro⟨r,_⟩ st' ⟨rfl,p3,L3,g3,rfl,P3,ch3,ne3,sm3⟩
      try dsimp only
      rcases List.eq_nil_or_concat L3 with rfl | ⟨M,⟨x3,k3,w3⟩,rfl⟩
      ·exact absurd rfl ne3
      rw [List.concat_eq_append] at ch3 ⊢
      refine kasC_bind (kasC_modify (kasC_bind (kasC_modify (kasC_pure ⟨rfl,rfl,p3,M++[(x3,k3,power' n (2 * s1 + n1) (2 * s1 + n1 + n1 + m) n)]++[(lo,m,0)],g3,?_,P3,Ch.app.mpr ⟨lo,ch3.pow,rfl,by omega,?_,rfl⟩,by dsimp only;omega,by dsimp only;omega⟩))))
      ·show SortSt.mk' κ (p3.map (kas_item it)) ((((M++[(x3,k3,w3)]).toArray).modify ((M++[(x3,k3,w3)]).toArray.size - 1) _).push (lo,m,0)) g3 none=_
       rw [z422]
       simp
      ·rw [z348 fun i h1 h2=>sm3 i h1]
       exact srN
 ·rintro⟨r,lo⟩ st' ⟨rfl,p,L,g',rfl,P',ch,hlo,htl⟩
  dsimp only at ch hlo htl
  obtain rfl:lo=n:=by omega
  exact⟨rfl,p,L,g',rfl,P',ch⟩
 ·rintro⟨r,lo⟩ st' ⟨rfl,p,L,g',rfl,P',ch⟩
  try dsimp only
  refine kasC_bind (z16 (fun t c st'=>c.1=none∧∃ (p:Array Nat) (L:List Rn) (g':Nat),st'=sst κ it L.toArray g' p∧Pm n p∧Ch lt p.toList 0 L n∧(L.length + t≤n∨L.length≤1)) (fun c st'=>c.1=none∧∃ (p:Array Nat) (L:List Rn) (g':Nat),st'=sst κ it L.toArray g' p∧Pm n p∧Ch lt p.toList 0 L n∧L.length≤1) ⟨rfl,p,L,g',rfl,P',ch,.inl (by have:=Ch.le ch;omega)⟩ ?_ ?_ ?_)
  ·rintro t x ⟨r,_⟩ st' ht ⟨rfl,p3,L3,g3,rfl,P3,ch3,hl3⟩
   refine kasC_bind (kasC_get ?_)
   have es:(pendingOf (sst κ it L3.toArray g3 p3)).size=L3.length:=by show (L3.toArray).size=_;simp
   rw [es]
   by_cases z:L3.length≤1
   ·first | refine kasC_t z ?_ | rw [if_pos z]
    exact kasC_pure ⟨rfl,rfl,p3,L3,g3,rfl,P3,ch3,z⟩
   ·first | refine kasC_f z ?_ | rw [if_neg z]
    have pick:∀ b:Bool,(if b=true then L3.length - 2 - 1 else L3.length - 2) + 1 < L3.length:=fun b=>by split <;> omega
    generalize hb:(Option.any _ _)=b
    have hi:=pick b
    generalize hi':(if b=true then L3.length - 2 - 1 else L3.length - 2)=i at hi ⊢
    obtain⟨M1,M2,c,na,pw,nb,pw2,e1,e2⟩:=ch3.split hi
    rw [← e2]
    clear hb hi' es pick
    subst e1
    refine kasC_bind (z346 hc od P3 (Nat.le_refl _) ch3 fun p4 g4 P4 ch4 sm4=>?_)
    refine kasC_pure ⟨rfl,rfl,p4,_,g4,rfl,P4,ch4,?_⟩
    simp only [List.length_append,List.length_cons] at hl3 z ⊢
    omega
  ·rintro⟨r,_⟩ st' ⟨rfl,p3,L3,g3,rfl,P3,ch3,hl3⟩
   exact⟨rfl,p3,L3,g3,rfl,P3,ch3,by omega⟩
  ·rintro⟨r,_⟩ st' ⟨rfl,p3,L3,g3,rfl,P3,ch3,hl3⟩
   refine kasC_pure (q p3 _ g3 P3 (up_srt P3.size ?_ od))
   match L3,ch3,hl3 with
   | [],h,_=>exact absurd (show 0=n from h) (by omega)
   | [(x,k,w)],h,_=>
    obtain⟨h1,h2,h3,h4⟩:=h
    have h4:0 + k=n:=h4
    rw [show n=k by omega]
    exact h3
   | _::_::_,_,hl=>simp at hl
end
end L2
set_option Elab.async false
set_option linter.all false
set_option maxRecDepth 100000
namespace L2
open PySem PySem.Spec PyProof.Rows PySem.W Hq
section
variable {prog:Program}{w:World}{A:Around}{E:Value→Shared→Prop}{s:Shared}
theorem z619 {κ:SortKind}{vs:List Value}{lt:Nat→Nat→Bool}{Q:SortSt→Shared→Prop}(hc:Asks vs.length lt (kas_ask prog w A κ vs) s) (od:Ord lt) (h0:0 < vs.length)
  (q:∀ p st',Pm vs.length p→Up lt p vs.length→arrOf st'=p.map (kas_item (vs.toArray.zip vs.toArray))→failedOf st'=none→Q st' s):
  wpAny (model prog w) A ((sortRuns').run (SortSt.mk' κ (vs.toArray.zip vs.toArray) #[] 7 none)) (fun r s'=>Q r.2 s') E s:=by
 rw [kat_ask_eq rfl] at hc
 have e:=kas_range (vs.toArray.zip vs.toArray)
 rw [show (vs.toArray.zip vs.toArray).size=vs.length by simp] at e
 have run:=z644 (E:=E) (Q:=fun _ st' s'=>Q st' s') (g:=7) hc od (Array.Perm.refl _) h0 fun p L g' P U=>q p _ P U rfl rfl
 have est:SortSt.mk' κ (vs.toArray.zip vs.toArray) #[] 7 none=sst κ (vs.toArray.zip vs.toArray) #[] 7 (List.range vs.length).toArray:=by
  show _=SortSt.mk' κ ((List.range vs.length).toArray.map _) #[] 7 none
  rw [e]
 rw [est]
 exact run
def SortK (prog:Program) (w:World) (A:Around) (E:Value→Shared→Prop) (s:Shared) (vs:List Value) (lt:Nat→Nat→Bool):Prop:=
 ∀ h':Heap,(∀ b o,s.heap.get? b=some o→o.cls=.type "tuple"→h'.get? b=some o)→2≤vs.length→∀ Q:SortKind→Shared→Prop,(∀ κ,Asks vs.length lt (kas_ask prog w A κ vs) { s with heap:=h' }→Q κ { s with heap:=h' })→wpAny (model prog w) A (keyKind' vs.toArray) Q E { s with heap:=h' }
theorem z430 {a:Addr}{vs:List Value}{lt:Nat→Nat→Bool}{n:Nat}{P:PySem.Fin→Shared→Prop}(ho:s.heap.get? a=some (seqObj "list" vs.toArray n)) (od:Ord lt) (hk:∀ E,SortK prog w A E s vs lt) (h64:vs.length < 1000)
  (h:∀ p:List Nat,p.Perm (List.range vs.length)→p.Pairwise (fun i j=>lt j i=false)→P (.done (.ret .none)) { s with heap:=sortedHeap s.heap a vs (p.map fun i=>vs.getD i Value.none).toArray }):
  wpAny (model prog w) A (Builtin.«list.sort» ⟨[.ref a],[]⟩) P E s:=by
 rw [list_sort_plain]
 have ha:a < s.heap.objs.size:=Heap.lt_size ho
 obtain⟨e1,ho1⟩:∃ e1,(s.heap.update a (Obj.mapSeq fun _=>#[])).get? a=some (seqObj "list" #[] e1):=⟨_,get?_update_seq ho (fun _=>#[])⟩
 refine wpAny_bind (listItems_at ho rfl (wpAny_bind (listUpdate_at ho rfl (wpAny_bind (seqEpoch_at ho1 rfl (wpAny_bind (wpAny_newTuple (wpAny_bind (wpAny_newList (wpAny_holding ?_))))))))))
 have ho6:(((s.heap.update a (Obj.mapSeq fun _=>#[])).push (seqObj "tuple" vs.toArray 0)).push (seqObj "list" #[] 0)).get? a=some (seqObj "list" #[] e1):=Heap.get?_push_of_some _ (Heap.get?_push_of_some _ ho1)
 have up:∀ b o,s.heap.get? b=some o→o.cls=.type "tuple"→(((s.heap.update a (Obj.mapSeq fun _=>#[])).push (seqObj "tuple" vs.toArray 0)).push (seqObj "list" #[] 0)).get? b=some o:=fun b o e c=>by
  refine Heap.get?_push_of_some _ (Heap.get?_push_of_some _ ?_)
  rw [Heap.get?_update_other _ _ (fun z=>by rw [← z,ho] at e;cases e;exact absurd (show Value.type "list"=Value.type "tuple" from c) (by decide))]
  exact e
 show wpAny (model prog w) A _ P E { s with heap:=((s.heap.update a (Obj.mapSeq fun _=>#[])).push (seqObj "tuple" vs.toArray 0)).push (seqObj "list" #[] 0) }
 dsimp only
 by_cases h2:vs.toArray.size < 2
 ·rw [if_pos h2,if_pos h2]
  refine wpAny_bind (wpAny_pure ?_)
  rw [StateT.run_pure]
  refine wpAny_bind (wpAny_pure ?_)
  dsimp only
  have eo:(arrOf (SortSt.mk' general' (vs.toArray.zip vs.toArray) #[] 7 none)).map (·.2)=((List.range vs.length).map fun i=>vs.getD i Value.none).toArray:=by
   rw [z371]
   show (vs.toArray.zip vs.toArray).map (·.2)=vs.toArray
   apply Array.ext
   ·simp
   ·intro i h1 h2
    simp
  rw [eo]
  refine wpAny_bind (seqEpoch_at ho6 rfl (wpAny_bind (listUpdate_at ho6 rfl ?_ (hsz2:=by rw [List.size_toArray,List.length_map,List.length_range,sizeLine_eq];omega))))
  simp only [bne_self_eq_false,Bool.false_eq_true,if_false]
  refine wpAny_pure (h _ (List.Perm.refl _) ?_)
  rw [List.size_toArray] at h2
  have l1:(List.range vs.length).length < 2:=by simpa using h2
  match List.range vs.length,l1 with
  | [],_=>exact List.Pairwise.nil
  | [x],_=>exact List.pairwise_singleton _ _
  | _::_::_,z=>simp only [List.length_cons] at z;omega
 ·rw [if_neg h2,if_neg h2]
  rw [List.size_toArray] at h2
  refine wpAny_bind (hk _ _ up (by omega) _ fun κ as=>?_)
  refine wpAny_bind (wpAny_mono (z619 (Q:=fun st' s'=>∃ p:Array Nat,s'={ s with heap:=((s.heap.update a (Obj.mapSeq fun _=>#[])).push (seqObj "tuple" vs.toArray 0)).push (seqObj "list" #[] 0) }∧arrOf st'=p.map (kas_item (vs.toArray.zip vs.toArray))∧failedOf st'=none∧Pm vs.length p∧Up lt p vs.length) as od (by omega) fun p st' P U b1 b2=>⟨p,rfl,b1,b2,P,U⟩) ?_ fun _ _ e=>e)
  rintro⟨⟨⟩,st'⟩ s' ⟨p,rfl,har,hf,P,U⟩
  dsimp only
  rw [kat_snds rfl har]
  have sz:=P.size
  refine wpAny_bind (seqEpoch_at ho6 rfl (wpAny_bind (listUpdate_at ho6 rfl ?_ (hsz2:=by rw [List.size_toArray,List.length_map,Array.length_toList,sizeLine_eq];omega))))
  rw [hf]
  simp only [bne_self_eq_false,Bool.false_eq_true,if_false]
  refine wpAny_pure (h p.toList ?_ ?_)
  ·have:=Array.perm_iff_toList_perm.mp P
   simpa using this
  ·rw [List.pairwise_iff_getElem]
   intro i j hi hj hij
   rw [Array.length_toList] at hi hj
   have u:=U i j (by omega) (by omega)
   have e:∀ i (hi:i < p.size),Kp p i=p[i]:=fun i hi=>by unfold Kp;simp [Array.getD,hi]
   rw [e i hi,e j hj] at u
   simpa using u
theorem z435 {l:Addr}{vs:List Value}{lt:Nat→Nat→Bool}{Q:Value→Shared→Prop}(hl:s.heap.IsList l vs.toArray) (od:Ord lt) (hk:∀ A (h':Heap),(∀ b o,s.heap.get? b=some o→o.cls=.type "tuple"→h'.get? b=some o)→∀ E,SortK prog w A E { s with heap:=h' } vs lt) (h64:vs.length < 1000)
  (h:∀ p:List Nat,p.Perm (List.range vs.length)→p.Pairwise (fun i j=>lt j i=false)→Q (.ref (s.heap.objs.size + 1)) { s with heap:=sortedAll s.heap vs (p.map fun i=>vs.getD i Value.none).toArray }):
  wpAny (model prog w) A (call (.builtin "sorted") [.ref l]) Q E s:=by
 refine Calls.call_function_entry kind_sorted plain_sorted entry_sorted (args_sorted1 (.ref l)) (show wpAny _ _ (Builtin.«sorted» _) _ _ _ from ?_)
 unfold Builtin.«sorted»
 refine wpAny_bind (m:=checkCount "sorted" 1 1 _) (wpAny_pure (wpAny_bind (collect_list hl (wpAny_bind (wpAny_newList ?_)))))
 have hsz:((s.heap.push (seqObj "list" #[] 0)).update s.heap.objs.size (Obj.mapSeq (·++vs.toArray))).objs.size=s.heap.objs.size + 1:=(Heap.size_update ..).trans (size_push' ..)
 have hoL:(((s.heap.push (seqObj "list" #[] 0)).update s.heap.objs.size (Obj.mapSeq (·++vs.toArray))).push (seqObj "list" vs.toArray 0)).get? (s.heap.objs.size + 1)=some (seqObj "list" vs.toArray 0):=hsz ▸ Heap.get?_push_size _ rfl
 show wpAny _ _ _ _ _ { s with heap:=((s.heap.push (seqObj "list" #[] 0)).update s.heap.objs.size (Obj.mapSeq (·++vs.toArray))).push (seqObj "list" vs.toArray 0) }
 rw [hsz]
 refine wpAny_bind (wpAny_holding (wpAny_call_entry slot_list_sort ⟨_,hoL,rfl⟩ entry_list_sort (z430 hoL od (hk _ _ fun b o e c=>?_) h64 fun p p1 p2=>⟨_,rfl,wpAny_pure ⟨_,rfl,h p p1 p2⟩⟩) (args_list_sort _)))
 refine Heap.get?_push_of_some _ ?_
 rw [Heap.get?_update_other _ _ (Nat.ne_of_gt (Heap.lt_size e))]
 exact Heap.get?_push_of_some _ e
end
end L2
set_option Elab.async false
set_option linter.all false
set_option maxRecDepth 100000
namespace L2
open PySem PySem.Spec PyProof.Rows PySem.W Hq
def TupS (h:Heap) (v:Value) (k:List Int × Str):Prop:=∃ a o xs m ys z t,v=.ref a∧h.get? a=some o∧o.cls=.type "tuple"∧o.data=.seq xs m∧xs.toList=ys++[z]∧IntsAre ys k.1∧z=.str k.2 t
theorem TupS.keep {h h':Heap}{v:Value}{k:List Int × Str}(t:TupS h v k) (e:∀ a o,h.get? a=some o→o.cls=.type "tuple"→h'.get? a=some o):TupS h' v k:=by
 obtain⟨a,o,xs,m,ys,z,t,h1,h2,h3,h4⟩:=t
 exact⟨a,o,xs,m,ys,z,t,h1,e a o h2 h3,h3,h4⟩
section
variable {prog:Program}{w:World}{A:Around}{E:Value→Shared→Prop}{s:Shared}
theorem z556 {bb:Bool}{Q:Bool→Shared→Prop}{p q:Str}{t u:Tok}:∀ {xs ys:List Value}{a b:List Int},IntsAre xs a→IntsAre ys b→a.length=b.length→(a=b→p=q)→Q (HT.lexLt a b) s→∀ i,KatLex prog w A bb false Q ((xs++[Value.str p t]).zip (ys++[Value.str q u])) i s
 | _,_,_,_,.nil,.nil,_,e,h,i=>by
  refine kat_cons (wpAny_eqBool_str ?_)
  rw [decide_eq_true (e rfl)]
  exact kat_yes (kat_nil h)
 | _,_,_,_,.nil,.cons _ _ _,hl,_,_,_=>by cases hl
 | _,_,_,_,.cons _ _ _,.nil,hl,_,_,_=>by cases hl
 | _,_,_,_,.cons x t hx,.cons y u hy,hl,he,q,i=>by
  rw [HT.lexLt_cons] at q
  refine kat_cons (wpAny_eqBool_int ?_)
  by_cases e:x=y
  ·rw [if_pos e] at q
   rw [show (x == y)=true by simpa using e]
   exact kat_yes (z556 hx hy (by simpa using hl) (fun z=>he (by rw [e,z])) q (i + 1))
  ·rw [if_neg e] at q
   rw [show (x == y)=false by simpa using e]
   refine kat_no ?_
   cases (bb && i == 0) with
   | true=>exact oneLt_int q
   | false=>exact kat_one _ _ (lt_int q)
def TupsS (h:Heap) (vs:List Value) (ks:List (List Int × Str)):Prop:=Paired (TupS h) vs ks
theorem z213 {h:Heap}:∀ {vs:List Value}{ks:List (List Int × Str)},TupsS h vs ks→(∀ k∈ks,k.1≠[])→∃ fs:List Value,KatTups h vs fs∧fs.length=vs.length∧∀ f∈fs,∃ i t,f=.int i t
 | _,_,.nil,_=>⟨[],.nil,rfl,by simp⟩
 | _,_,.cons ⟨a,o,xs,m,ys,z,t,h1,h2,h3,h4,h5,h6,h7⟩ r,hne=>by
  obtain⟨fs,f1,f2,f3⟩:=z213 r fun k hk=>hne k (List.mem_cons_of_mem _ hk)
  subst h1
  obtain⟨l⟩:=xs
  replace h5:l=ys++[z]:=h5
  subst h5
  have hn:=hne _ List.mem_cons_self
  generalize hk:(Prod.fst _:List Int)=kk at h6 hn
  cases h6 with
  | nil=>exact absurd rfl hn
  | cons i t hr=>
   refine⟨.int i t::fs,.cons h2 h3 h4 rfl f1,by simp [f2],fun f hf=>?_⟩
   rcases List.mem_cons.mp hf with z | z
   ·exact⟨i,t,z⟩
   ·exact f3 f z
theorem z454 {vs:List Value}{ks:List (List Int × Str)}{bb:Bool}(h:TupsS s.heap vs ks) (hl:∀ k∈ks,∀ l∈ks,k.1.length=l.1.length∧(k.1=l.1→k.2=l.2)):Asks vs.length (fun i j=>HT.lexLt (ks.getD i ([],"")).1 (ks.getD j ([],"")).1) (kas_ask prog w A (tuples' bb) vs) s:=fun i j C hi hj q=>by
 have get:∀ i,i < vs.length→TupS s.heap (vs.getD i Value.none) (ks.getD i ([],""))∧ks.getD i ([],"")∈ks:=fun i hi=>by
  obtain⟨k,e1,e2⟩:=Paired.at1 h (show vs[i]?=some vs[i] by simp [hi])
  have e3:vs.getD i Value.none=vs[i]:=by simp [hi]
  have e4:ks.getD i ([],"")=k:=by simp [List.getD,e1]
  rw [e3,e4]
  exact⟨e2,List.mem_of_getElem? e1⟩
 unfold kas_ask
 obtain⟨⟨a,o,xs,m,ys,z,t,h1,h2,h3,h4,h5,h6,h7⟩,m1⟩:=get i hi
 obtain⟨⟨b,o',xs',m',ys',z',t',g1,g2,g3,g4,g5,g6,g7⟩,m2⟩:=get j hj
 obtain⟨l1,l2⟩:=hl _ m1 _ m2
 rw [h1,g1]
 refine kat_lt h2 h4 g2 g4 ?_
 have s1:xs.size=xs'.size:=by
  rw [← Array.length_toList,← Array.length_toList,h5,g5,List.length_append,List.length_append,h6.length,g6.length,l1]
  rfl
 rw [h5,g5,h7,g7,show decide (xs.size < xs'.size)=false by rw [s1];simp]
 exact z556 h6 g6 l1 l2 q 0
theorem z406 {vs:List Value}{ks:List (List Int × Str)} (hT:TupsS s.heap vs ks) (hne:∀ k∈ks,k.1≠[]) (hl:∀ k∈ks,∀ l∈ks,k.1.length=l.1.length∧(k.1=l.1→k.2=l.2)):SortK prog w A E s vs (fun i j=>HT.lexLt (ks.getD i ([],"")).1 (ks.getD j ([],"")).1):=fun h' up h2 Q q=>by
 have hT6:TupsS h' vs ks:=Paired.mapP hT fun _ _ z=>z.keep up
 obtain⟨fs,f1,f2,f3⟩:=z213 hT6 hne
 refine kat_kind (T:=.type "int") (s:={ s with heap:=h' }) f1 (by omega) (fun v hv=>?_) rfl (q _ (z454 (s:={ s with heap:=h' }) hT6 hl))
 obtain⟨i,t,rfl⟩:=f3 v hv
 exact .now
end
theorem HOk.tupsS {P:Program}{w:World}{H:Hp}{h:Heap}(ok:HOk P w H h){k:Addr→List Int}{z:Addr→Str}:∀ {ts:List Addr},(∀ t∈ts,H t=some (.tup ((k t).map V.int++[V.str (z t)])))→TupsS h (ts.map Value.ref) (ts.map fun t=>(k t,z t))
 | [],_=>.nil
 | t::ts,e=>.cons (by
   obtain⟨_,its,r,o,e1,e2,m,e3⟩:=(show ObjOk P w H h t (.tup ((k t).map V.int++[V.str (z t)])) from ok t _ (e t List.mem_cons_self))
   have ht:=r.take (k t).length
   have hd:=r.drop (k t).length
   rw [List.take_left' (by simp)] at ht
   rw [List.drop_left' (by simp)] at hd
   generalize hq:its.drop (k t).length=ds at hd
   cases hd with
   | cons hv hr=>
    cases hr
    obtain⟨tk,rfl⟩:=hv
    exact⟨t,o,its.toArray,m,its.take (k t).length,_,tk,rfl,e1,e2,e3,by rw [← hq,List.take_append_drop],intsAre_of ht,rfl⟩) (HOk.tupsS ok fun x hx=>e x (List.mem_cons_of_mem _ hx))
theorem z216 {X:Cx}:CallR X (.builtin "sorted") (fun xs H Q=>∃ (p:Addr) (ts:List Addr) (k:Addr→List Int) (z:Addr→Str),xs=[.ref p]∧SqL X.K H p (ts.map V.ref)∧ts.length < 1000∧(∀ t∈ts,H t=some (.tup ((k t).map V.int++[V.str (z t)])))∧(∀ t∈ts,(k t).length=3)∧(∀ t∈ts,∀ u∈ts,k t=k u→z t=z u)∧
  ∀ us:List Addr,us.Perm ts→us.Pairwise (fun a b=>Le (k a) (k b))→∀ l,H l=none→Q (.ref l) (upd H l (.lst (us.map V.ref)))):=by
 intro pins s σ H xs us Q I r h
 obtain⟨p,ts,k,z,rfl,hq,hl,hk,h3,hz',q⟩:=h
 obtain⟨u,rfl,rx⟩:=vals1 r
 cases rx
 obtain⟨its,r',pl,hz⟩:=I.list hq
 obtain rfl:=z284 r'
 refine z435 pl.isList (z625 fun i=>((ts.map fun t=>(k t,z t)).getD i ([],"")).1) (fun A h' up E=>z406 (s:={ s with heap:=h' }) (Paired.mapP (HOk.tupsS I.hok hk) fun _ _ z=>z.keep up) (fun x hx=>?_) fun x hx y hy=>?_) (by rw [List.length_map];exact hl) fun ps p1 p2=>?_
 ·obtain⟨t,ht,rfl⟩:=List.mem_map.mp hx
  intro e
  have:=h3 t ht
  rw [show k t=[] from e] at this
  cases this
 ·obtain⟨t,ht,rfl⟩:=List.mem_map.mp hx
  obtain⟨t',ht',rfl⟩:=List.mem_map.mp hy
  exact⟨(h3 t ht).trans (h3 t' ht').symm,hz' t ht t' ht'⟩
 ·rw [List.length_map] at p1
  have g1:∀ i∈ps,i < ts.length:=fun i hi=>List.mem_range.mp (p1.mem_iff.mp hi)
  have e1:(ps.map fun i=>(ts.map Value.ref).getD i Value.none)=(ps.map fun i=>ts.getD i 0).map Value.ref:=by
   rw [List.map_map]
   refine List.map_congr_left fun i hi=>?_
   have:=g1 i hi
   simp [this]
  have e2:(ps.map fun i=>((ts.map fun t=>(k t,z t)).getD i ([],"")).1)=(ps.map fun i=>ts.getD i 0).map k:=by
   rw [List.map_map]
   refine List.map_congr_left fun i hi=>?_
   have:=g1 i hi
   simp [this]
  have p2:(ps.map fun i=>((ts.map fun t=>(k t,z t)).getD i ([],"")).1).Pairwise Le:=List.pairwise_map.mpr p2
  rw [e2,List.pairwise_map] at p2
  have pm:(ps.map fun i=>ts.getD i 0).Perm ts:=by
   have:=p1.map fun i=>ts.getD i 0
   rw [z371] at this
   exact this
  have lm:=pm.length_eq
  rw [e1]
  obtain⟨e,he⟩:=sortedAll_at s.heap (ts.map Value.ref) ((ps.map fun i=>ts.getD i 0).map Value.ref).toArray
  refine⟨.ref (s.heap.objs.size + 1),upd H (s.heap.objs.size + 1) (.lst ((ps.map fun i=>ts.getD i 0).map V.ref)),I.laid (t':=s.toks) (fun b o hb=>sortedAll_old hb) (Nat.le_succ _) ?_,rfl,q _ pm p2 _ (I.hok.fresh (Nat.le_succ _))⟩
  exact⟨by rw [List.length_map,lm,sizeLine_eq];omega,(ps.map fun i=>ts.getD i 0).map Value.ref,e,z387 _,he⟩
end L2
set_option Elab.async false
set_option linter.all false
set_option maxRecDepth 100000
namespace L2
open PySem PySem.Spec PyProof.Rows
open AutoSeq1 (wpAny_loadPart')
theorem z498 {prog:Program}{w:World}{A:Around}(it l g:Addr) (hne:l≠it) (items:Array Value):Draws prog w A it [it,l,g] items.size (fun i v=>items[i]?=some v) (fun i h=>h.IsListIter it l i∧h.IsList l items∧HdAt A g h) where
 live:=fun _ _ st=>let ⟨o,ho,_⟩:=st.1;⟨o,ho⟩
 frame:=fun _ _ _ st hk=>⟨st.1.at fun o e=>hk it (by simp) o e,let ⟨o,ho,r⟩:=st.2.1;⟨o,hk l (by simp) o ho,r⟩,st.2.2.imp id fun⟨C,dx,vs,sl,h1,h2,h3⟩=>⟨C,dx,vs,sl,h1,hk g (by simp) _ h2,h3⟩⟩
 item:=fun i s Q E hi st hQ=>by
  refine wpAny_nextOf_list_item st.1 st.2.1 (x:=items[i]) (by simp [hi]) fun h' hit' hs'=>hQ _ h' s.toks (by simp [hi]) ⟨hit',st.2.1.extBut hs'.extBut hne,st.2.2.imp id fun⟨C,dx,vs,sl,h1,h2,h3⟩=>⟨C,dx,vs,sl,h1,hs'.extBut g _ (fun z=>?_) h2,h3⟩⟩ hs'
  obtain⟨o,ho,hc,_⟩:=st.1
  rw [z,ho] at h2
  cases h2
  cases hc
 done:=fun s Q E st hE=>z317 st.2.2.hd st.1 st.2.1 (by simp) hE
def ItE (K:PySem.W.Frag) (a:Addr):It:=
 ⟨fun i H=>∃ xs x,SqL K H a xs∧xs[i]?=some x,fun i H v H'=>∃ T x,v=.ref T∧H T=none∧H'=upd H T (.tup [.int (i:Nat),x])∧∀ xs,SqL K H a xs→xs[i]?=some x,fun i H=>∃ xs,SqL K H a xs∧xs.length≤i⟩
theorem z469 {P:Program}{w:World}{K:PySem.W.Frag}{es:List Expr}{kk:Nat}{tpos:Pos}(a e it:Addr) (hei:e≠it) (hea:a≠it):
  Turn P w K (.Tuple es kk tpos) (ItE K a) [e,it] e (fun i h=>(∃ old,IsEnum h e it (i:Nat) old)∧h.IsListIter it a i) where
 mem:=by simp
 obj:=fun i h st c hc=>by
  obtain⟨⟨old,he⟩,o1,p1,c1,e1⟩:=st
  simp only [List.mem_cons,List.not_mem_nil,or_false] at hc
  rcases hc with q | q <;> subst q
  ·exact⟨_,he,fun v q=>by cases q⟩
  ·exact⟨o1,p1,fun v q=>by rw [e1] at q;cases q⟩
 keep:=fun i h h' st k=>by
  obtain⟨⟨old,he⟩,h1⟩:=st
  exact⟨⟨old,k _ (by simp) _ he⟩,h1.at fun o q=>k _ (by simp) o q⟩
 item:=by
  intro X hP hw hK hc i pins s σ H E I hf st hg
  subst hP hw hK
  obtain⟨xs,x,ha,hx⟩:=hg
  obtain⟨its,rv,p,hz0⟩:=I.list ha
  have p:s.heap.IsList a its.toArray:=p.isList
  obtain⟨u,hu,ru⟩:=rv.get hx
  obtain⟨⟨old,he⟩,h1⟩:=id st
  obtain⟨g,hg1,hg2⟩:=Hd.at (A:=X.A.in1) (I.calm hc) it
  have hl:i < its.toArray.size:=by
   obtain⟨hh,_⟩:=List.getElem?_eq_some_iff.mp hu
   simpa using hh
  have hef:e ∉ [it,a,g]:=fun z=>by
   simp only [List.mem_cons,List.not_mem_nil,or_false] at z
   rcases z with z | z | z
   ·exact hei z
   ·obtain⟨o,ho,hoc,_⟩:=p
    rw [← z,he] at ho
    cases ho
    exact absurd (show Value.type "enumerate"=Value.type "list" from hoc) (by decide)
   ·rcases hg2 with y | ⟨C,o,ho,hoc⟩
    ·exact hei (z.trans y)
    ·rw [← z,he] at ho
     cases ho
     cases hoc
  refine wpAny_pyNext_enum_itemD (z498 (A:=X.A.in1) it a g hea its.toArray) he ⟨h1,p,hg1⟩ hl hei hef fun y h' tk hy ho hs' hT hsz hk=>?_
  obtain rfl:y=u:=by
   have:its.toArray[i]?=some u:=by simpa using hu
   rw [this] at hy
   exact(Option.some.inj hy).symm
  have lt:∀ {c:Addr}{o:Obj},s.heap.get? c=some o→s.heap.objs.size≠c:=fun e=>Nat.ne_of_gt (Heap.lt_size e)
  have hn:H s.heap.objs.size=none:=I.hok.fresh (Nat.le_refl _)
  have I1:Inv X pins σ (upd H s.heap.objs.size (.tup [.int (i:Nat),x])) { s with heap:=h',toks:=tk + 1 }:=I.handed (t':=tk + 1) (ch:=[e,it]) hf (fun c o hc q=>hk c o (fun z=>hc (by simp [z])) (fun z=>hc (by simp [z])) q) (Nat.le_refl _)
   ⟨by rw [sizeLine_eq];simp,[.int i tk,y],.cons ⟨tk,rfl⟩ (.cons ru .nil),⟨_,hT,rfl,0,rfl⟩⟩
  refine⟨_,rfl,wpAny_letOwnedTupleGo_enum (s:={ s with heap:=h',toks:=tk + 1 }) ho fun h2' hz' hs2=>?_⟩
  have fp':∀ c∈[e,it],upd H s.heap.objs.size (.tup [.int (i:Nat),x]) c=none:=fun c hc=>by
   obtain⟨o,q⟩:∃ o,s.heap.get? c=some o:=by
    obtain⟨_,p1,_⟩:=id h1
    simp only [List.mem_cons,List.not_mem_nil,or_false] at hc
    rcases hc with q | q <;> subst q
    ·exact⟨_,he⟩
    ·exact⟨_,p1⟩
   rw [upd_ne (Ne.symm (lt q))]
   exact(hf c hc).1
  obtain⟨f0,f1,f2,f3,f4,f5⟩:=hf e (by simp)
  have I2:Inv X pins σ (upd H s.heap.objs.size (.tup [.int (i:Nat),x])) { s with heap:=h2',toks:=tk + 1 }:=I1.turned (t':=tk + 1) (fun c o hc q=>hs2.extBut c o hc q) (fp' e (by simp)) f1 f3 f4 f5
  exact⟨.ref s.heap.objs.size,_,I2,rfl,⟨_,x,rfl,hn,rfl,fun xs' ha'=>by rw [I.list_inj ha' ha];exact hx⟩,⟨⟨_,by simpa using hz'⟩,hs'.1.extBut hs2.extBut hei.symm⟩,fp'⟩
 done:=by
  intro X hP hw hK hc i pins s σ H E I hf st hg
  subst hP hw hK
  obtain⟨xs,ha,hend⟩:=hg
  obtain⟨its,rv,p,hz0⟩:=I.list ha
  have p:s.heap.IsList a its.toArray:=p.isList
  have l1:=rv.length
  obtain⟨⟨old,he⟩,h1⟩:=id st
  have hT:s.TypeIs (.ref e) "enumerate":=⟨_,he,rfl⟩
  obtain⟨f0,f1,f2,f3,f4,f5⟩:=hf it (by simp)
  unfold pyNext
  refine wpAny_bind (wpAny_attempt (wpAny_callSpecial?_slot (name:=Str.ofString "__next__") hT F.slot_enumerate_next (wpAny_call_entry F.slot_enumerate_next hT F.entry_enumerate_next ?_ (F.args_enumerate_next_1 _))))
  refine wpAny_bind (m:=field (.ref e) 2) (wpAny_field he rfl (x:=.ref it) rfl (wpAny_bind (z317 (A:=X.A.in1) (I.calm hc) h1 p (by simp;omega) fun h' x eb hx=>?_)))
  exact z128 hx ⟨rfl,I.turned (t':=s.toks) (fun b o hb q=>eb b o hb q) f0 f1 f3 f4 f5⟩
 self:=fun _ _ _ _ _ st h=>by
  obtain⟨⟨old,he⟩,_⟩:=st
  exact wpAny_pyIter_enum he h
def iEnumL (K:PySem.W.Frag) (ta:TA):TI:=fun σ H R=>ta σ H fun vs H1=>∃ a xs,vs=[.ref a]∧SqL K H1 a xs∧R (ItE K a) H1
theorem z611 {X:Cx}{es:List Expr}{kk:Nat}{tpos:Pos}{a:Expr}{ta:TA}{p pos:Pos}(hg:Gl X "enumerate") (hm:X.mg "enumerate"=none) (ha:PA X [a] ta) (hs:starEach [a] X.env=[(false,eval a X.env)]:=by rfl):
  PI X (.Tuple es kk tpos) (.Call (.Name "enumerate" p) [a] [] pos) (iEnumL X.K ta):=by
 intro pins s σ H R I h
 refine Call_ (ld_blt I hg hm PyProof.Rows.boot_enumerate (PyProof.Rows.callWith_type1 (thn (ha pos pins s σ H _ I h) fun us s1 ⟨vs,H1,I1,r1,q1⟩=>?_) (by rw [hs];rfl) rfl))
 obtain⟨a1,xs,e,h1,q⟩:=q1
 subst e
 obtain⟨u,rfl,r⟩:=vals1 r1
 cases r
 obtain⟨its,rv,pl,hz⟩:=I1.list h1
 have pl:s1.heap.IsList a1 its.toArray:=pl.isList
 have l1:a1 < s1.heap.objs.size:=by obtain⟨_,e,_⟩:=pl;exact Heap.lt_size e
 refine call_enumerate_list pl fun h' he hi _ hk=>wpAny_pyIter_enum he ?_
 have I2:Inv X pins σ H1 { s1 with heap:=h' }:=I1.kept (t':=s1.toks) hk
 refine⟨s1.heap.objs.size + 1,[s1.heap.objs.size + 1,s1.heap.objs.size],_,_,H1,rfl,I2,z469 a1 _ _ (Nat.succ_ne_self _) (Nat.ne_of_lt l1),⟨⟨_,he⟩,hi⟩,fun c hc=>?_,q⟩
 have lc:s1.heap.objs.size≤c:=by
  simp only [List.mem_cons,List.not_mem_nil,or_false] at hc
  rcases hc with q | q <;> rw [q]
  ·exact Nat.le_add_right _ _
  ·exact Nat.le_refl _
 exact I1.fpOk lc (I1.hok.fresh lc)
theorem z519 {K:PySem.W.Frag}{a:Addr}{xs:List V}{g:TG}{tb:TS}{D:Ends}{σ:St}{H:Hp}(Pv:Nat→St→Hp→Prop) (h0:Pv 0 σ H) (hl:∀ i σ H,Pv i σ H→SqL K H a xs)
  (hs:∀ (i:Nat) x σ H T,xs[i]?=some x→Pv i σ H→H T=none→g (.ref T) σ (upd H T (.tup [.int (i:Nat),x])) fun σ2 H2=>tb { D with nx:=Pv (i + 1),ct:=Pv (i + 1),bk:=D.nx } σ2 H2) (hd:∀ σ H,Pv xs.length σ H→D.nx σ H):
  ∃ W:Nat→Nat→St→Hp→Prop,(∃ m,W 0 m σ H)∧∀ i m σ H,W i m σ H→
   ((ItE K a).stop i H∧D.nx σ H)∨((ItE K a).go i H∧∃ N:St→Hp→Prop,(∀ σ' H',N σ' H'→∃ m',m' < m∧W (i + 1) m' σ' H')∧∀ x H',(ItE K a).yld i H x H'→g x σ H' fun σ2 H2=>tb { D with nx:=N,ct:=N,bk:=D.nx } σ2 H2):=by
 refine⟨fun i m σ H=>m=xs.length - i∧i≤xs.length∧Pv i σ H,⟨xs.length,by simp,Nat.zero_le _,h0⟩,?_⟩
 rintro i m σ H ⟨rfl,hi,p⟩
 have q1:=hl i σ H p
 by_cases hlt:i < xs.length
 ·refine .inr ⟨⟨xs,xs[i],q1,by simp [hlt]⟩,Pv (i + 1),fun σ' H' p'=>⟨xs.length - (i + 1),by omega,rfl,hlt,p'⟩,fun v H' y=>?_⟩
  obtain⟨T,x,e1,e2,e3,e4⟩:=y
  subst e1 e3
  exact hs i x σ H T (e4 xs q1) p e2
 ·have e:i=xs.length:=by omega
  subst e
  exact .inl ⟨⟨xs,q1,Nat.le_refl _⟩,hd σ H p⟩
section
variable {prog:Program}{w:World}{A:Around}{R:Result→Shared→Prop}{I:Addr}{fp wr:List Addr}{n:Nat}{P:Nat→Value→Prop}{St:Nat→Heap→Prop}{d:Value}
theorem z513 (W:Walks prog w A.in1 I fp wr n P St) (bt:Nat→Nat→Bool) (hcmp:CmpOf prog w A.in1 .Lt P bt) (S:Addr) (hSf:S ∉ fp):
  ∀ (k j:Nat) (s:Shared) (vb:Value) (c:Nat),n - (j + 1)=k→j + 1≤n→St (j + 1) s.heap→P (argBest bt j) vb→s.heap.get? S=some { cls:=.type "list",dict:=none,data:=.seq #[vb,vb] c,slots:=#[] }→
  (∀ v h' tk,P (argBest bt (n - 1)) v→(∀ b o,b ∉ wr→b≠S→s.heap.get? b=some o→h'.get? b=some o)→R (.ok (.ret v)) { s with heap:=h',toks:=tk })→
  codeAny (model prog w) A (.builtin "min.loop" ⟨[.ref I,.none,.ref S],[("default",d)]⟩) R s:=by
 have hSw:S ∉ wr:=fun h=>hSf (W.sub _ h)
 have hnm:(toString "min"++toString ".loop":String)="min.loop":=by decide
 intro k
 induction k with
 | zero=>
  intro j s vb c hk hj hst hPb hS hR
  have hin:j + 1=n:=by omega
  refine codeAny_builtin F.entry_min_loop ?_
  rw [Around.under_plainId F.plain_min_loop _]
  refine wpAny_bind (m:=seqItems? (.ref S)) (wpAny_seqItems hS rfl ?_)
  refine wpAny_bind (m:=tryCatch (pyNext (.ref I)) _) (wpAny_tryCatch (W.done s _ _ (hin ▸ hst) fun h' tk hk'=>?_))
  exact wpAny_bind (m:=updateSeq S (fun _=>#[])) (wpAny_updateSeq (hk' S _ hSw hS) rfl (wpAny_bind (wpAny_letGo (wpAny_pure (hR vb _ tk (by rw [← hin];exact hPb) fun b o hbw hbS e=>(Heap.get?_update_other _ _ (Ne.symm hbS)).trans (hk' b o hbw e))))))
 | succ k ih=>
  intro j s vb c hk hj hst hPb hS hR
  have hlt:j + 1 < n:=by omega
  refine codeAny_builtin F.entry_min_loop ?_
  rw [Around.under_plainId F.plain_min_loop _]
  refine wpAny_bind (m:=seqItems? (.ref S)) (wpAny_seqItems hS rfl ?_)
  refine wpAny_bind (m:=tryCatch (pyNext (.ref I)) _) (wpAny_tryCatch (W.item (j + 1) s _ _ hlt hst fun v h' tk hP hst' hk'=>?_))
  have hS':=hk' S _ hSw hS
  show wpAny _ A.in1 (tryCatch (holding [v,v] (richCompare .Lt v vb >>= _)) _ >>= _) _ _ _
  refine wpAny_bind (wpAny_tryCatch (wpAny_holding (wpAny_bind (hcmp (j + 1) (argBest bt j) v vb _ _ _ hP hPb ?_))))
  refine wpAny_bind (wpAny_holding (wpAny_truthy_bool (wpAny_bind (wpAny_letGo (wpAny_pure ?_)))))
  cases hb:bt (j + 1) (argBest bt j) with
  | true=>
   simp only [if_true]
   refine wpAny_bind (wpAny_updateSeq hS' rfl (wpAny_bind (wpAny_letGo ?_)))
   rw [hnm]
   refine wpAny_pure ⟨plainId_quiet F.plain_min_loop _,ih (j + 1) _ v _ (by omega) hlt (W.frame _ _ _ hst' fun b hbf o e=>(Heap.get?_update_other _ _ (fun h:S=b=>hSf (by rw [h];exact hbf))).trans e) (by simp only [argBest,hb,if_true];exact hP) (Heap.get?_update_self _ hS' rfl) fun v' h'' tk'' hP' hk''=>?_⟩
   exact hR v' h'' tk'' hP' fun b o hbw hbS e=>hk'' b o hbw hbS ((Heap.get?_update_other _ _ (Ne.symm hbS)).trans (hk' b o hbw e))
  | false=>
   simp only [Bool.false_eq_true,if_false]
   refine wpAny_bind (wpAny_letGo ?_)
   rw [hnm]
   exact wpAny_pure ⟨plainId_quiet F.plain_min_loop _,ih (j + 1) _ vb c (by omega) hlt hst' (by simp only [argBest,hb,Bool.false_eq_true,if_false];exact hPb) hS' fun v' h'' tk'' hP' hk''=>hR v' h'' tk'' hP' fun b o hbw hbS e=>hk'' b o hbw hbS (hk' b o hbw e)⟩
theorem z488 (W:Walks prog w A.in1 I fp wr n P St) (bt:Nat→Nat→Bool) (hcmp:CmpOf prog w A.in1 .Lt P bt) (S:Addr) (hSf:S ∉ fp){s:Shared}{c:Nat}(hst:St 0 s.heap) (hS:s.heap.get? S=some { cls:=.type "list",dict:=none,data:=.seq #[] c,slots:=#[] })
  (hR:∀ v h' tk,((n=0∧v=d)∨(0 < n∧P (argBest bt (n - 1)) v))→(∀ b o,b ∉ wr→b≠S→s.heap.get? b=some o→h'.get? b=some o)→R (.ok (.ret v)) { s with heap:=h',toks:=tk }):
  codeAny (model prog w) A (.builtin "min.loop" ⟨[.ref I,.none,.ref S],[("default",d)]⟩) R s:=by
 have hSw:S ∉ wr:=fun h=>hSf (W.sub _ h)
 have hnm:(toString "min"++toString ".loop":String)="min.loop":=by decide
 refine codeAny_builtin F.entry_min_loop ?_
 rw [Around.under_plainId F.plain_min_loop _]
 refine wpAny_bind (m:=seqItems? (.ref S)) (wpAny_seqItems hS rfl ?_)
 rcases Nat.eq_zero_or_pos n with hn | hn
 ·refine wpAny_bind (m:=tryCatch (pyNext (.ref I)) _) (wpAny_tryCatch (W.done s _ _ (hn ▸ hst) fun h' tk hk'=>?_))
  exact wpAny_bind (wpAny_rule (wpAny_pure (hR d h' tk (.inl ⟨hn,rfl⟩) fun b o hbw hbS e=>hk' b o hbw e)))
 ·refine wpAny_bind (m:=tryCatch (pyNext (.ref I)) _) (wpAny_tryCatch (W.item 0 s _ _ hn hst fun v h' tk hP hst' hk'=>?_))
  have hS':=hk' S _ hSw hS
  refine wpAny_bind (m:=updateSeq S (fun _=>#[v,v])) (wpAny_updateSeq hS' rfl ?_)
  rw [hnm]
  refine wpAny_pure ⟨plainId_quiet F.plain_min_loop _,z513 W bt hcmp S hSf _ 0 _ v _ rfl hn (W.frame _ _ _ hst' fun b hbf o e=>(Heap.get?_update_other _ _ (fun h:S=b=>hSf (by rw [h];exact hbf))).trans e) hP (Heap.get?_update_self _ hS' rfl) fun v' h'' tk'' hP' hk''=>?_⟩
  exact hR v' h'' tk'' (.inr ⟨hn,hP'⟩) fun b o hbw hbS e=>hk'' b o hbw hbS ((Heap.get?_update_other _ _ (Ne.symm hbS)).trans (hk' b o hbw e))
end
section
variable {prog:Program}{w:World}{A:Around}{E:Value→Shared→Prop}{s:Shared}
theorem z502 (a d:Value):argsOk "min" ⟨[a],[("default",d)]⟩:=by unfold argsOk;kernel_rfl
theorem z530 {l:Addr}{xs:Array (Int × Tok)}{d:Value}{Q:Value→Shared→Prop}(hh:A.handled=none) (hl:s.heap.IsList l (intItems xs))
  (h:∀ v h' tk,((xs.size=0∧v=d)∨(0 < xs.size∧(intItems xs)[argBest (fun i j=>decide (numAt xs i < numAt xs j)) (xs.size - 1)]?=some v))→(∀ b o,s.heap.get? b=some o→h'.get? b=some o)→Q v { s with heap:=h',toks:=tk }):
  wpAny (model prog w) A (call (.builtin "min") [.ref l] [("default",d)]) Q E s:=by
 have hnm:(toString "min"++toString ".loop":String)="min.loop":=by decide
 refine z564 F.kind_min F.plain_min F.entry_min (z502 _ _) ?_
 refine wpAny_bind (m:=Builtin.Builtins.bindParams "min" ["key","default"] 0 ⟨[],[("default",d)]⟩) (wpAny_of_eq (show Builtin.Builtins.bindParams "min" ["key","default"] 0 ⟨[],[("default",d)]⟩=pure [none,some d] from rfl) ?_)
 refine wpAny_bind (wpAny_pure ?_)
 refine wpAny_bind (iter_intList hl fun s₂ e st hfp hlI=>?_)
 subst e
 refine wpAny_bind (wpAny_newObj_type ?_)
 have W:=Walks.list (prog:=prog) (w:=w) (A:=A.in1) hh _ l hlI (intItems xs)
 rw [hnm]
 refine wpAny_pure ⟨plainId_quiet F.plain_min_loop _,z488 W _ (CmpOf.ints_lt (numAt xs) (fun _ _=>intItems_at)) _ (fun hm=>Nat.lt_irrefl _ (hfp _ hm)) (W.frame _ _ _ st fun b _ o e=>Heap.get?_push_of_some _ e) (Heap.get?_push_size _ rfl) fun v h' tk hP hk=>?_⟩
 refine h v h' tk (by simpa [intItems] using hP) (old_kept (l:=l) fun b o hbw e=>?_)
 exact hk b o hbw (Nat.ne_of_lt (Heap.lt_size e)) (Heap.get?_push_of_some _ e)
end
def MinN (ns:List Int) (v:V):Prop:=(ns=[]∧v=.non)∨∃ m,v=.int m∧m∈ns∧∀ a∈ns,m≤a
def tMinD (K:PySem.W.Frag) (t:TA) (td:TE):TE:=fun σ H Q=>t σ H fun vs H1=>tCons td tNil σ H1 fun zs H2=>∃ p ns,vs=[.ref p]∧zs=[.non]∧SqL K H2 p (ns.map V.int)∧∀ v,MinN ns v→Q v H2
theorem z650 {X:Cx}{e d:Expr}{p pos kp:Pos}{t:TA}{td:TE}(hc:X.calm=true) (hg:Gl X "min") (hm:X.mg "min"=none) (ha:PA X [e] t) (hd:PE X d td) (hs:starEach [e] X.env=[(false,eval e X.env)]:=by rfl):
  PE X (.Call (.Name "min" p) [e] [⟨some "default",d,kp⟩] pos) (tMinD X.K t td):=by
 intro pins s σ H Q I h
 refine wpAny_Call_Name_kw (ld_blt I hg hm PyProof.Rows.Boot.«min» ?_)
 refine PyProof.Rows.callWith_kw (thn (ha pos pins s σ H _ I h) fun us s1 ⟨vs,H1,I1,r1,q1⟩=>?_) (by rw [hs];rfl) (by rw [hs];rfl)
 have hk:=pk_cons (nm:=some "default") (kpos:=kp) hd (pk_nil (X:=X))
 refine thn (hk pos pins s1 σ H1 _ I1 q1) fun ws s2 ⟨zs,H2,I2,r2,p,ns,e1,e2,hq,q⟩=>?_
 subst e1 e2
 obtain⟨u,rfl,rx⟩:=vals1 r1
 cases rx
 obtain⟨dv,rfl,ry⟩:=vals1 r2
 cases ry
 obtain⟨its,r',pl,hz⟩:=I2.list hq
 obtain⟨ps,rfl,rfl⟩:=ints_of r'
 have hl:s2.heap.IsList p (intItems ps.toArray):=by
  have:=pl.isList
  simpa [intItems] using this
 refine z530 (I2.ok.hd hc) hl fun v h' tk' hv hk'=>?_
 rcases hv with ⟨h0,rfl⟩ | ⟨h0,hv⟩
 ·have e0:ps=[]:=by cases ps with
   | nil=>rfl
   | cons a b=>simp at h0
  exact⟨.non,H2,I2.kept (t':=tk') hk',rfl,q _ (.inl ⟨by rw [e0];rfl,rfl⟩)⟩
 ·obtain⟨t,rfl⟩:=intItems_at hv
  obtain⟨h1,h2⟩:=argBest_lt (numAt ps.toArray) (ps.toArray.size - 1)
  have lt:∀ {i:Nat},i≤ps.toArray.size - 1→i < (ps.map (·.1)).length:=fun{i} h=>by rw [List.length_map];simp only [List.size_toArray] at h h0;omega
  refine⟨.int _,H2,I2.kept (t':=tk') hk',⟨t,rfl⟩,q _ (.inr ⟨_,rfl,?_,fun a ha=>?_⟩)⟩
  ·rw [z163]
   exact getD_mem (lt h1)
  ·obtain⟨j,hj,rfl⟩:=mem_getD ha
   rw [← z163]
   exact h2 j (by rw [List.length_map] at hj;simp only [List.size_toArray];omega)
end L2
set_option Elab.async false
set_option linter.all false
set_option maxRecDepth 100000
namespace L2
open PySem PySem.Spec PyProof.Rows
theorem z274 (ns:List Int) (nd:ns.Nodup):∀ i,i≤ns.length→(firstMet (fun i=>ns.getD i 0) i).length=i
 | 0,_=>rfl
 | i + 1,hi=>by
  rw [firstMet_succ,step_length,firstMet_any,z274 ns nd i (by omega),if_neg]
  intro h
  obtain⟨y,hy,e⟩:=List.any_eq_true.mp h
  obtain⟨j,hj,rfl⟩:=List.mem_map.mp hy
  have hj:=List.mem_range.mp hj
  have e:=eq_of_beq e
  have e1:ns[j]'(by omega)=ns[i]'(by omega):=by
   have a1:ns.getD j 0=ns[j]'(by omega):=by simp [show j < ns.length by omega]
   have a2:ns.getD i 0=ns[i]'(by omega):=by simp [show i < ns.length by omega]
   rw [← a1,← a2]
   exact e
  exact List.pairwise_iff_getElem.mp nd j i (by omega) (by omega) hj e1
def z464 (K:PySem.W.Frag) (t:TA):TE:=fun σ H Q=>t σ H fun vs H1=>∃ (p:Addr) (ns:List Int),vs=[.ref p]∧SqL K H1 p (ns.map V.int)∧ns.length≤1000∧ns.Nodup∧Q (.int (ns.length:Nat)) H1
theorem z531 {X:Cx}{a:Expr}{ta:TA}{p np p1 pos:Pos}(hc:X.calm=true) (hl:Gl X "len") (hml:X.mg "len"=none) (hg:Gl X "set") (hm:X.mg "set"=none) (ha:PA X [a] ta)
  (hs:starEach [.Call (.Name "set" np) [a] [] p1] X.env=[(false,eval (.Call (.Name "set" np) [a] [] p1) X.env)]) (hs2:starEach [a] X.env=[(false,eval a X.env)]):
  PE X (.Call (.Name "len" p) [.Call (.Name "set" np) [a] [] p1] [] pos) (z464 X.K ta):=by
 intro pins s σ H Q I h
 refine wpAny_Call_Name_kw (ld_blt I hl hml PyProof.Rows.Boot.«len» (PyProof.Rows.callWith_builtin1 ?_ hs rfl))
 rw [hs]
 refine Calls.spliced_cons ?_
 refine Call_ (ld_blt I hg hm PyProof.Rows.Boot.«set» (PyProof.Rows.callWith_type1 (thn (ha p1 pins s σ H _ I h) fun us s1 ⟨vs,H1,I1,r1,q1⟩=>?_) (by rw [hs2];rfl) (by rfl)))
 obtain⟨l,ns,e,hq,hz,nd,q⟩:=q1
 subst e
 obtain⟨u,rfl,rx⟩:=vals1 r1
 cases rx
 obtain⟨its,r',pl,_⟩:=I1.list hq
 have ln:=r'.length
 rw [List.length_map] at ln
 refine call_set_list (I1.ok.hd hc) pl.isList (intsAre_of r') (by rw [List.size_toArray,← ln];exact Nat.lt_of_le_of_lt (Nat.succ_le_succ hz) (by decide)) fun h' tk hS hk=>?_
 have ez:its.toArray.size=ns.length:=by rw [List.size_toArray,ln]
 rw [ez,z274 ns nd _ (Nat.le_refl _)] at hS
 obtain⟨o,es,ep,t,ho,hex,hd,_,_,hsc,hf,hn⟩:=hS
 refine Calls.spliced_nil ?_
 refine call_len_set (s:={ s1 with heap:=h',toks:=tk }) ho hex hd hf (by rw [hn];omega) ?_
 exact⟨.int _,H1,I1.kept (t':=tk + 1 + 1) (fun b o e=>hk b o (Heap.lt_size e) e),⟨_,rfl⟩,by rw [hn];exact q⟩
def rInD (K:PySem.W.Frag):R2:=fun x y H Q=>∃ (r p:Addr) (ts:List Addr) (d:Addr→PyData),x=.ref r∧y=.ref p∧SqL K H p (ts.map V.ref)∧(∀ t,t=r∨t∈ts→Den K H (.ref t) (d t)∧SeqAt.shaped (d t)=true)∧Q (.bl (ts.any fun t=>(d t).eqv (d r))) H
theorem op_inD {X:Cx}(hu:X.A.units + 64 + 1 < cLine):OpR X (compareOp .In) (rInD X.K):=by
 intro pins s σ H x y v u Q I rx ry h
 obtain⟨r,p,ts,d,rfl,rfl,hq,hd,q⟩:=h
 cases rx
 cases ry
 obtain⟨its,r',pl,hz⟩:=I.list hq
 obtain rfl:=z284 r'
 refine SeqAt.in_listAt (fun u=>match u with | .ref t=>(d t).eqv (d r) | _=>false) pl.isList (fun w hw=>?_) ⟨.bl _,H,I,rfl,?_⟩
 ·obtain⟨t,ht,rfl⟩:=List.mem_map.mp (show w∈ts.map Value.ref by simpa using hw)
  obtain⟨h1,h2⟩:=hd t (.inr ht)
  obtain⟨g1,g2⟩:=hd r (.inl rfl)
  by_cases same:t=r
  ·subst same
   rw [show (match (Value.ref t) with | .ref x=>(d x).eqv (d t) | _=>false)=true from z356 _ (SeqAt.canLay_of_shaped h2)]
   exact .same _
  ·refine .of_refs same fun prog w E Q hq=>?_
   obtain⟨as,ra⟩:=h1.reads I (u:=.ref t) rfl
   obtain⟨bs,rb⟩:=g1.reads I (u:=.ref r) rfl
   exact eq_dataH ra rb h2 g2 (by show X.A.units + 1 + 64 < cLine;omega) hq
 ·rw [show ((ts.map Value.ref).toArray.any fun u=>match u with | .ref t=>(d t).eqv (d r) | _=>false)=ts.any fun t=>(d t).eqv (d r) by simp [Function.comp_def]]
  exact q
theorem z634 {X:Cx}{K:PySem.W.Frag}(hK:X.K=K) (hu:X.A.units + 64 + 1 < cLine):OpR X (compareOp .In) (rInD K):=by subst hK;exact op_inD hu
theorem z581 {X:Cx}{K:PySem.W.Frag}(hK:X.K=K):SlR X (rSlA K):=by subst hK;exact z565
theorem z607 {X:Cx}{pins:List (Addr × Obj)}{ea C:Addr}{ob:Obj}{dx:Option Addr}{e:Expr}{f:Str}{te:TE}{pos:Pos}(mo:MkO C dx ob) (he:PE (z50 X pins ea ob) e te) (hb:attributeBase e f (z50 X pins ea ob).env (eval e (z50 X pins ea ob).env)=eval e (z50 X pins ea ob).env):PE (z50 X pins ea ob) (.Attribute e f pos) (tXGetO X.K ea C dx te f):=z574 z529 mo he hb
end L2
set_option Elab.async false
set_option linter.all false
set_option maxRecDepth 100000
namespace Bk
open PySem L2 Wy
def Tiny (b:Int) (c:List Int):Prop:=c≠[]∧c.length≤100∧0≤b∧b≤200
structure Ent where
 k:Int
 v:V
 b:Int
 c:List Int
def kv (es:List Ent):List (Int × V):=es.map fun e=>(e.k,e.v)
def dw (es:List Ent):List (Key × V):=(kv es).map fun q=>((Sum.inl q.1:Key),q.2)
def KeyOk (k:Int):Prop:=∃ j:Nat,j < 20∧(k=3 * (j:Int)∨k=1000000 - (j:Int))
def EntOk (H:Hp) (e:Ent):Prop:=WayAt H e.v e.b e.c∧Tiny e.b e.c∧KeyOk e.k
structure Ents (H:Hp) (es:List Ent):Prop where
 ok:∀ e∈es,EntOk H e
 nd:(es.map (·.k)).Nodup
def Tups (H H':Hp):Prop:=∀ b xs,H b=some (.tup xs)→H' b=some (.tup xs)
theorem z132 {H H':Hp}(s:Same H H'):Tups H H':=fun b xs h=>s b _ h
theorem WayAt.tups {H H':Hp}{v:V}{b:Int}{c:List Int}(t:Tups H H') (h:WayAt H v b c):WayAt H' v b c:=by
 obtain⟨p,q,e,h1,h2⟩:=h
 exact⟨p,q,e,t _ _ h1,t _ _ h2⟩
theorem Ents.tups {H H':Hp}{es:List Ent}(h:Ents H es) (t:Tups H H'):Ents H' es:=⟨fun e he=>⟨WayAt.tups t (h.ok e he).1,(h.ok e he).2⟩,h.nd⟩
theorem len_sub:∀ {l m:List Int},l.Nodup→(∀ x∈l,x∈m)→l.length≤m.length
 | [],m,_,_=>Nat.zero_le _
 | x::l,m,nd,h=>by
  have hx:=h x (by simp)
  have ih:=len_sub (l:=l) (m:=m.erase x) (List.nodup_cons.mp nd).2 fun y hy=>(List.mem_erase_of_ne (show y≠x from fun z=>(List.nodup_cons.mp nd).1 (by rw [← z];exact hy))).mpr (h y (by simp [hy]))
  have e:=List.length_erase_of_mem hx
  have:0 < m.length:=List.length_pos_of_mem hx
  simp only [List.length_cons]
  omega
theorem Ents.len {H:Hp}{es:List Ent}(h:Ents H es):es.length≤40:=by
 have:=len_sub (m:=(List.range 20).map (fun j:Nat=>3 * (j:Int))++(List.range 20).map (fun j:Nat=>1000000 - (j:Int))) h.nd (fun x hx=>by
  obtain⟨e,he,rfl⟩:=List.mem_map.mp hx
  obtain⟨j,hj,z | z⟩:=(h.ok e he).2.2
  ·exact List.mem_append_left _ (List.mem_map.mpr ⟨j,List.mem_range.mpr hj,z.symm⟩)
  ·exact List.mem_append_right _ (List.mem_map.mpr ⟨j,List.mem_range.mpr hj,z.symm⟩))
 simpa using this
def dropE (es:List Ent) (n:Int):List Ent:=es.filter fun e=>decide (e.k≠n)
def putE (es:List Ent) (e:Ent):List Ent:=if (es.any fun x=>decide (x.k=e.k))=true then es.map (fun x=>if x.k=e.k then e else x) else es++[e]
theorem z134:∀ {es:List Ent}{e:Ent},(es.map (·.k)).Nodup→e∈es→valV (dw es) (.inl e.k)=some e.v
 | x::es,e,nd,he=>by
  by_cases z:x.k=e.k
  ·rcases List.mem_cons.mp he with rfl | he
   ·exact valV_pos (p:=((Sum.inl e.k:Key),e.v)) rfl
   ·exact absurd (List.mem_map.mpr ⟨e,he,z.symm⟩) (List.nodup_cons.mp nd).1
  ·rcases List.mem_cons.mp he with rfl | he
   ·exact absurd rfl z
   ·exact(valV_neg (p:=((Sum.inl x.k:Key),x.v)) (fun y=>z (Sum.inl.inj y))).trans (z134 (List.nodup_cons.mp nd).2 he)
theorem z107 {es:List Ent}{e e':Ent}(nd:(es.map (·.k)).Nodup) (he:e∈es) (he':e'∈es) (h:e'.k=e.k):e'=e:=by
 induction es with
 | nil=>cases he
 | cons x es ih=>
  obtain⟨nx,nr⟩:=List.nodup_cons.mp nd
  rcases List.mem_cons.mp he with z | z <;> rcases List.mem_cons.mp he' with y | y
  ·rw [z,y]
  ·exact absurd (List.mem_map.mpr ⟨e',y,by rw [h,z]⟩) nx
  ·exact absurd (List.mem_map.mpr ⟨e,z,by rw [← h,y]⟩) nx
  ·exact ih nr z y
theorem z427:∀ {es:List Ent}{n:Int},(∀ e∈es,e.k≠n)→valV (dw es) (.inl n)=none
 | [],_,_=>rfl
 | x::es,n,h=>(valV_neg (p:=((Sum.inl x.k:Key),x.v)) (fun y=>h x (by simp) (Sum.inl.inj y))).trans (z427 fun e he=>h e (by simp [he]))
theorem dw_len (es:List Ent):(dw es).length=es.length:=by simp [dw,kv]
theorem kv_len (es:List Ent):(kv es).length=es.length:=by simp [kv]
theorem z374 (es:List Ent):(kv es).map (·.1)=es.map (·.k):=by simp [kv]
theorem dw_any (es:List Ent) (n:Int):((dw es).any fun kv=>decide (kv.1=Sum.inl n))=es.any fun x=>decide (x.k=n):=by
 unfold dw kv
 rw [List.map_map,List.any_map]
 refine congrArg (fun f=>List.any es f) (funext fun x=>?_)
 simp [Function.comp]
theorem dw_put (es:List Ent) (e:Ent):putK (dw es) (.inl e.k) e.v=dw (putE es e):=by
 unfold putK putE
 rw [dw_any]
 split
 ·unfold dw kv
  simp only [List.map_map]
  refine List.map_congr_left fun x _=>?_
  simp only [Function.comp]
  by_cases z:x.k=e.k
  ·rw [if_pos (by rw [z]),if_pos z,z]
  ·rw [if_neg (fun y=>z (Sum.inl.inj y)),if_neg z]
 ·simp [dw,kv]
theorem z651 (es:List Ent) (n:Int):dropK (dw es) (.inl n)=dw (dropE es n):=by
 unfold dropK dropE dw kv
 rw [List.map_map,List.filter_map,List.map_map]
 have:((fun kv:Key × V=>decide (kv.1≠Sum.inl n)) ∘ ((fun q:Int × V=>((Sum.inl q.1:Key),q.2)) ∘ fun e:Ent=>(e.k,e.v)))=fun e:Ent=>decide (e.k≠n):=by
  funext x
  simp [Function.comp]
 rw [this]
theorem Ents.put {H:Hp}{es:List Ent}{e:Ent}(h:Ents H es) (he:EntOk H e):Ents H (putE es e):=by
 unfold putE
 split
 ·refine⟨fun x hx=>?_,?_⟩
  ·obtain⟨y,hy,rfl⟩:=List.mem_map.mp hx
   split
   ·exact he
   ·exact h.ok y hy
  ·have:(es.map fun x=>if x.k=e.k then e else x).map (·.k)=es.map (·.k):=by
    rw [List.map_map]
    refine List.map_congr_left fun x _=>?_
    simp only [Function.comp]
    split
    ·rename_i z;exact z.symm
    ·rfl
   rw [this]
   exact h.nd
 ·rename_i hn
  refine⟨fun x hx=>?_,?_⟩
  ·rcases List.mem_append.mp hx with z | z
   ·exact h.ok x z
   ·rw [List.mem_singleton.mp z];exact he
  ·rw [List.map_append]
   refine nd_snoc h.nd fun z=>hn ?_
   obtain⟨y,hy,e1⟩:=List.mem_map.mp z
   exact List.any_eq_true.mpr ⟨y,hy,decide_eq_true e1⟩
def Mt (b:Int) (c:List Int) (b':Int) (c':List Int):Prop:=∃ x,First b c b' c' (some x)
theorem mt_iff {b:Int}{c:List Int}{b':Int}{c':List Int}{o:Option (Int × Str)} (h:First b c b' c' o):Mt b c b' c'↔o.isSome=true:=by
 constructor
 ·rintro⟨x,hx⟩
  rw [h.uniq hx]
  rfl
 ·intro z
  obtain⟨x,rfl⟩:=Option.isSome_iff_exists.mp z
  exact⟨x,h⟩
def PutIs (es:List Ent) (n b:Int) (c:List Int):Option Int→Prop
 | none=>∀ e∈es,e.k≠n→¬ Mt b c e.b e.c
 | some k=>k≠n∧(∃ e∈es,e.k=k∧Mt b c e.b e.c)∧∀ e∈es,e.k≠n→Mt b c e.b e.c→k≤e.k
theorem z617 {es:List Ent}{n b:Int}{c:List Int}{ms:List Int}(hp:ms.Perm (es.map (·.k))) (h:∀ e∈es,e.k∈ms.take ms.length→e.k≠n→¬ Mt b c e.b e.c):PutIs es n b c none:=
 fun e he hn=>h e he (by rw [List.take_length];exact hp.mem_iff.mpr (List.mem_map.mpr ⟨e,he,rfl⟩)) hn
theorem z630 {es:List Ent}{n b:Int}{c:List Int}{ms:List Int}{i:Nat}{e:Ent}(hp:ms.Perm (es.map (·.k))) (hs:ms.Pairwise (·≤·)) (hi:ms[i]?=some e.k) (he:e∈es) (hn:e.k≠n) (hm:Mt b c e.b e.c) (h:∀ e∈es,e.k∈ms.take i→e.k≠n→¬ Mt b c e.b e.c):PutIs es n b c (some e.k):=by
 refine⟨hn,⟨e,he,rfl,hm⟩,fun e' he' hn' hm'=>?_⟩
 have hin:e'.k∈ms:=hp.mem_iff.mpr (List.mem_map.mpr ⟨e',he',rfl⟩)
 obtain⟨j,hj⟩:=List.mem_iff_getElem?.mp hin
 by_cases z:j < i
 ·exact absurd hm' (h e' he' (List.mem_iff_getElem?.mpr ⟨j,by rw [List.getElem?_take,if_pos z];exact hj⟩) hn')
 ·rcases Nat.lt_or_ge i j with y | y
  ·exact List.pairwise_iff_getElem.mp hs i j (List.getElem?_eq_some_iff.mp hi).1 (List.getElem?_eq_some_iff.mp hj).1 y |> fun q=>by
    rw [(List.getElem?_eq_some_iff.mp hi).2,(List.getElem?_eq_some_iff.mp hj).2] at q
    exact q
  ·obtain rfl:i=j:=by omega
   have:=Option.some.inj (hi.symm.trans hj)
   omega
theorem z376 {es:List Ent}{n b:Int}{c:List Int}{ms:List Int}{i:Nat}{k:Int}(hi:ms[i]?=some k) (h:∀ e∈es,e.k∈ms.take i→e.k≠n→¬ Mt b c e.b e.c) (h2:∀ e∈es,e.k=k→e.k≠n→¬ Mt b c e.b e.c):∀ e∈es,e.k∈ms.take (i + 1)→e.k≠n→¬ Mt b c e.b e.c:=fun e he ht hn=>by
 rw [List.take_add_one,hi] at ht
 rcases List.mem_append.mp ht with z | z
 ·exact h e he z hn
 ·exact h2 e he (by simpa using z) hn
theorem z434 {x:Int}(h0:0≤x) (h1:x < 2147483648):Bits x:=by
 unfold Bits Builtin.Int.intBits
 split
 ·exact Nat.zero_le _
 ·rename_i h
  have h0':x.natAbs≠0:=fun z=>h (by
                       have:x=0:=by omega
                       rw [this];rfl)
  have:=(Nat.log2_lt (k:=31) h0').mpr (by omega)
  omega
theorem z452 {K:PySem.W.Frag}{H:Hp}{v:V}{b:Int}{c:List Int}(h:WayAt H v b c):Den K H v (.tuple [.int b,.tuple (c.map PyData.int)]):=by
 obtain⟨p,q,rfl,h1,h2⟩:=h
 exact .tup (SqT.of h1) (.cons (.int b) (.cons (z521 (SqT.of h2)) .nil))
def wl (d:Addr):List (Str × V):=putF "ways" (.ref d) []
theorem w_ways (d:Addr):(wl d).lookup ("ways":Str)=some (.ref d):=by unfold wl;rw [lookup_putF,if_pos rfl]
theorem w_no (d:Addr){f:Str}(h:f≠"ways"):(wl d).lookup f=none:=by unfold wl;rw [lookup_putF,if_neg h];rfl
structure BookAt (C:Addr) (H:Hp) (p d:Addr) (es:List Ent):Prop where
 ob:∃ dx,H p=some (.ins C dx (wl d))
 tb:H d=some (.dK (dw es))
def SameB (k:Addr) (H H':Hp):Prop:=∀ b o,H b=some o→b≠k→H' b=some o
theorem same_b {k:Addr}{H H':Hp}(s:Same H H'):SameB k H H':=fun b o h _=>s b o h
theorem SameB.trans {k:Addr}{H H1 H2:Hp}(a:SameB k H H1) (b:SameB k H1 H2):SameB k H H2:=fun c o h n=>b c o (a c o h n) n
theorem z81 {k:Addr}{H H1:Hp}{o:HO}(s:SameB k H H1):SameB k H (upd H1 k o):=fun b u h n=>by rw [upd_ne n];exact s b u h n
theorem SameB.new {k:Addr}{H H1:Hp}{l:Addr}{o:HO}(s:SameB k H H1) (nl:H1 l=none):SameB k H (upd H1 l o):=fun b u h n=>(z0 nl) b u (s b u h n)
theorem SameB.tups {k:Addr}{H H':Hp}(s:SameB k H H') (h:∀ xs,H k≠some (.tup xs)):Tups H H':=fun b xs e=>s b _ e fun z=>h xs (z ▸ e)
theorem BookAt.same {C:Addr}{H H':Hp}{p d:Addr}{es:List Ent}(h:BookAt C H p d es) (s:Same H H'):BookAt C H' p d es:=⟨by obtain⟨dx,e⟩:=h.ob;exact⟨dx,s _ _ e⟩,s _ _ h.tb⟩
def aft (es:List Ent) (e:Ent):Option Int→List Ent
 | none=>putE es e
 | some _=>es
def Pair (H:Hp) (x:V) (f g:Addr):Prop:=∃ (t:Addr) (ms:List Int),x=.ref t∧H t=some (.tup [.ref f,.ref g])∧H f=some (.lst (ms.map V.int))∧H g=some (.lst (ms.map V.int))
structure Row where
 p:Addr
 d:Addr
 e:Addr
 es:List Ent
structure Apart (r s:Row):Prop where
 dd:r.d≠s.d
 de:r.d≠s.e
 ed:r.e≠s.d
 ee:r.e≠s.e
structure RowAt (C:Addr) (H:Hp) (r:Row):Prop where
 bk:BookAt C H r.p r.d r.es
 kp:H r.e=some (.dK (dw r.es))
 en:Ents H r.es
 ne:r.d≠r.e
structure Rows (C:Addr) (H:Hp) (rs:List Row):Prop where
 ok:∀ r∈rs,RowAt C H r
 ap:∀ (i j:Nat) (r s:Row),rs[i]?=some r→rs[j]?=some s→i≠j→Apart r s
def SameD (l m:Addr) (H H':Hp):Prop:=∀ b o,H b=some o→b≠l→b≠m→(∀ kvs,o≠.dK kvs)→H' b=some o
def Keep (H H':Hp):Prop:=∀ b o,H b=some o→(∀ xs,o≠.lst xs)→H' b=some o
theorem set_map {α:Type}(f:Row→α){rs:List Row}{w:Nat}{r r':Row}(hw:rs[w]?=some r) (h:f r'=f r):(rs.set w r').map f=rs.map f:=by
 rw [List.map_set,h]
 refine List.ext_getElem? fun i=>?_
 rw [List.getElem?_set]
 by_cases z:w=i
 ·subst z
  rw [if_pos rfl,List.getElem?_map,hw]
  simp [(List.getElem?_eq_some_iff.mp hw).1]
 ·rw [if_neg z]
def Held (l m h:Addr) (H:Hp) (n:Nat):Prop:=∃ xs:List V,H h=some (.lst xs)∧xs.length=n∧∀ x∈xs,∃ f g,Pair H x f g∧(f≠l∧f≠m∧f≠h)∧g≠l∧g≠m∧g≠h
def KeepD (H H':Hp):Prop:=∀ b o,H b=some o→(∀ kvs,o≠.dK kvs)→H' b=some o
structure LawSt (K:PySem.W.Frag) (C a l m h:Addr) (ns:List Int) (H:Hp) (rs:List Row) (n:Nat):Prop where
 sq:(Rd H a (.lst (ns.map V.int))∧a≠l∧a≠m∧a≠h)∨∀ H',SqL K H' a (ns.map V.int)
 hl:H l=some (.lst (rs.map fun r=>V.ref r.p))
 hm:H m=some (.lst (rs.map fun r=>V.ref r.e))
 lm:l≠m
 hn:h≠l
 hk:h≠m
 rows:Rows C H rs
 held:Held l m h H n
def SameL (l m:Addr) (H H':Hp):Prop:=∀ b o,H b=some o→b≠l→b≠m→H' b=some o
theorem made {H:Hp}{x dx d:Addr}{o1 o2 o3 o4:HO}(nx:H x=none) (ndx:H dx=none) (nn:dx≠x) (n3:upd (upd H dx o1) x o2 d=none):Same H (upd (upd (upd (upd H dx o1) x o2) d o3) x o4)∧d≠x∧H d=none:=by
 have dn:d≠x:=fun z=>by rw [z,upd_same] at n3;cases n3
 have dd:d≠dx:=fun z=>by rw [upd_ne dn,z,upd_same] at n3;cases n3
 have hd:H d=none:=by rw [upd_ne dn,upd_ne dd] at n3;exact n3
 refine⟨fun b o e=>?_,dn,hd⟩
 rw [upd_ne (ne_of_none e nx),upd_ne (ne_of_none e hd),upd_ne (ne_of_none e nx),upd_ne (ne_of_none e ndx)]
 exact e
end Bk
set_option Elab.async false
set_option linter.all false
set_option maxRecDepth 100000
namespace Bk
open PySem L2 Wy
theorem z597 (b:Int) (c:List Int) (b':Int) (c':List Int):∃ o,First b c b' c' o:=by
 by_cases h:∃ t,b≤t∧b'≤t∧mtAt b c b' c' t≠none
 ·obtain⟨t,h1,h2,h3⟩:=h
  have go:∀ (n:Nat) (t:Int),b≤t→b'≤t→(t - b).toNat < n→mtAt b c b' c' t≠none→∃ o,First b c b' c' o:=by
   intro n
   induction n with
   | zero=>intro t _ _ hn _;omega
   | succ n ih=>
    intro t h1 h2 hn h3
    by_cases z:∃ t',b≤t'∧b'≤t'∧t' < t∧mtAt b c b' c' t'≠none
    ·obtain⟨t',g1,g2,g3,g4⟩:=z
     exact ih t' g1 g2 (by omega) g4
    ·cases hw:mtAt b c b' c' t with
     | none=>exact absurd hw h3
     | some w=>exact⟨some (t,w),h1,h2,hw,fun t' g1 g2 g3=>Classical.byContradiction fun g4=>z ⟨t',g1,g2,g3,g4⟩⟩
  exact go _ t h1 h2 (Nat.lt_succ_self _) h3
 ·exact⟨none,fun t h1 h2=>Classical.byContradiction fun g=>h ⟨t,h1,h2,g⟩⟩
theorem no_mt {b:Int}{c:List Int}{b':Int}{c':List Int}(h:¬ Mt b c b' c'):First b c b' c' none:=by
 obtain⟨o,ho⟩:=z597 b c b' c'
 cases o with
 | none=>exact ho
 | some x=>exact absurd ⟨x,ho⟩ h
theorem z561 {b:Int}{c:List Int}{b':Int}{c':List Int}(h:Mt b c b' c'):Mt b' c' b c:=by
 obtain⟨x,hx⟩:=h
 exact⟨x,hx.comm⟩
def Apt (es:List Ent):Prop:=∀ e∈es,∀ e'∈es,e.k≠e'.k→¬ Mt e.b e.c e'.b e'.c
theorem Apt.put {es:List Ent}{n b:Int}{v:V}{c:List Int}(h:Apt es) (p:PutIs es n b c none):Apt (putE es ⟨n,v,b,c⟩):=by
 have mem:∀ x∈putE es ⟨n,v,b,c⟩,x=⟨n,v,b,c⟩∨(x∈es∧x.k≠n):=fun x hx=>by
  unfold putE at hx
  split at hx
  ·obtain⟨y,hy,rfl⟩:=List.mem_map.mp hx
   split
   ·exact .inl rfl
   ·rename_i z;exact .inr ⟨hy,z⟩
  ·rename_i hn
   rcases List.mem_append.mp hx with z | z
   ·exact .inr ⟨z,fun y=>hn (List.any_eq_true.mpr ⟨x,z,decide_eq_true y⟩)⟩
   ·exact .inl (List.mem_singleton.mp z)
 intro e he e' he' nk hm
 rcases mem e he with rfl | ⟨m1,n1⟩ <;> rcases mem e' he' with rfl | ⟨m2,n2⟩
 ·exact nk rfl
 ·exact p e' m2 n2 hm
 ·exact p e m1 n1 (z561 hm)
 ·exact h e m1 e' m2 nk hm
theorem Apt.sub {es fs:List Ent}(h:Apt es) (s:∀ x∈fs,x∈es):Apt fs:=fun e he e' he' nk hm=>h e (s e he) e' (s e' he') nk hm
theorem z534 {b:Int}{c:List Int}{b':Int}{c':List Int}{t z:Int}(h:¬ Mt b c b' c') (p:plc b c t=.int z) (q:plc b' c' t=.int z):False:=by
 have h1:b≤t:=Int.not_lt.mp fun y=>by rw [z114.mpr y] at p;cases p
 have h2:b'≤t:=Int.not_lt.mp fun y=>by rw [z114.mpr y] at q;cases q
 have:=no_mt h t h1 h2
 unfold mtAt mw at this
 rw [p,q,if_pos rfl] at this
 cases this
def endC (c:List Int):Int:=c.getD (c.length - 1) 0
structure FreeOk (es:List Ent) (cell n:Int):Prop where
 pos:0≤n
 low:∀ e∈es,∀ t,0≤t→plc e.b e.c t=.int cell→t < n
 hit:n=0∨∃ e∈es,plc e.b e.c (n - 1)=.int cell
def FreeIs (es:List Ent) (cell:Int) (v:V):Prop:=(v=.non∧∃ e∈es,endC e.c=cell)∨∃ n,v=.int n∧(∀ e∈es,endC e.c≠cell)∧FreeOk es cell n
theorem z623 (es:List Ent):((dw es).map (·.2))=es.map (·.v):=by
 unfold dw kv
 rw [List.map_map,List.map_map]
 rfl
theorem dw_at {es:List Ent}{i:Nat}{k:Key}{v:V}(h:(dw es)[i]?=some (k,v)):∃ e,es[i]?=some e∧k=Sum.inl e.k∧v=e.v:=by
 unfold dw kv at h
 rw [List.getElem?_map,List.getElem?_map] at h
 cases he:es[i]? with
 | none=>rw [he] at h;cases h
 | some e=>
  rw [he] at h
  cases h
  exact⟨e,rfl,rfl,rfl⟩
theorem z203 {H H2:Hp}{a:Addr}{kvs:List (Key × V)} (h:H a=some (.dK kvs)) (s:SameB a H H2):Same H (upd H2 a (.dK kvs)):=fun b o e=>by
 by_cases z:b=a
 ·subst z
  rw [h] at e
  rw [upd_same,e]
 ·rw [upd_ne z]
  exact s b o e z
theorem fz_get {H:Hp}{d:Addr}{o:Obj}{es:List Ent}{e:Ent}(hf:H d=some (.frz o (.dK (dw es)))) (nd:(es.map (·.k)).Nodup) (he:e∈es):DGet H d (.int e.k) (some e.v):=by
 have:DGet H d (kV (Sum.inl e.k)) (valV (dw es) (Sum.inl e.k)):=.inl ⟨_,_,.inr ⟨o,hf⟩,rfl,rfl⟩
 rw [z134 nd he] at this
 exact this
end Bk
set_option Elab.async false
set_option linter.all false
set_option maxRecDepth 100000
namespace Bk
open PySem L2 Wy Hq
abbrev Q4:=Int × Int × Int × Str
def qv (q:Q4):List V:=[.int q.1,.int q.2.1,.int q.2.2.1,.str q.2.2.2]
def qk (q:Q4):List Int:=[q.1,q.2.1,q.2.2.1]
def qOf:Option HO→Q4
 | some (.tup [.int a,.int b,.int c,.str w])=>(a,b,c,w)
 | _=>(0,0,0,"")
def RowsAt (H:Hp) (l:Addr) (rs:List (Addr × Q4)):Prop:=H l=some (.lst (rs.map fun r=>.ref r.1))∧∀ r∈rs,H r.1=some (.tup (qv r.2))
theorem RowsAt.same {H H':Hp}{l:Addr}{rs:List (Addr × Q4)} (h:RowsAt H l rs) (s:Same H H'):RowsAt H' l rs:=⟨s _ _ h.1,fun r hr=>s _ _ (h.2 r hr)⟩
def IsMeet (es:List Ent) (q:Q4):Prop:=∃ e∈es,∃ f∈es,e.k=q.2.1∧f.k=q.2.2.1∧e.k < f.k∧First e.b e.c f.b f.c (some (q.1,q.2.2.2))
def z64 (es:List Ent) (R:List Q4):Prop:=(∀ q,q∈R↔IsMeet es q)∧R.Pairwise (fun p q=>HT.lexLt (qk p) (qk q)=true)
theorem z311:∀ {a b:List Q4},(∀ q,q∈a↔q∈b)→a.Pairwise (fun p q=>HT.lexLt (qk p) (qk q)=true)→b.Pairwise (fun p q=>HT.lexLt (qk p) (qk q)=true)→a=b
 | [],[],_,_,_=>rfl
 | [],y::b,h,_,_=>absurd ((h y).mpr List.mem_cons_self) (by simp)
 | x::a,[],h,_,_=>absurd ((h x).mp List.mem_cons_self) (by simp)
 | x::a,y::b,h,ha,hb=>by
  obtain⟨ha1,ha2⟩:=List.pairwise_cons.mp ha
  obtain⟨hb1,hb2⟩:=List.pairwise_cons.mp hb
  have irr:∀ z:Q4,¬ HT.lexLt (qk z) (qk z)=true:=fun z e=>by
   have:=z204 e
   rw [this] at e
   cases e
  have exy:x=y:=by
   rcases List.mem_cons.mp ((h x).mp List.mem_cons_self) with e | m1
   ·exact e
   ·rcases List.mem_cons.mp ((h y).mpr List.mem_cons_self) with e | m2
    ·exact e.symm
    ·have l1:=hb1 x m1
     have l2:=ha1 y m2
     have:=z204 l1
     rw [this] at l2
     cases l2
  subst exy
  rw [z311 (fun q=>?_) ha2 hb2]
  constructor
  ·intro m
   rcases List.mem_cons.mp ((h q).mp (List.mem_cons_of_mem _ m)) with e | m'
   ·rw [e] at m
    exact absurd (ha1 _ m) (irr _)
   ·exact m'
  ·intro m
   rcases List.mem_cons.mp ((h q).mpr (List.mem_cons_of_mem _ m)) with e | m'
   ·rw [e] at m
    exact absurd (hb1 _ m) (irr _)
   ·exact m'
theorem z64.uniq {es:List Ent}{R R':List Q4}(h:z64 es R) (h':z64 es R'):R=R':=z311 (fun q=>(h.1 q).trans (h'.1 q).symm) h.2 h'.2
theorem IsMeet.one {es:List Ent}(nd:(es.map (·.k)).Nodup){q q':Q4}(h:IsMeet es q) (h':IsMeet es q') (e1:q.2.1=q'.2.1) (e2:q.2.2.1=q'.2.2.1):q=q':=by
 obtain⟨e,he,f,hf,a1,a2,_,F⟩:=h
 obtain⟨e',he',f',hf',b1,b2,_,F'⟩:=h'
 obtain rfl:e'=e:=z107 nd he he' (by rw [b1,a1,e1])
 obtain rfl:f'=f:=z107 nd hf hf' (by rw [b2,a2,e2])
 have:=Option.some.inj (F.uniq F')
 obtain⟨t,a,b,w⟩:=q
 obtain⟨t',a',b',w'⟩:=q'
 simp only [Prod.mk.injEq] at this e1 e2 ⊢
 exact⟨this.1,e1,e2,this.2⟩
def RowsOk (es:List Ent) (P:Int→Int→Prop) (R:List Q4):Prop:=(∀ q,q∈R↔IsMeet es q∧P q.2.1 q.2.2.1)∧R.Nodup
theorem RowsOk.congr {es:List Ent}{P P':Int→Int→Prop}{R:List Q4}(h:RowsOk es P R) (e:∀ q,IsMeet es q→(P q.2.1 q.2.2.1↔P' q.2.1 q.2.2.1)):RowsOk es P' R:=
 ⟨fun q=>⟨fun m=>⟨((h.1 q).mp m).1,(e q ((h.1 q).mp m).1).mp ((h.1 q).mp m).2⟩,fun m=>(h.1 q).mpr ⟨m.1,(e q m.1).mpr m.2⟩⟩,h.2⟩
theorem RowsOk.skip {es:List Ent}{P:Int→Int→Prop}{R:List Q4}{a b:Int}(h:RowsOk es P R) (n:∀ q,IsMeet es q→¬ (q.2.1=a∧q.2.2.1=b)):RowsOk es (fun x y=>P x y∨(x=a∧y=b)) R:=
 h.congr fun q m=>⟨.inl,fun z=>z.resolve_right (n q m)⟩
theorem RowsOk.none {es:List Ent}{P:Int→Int→Prop}{R:List Q4}{e f:Ent}(h:RowsOk es P R) (nd:(es.map (·.k)).Nodup) (he:e∈es) (hf:f∈es) (F:First e.b e.c f.b f.c none):RowsOk es (fun x y=>P x y∨(x=e.k∧y=f.k)) R:=
 h.skip fun q ⟨e',he',f',hf',a1,a2,_,F'⟩ ⟨z1,z2⟩=>by
  obtain rfl:e'=e:=z107 nd he he' (by rw [a1,z1])
  obtain rfl:f'=f:=z107 nd hf hf' (by rw [a2,z2])
  exact absurd (F.uniq F') (by simp)
theorem RowsOk.add {es:List Ent}{P:Int→Int→Prop}{R:List Q4}{e f:Ent}{t:Int}{w:Str}(h:RowsOk es P R) (nd:(es.map (·.k)).Nodup) (he:e∈es) (hf:f∈es) (lt:e.k < f.k) (F:First e.b e.c f.b f.c (some (t,w))) (n:¬ P e.k f.k):
  RowsOk es (fun x y=>P x y∨(x=e.k∧y=f.k)) (R++[(t,e.k,f.k,w)]):=by
 have im:IsMeet es (t,e.k,f.k,w):=⟨e,he,f,hf,rfl,rfl,lt,F⟩
 refine⟨fun q=>?_,nd_snoc h.2 fun z=>n ((h.1 _).mp z).2⟩
 rw [List.mem_append,List.mem_singleton]
 constructor
 ·rintro(m | rfl)
  ·exact⟨((h.1 q).mp m).1,.inl ((h.1 q).mp m).2⟩
  ·exact⟨im,.inr ⟨rfl,rfl⟩⟩
 ·rintro⟨m,p | ⟨z1,z2⟩⟩
  ·exact .inl ((h.1 q).mpr ⟨m,p⟩)
  ·exact .inr (IsMeet.one nd m im z1 z2)
def Pij (ks:List Int) (i:Nat) (ls:List Int) (j:Nat) (a b:Int):Prop:=a∈ks.take i∨(ks[i]?=some a∧b∈ls.take j)
theorem z166 {ks:List Int}{i:Nat}{x:Int}(h:ks[i]?=some x) (a:Int):a∈ks.take (i + 1)↔a∈ks.take i∨a=x:=by
 rw [List.take_succ,h,List.mem_append]
 simp
theorem z207 {ks ls:List Int}{i j:Nat}{x y a b:Int}(hx:ks[i]?=some x) (hy:ls[j]?=some y):Pij ks i ls j a b∨(a=x∧b=y)↔Pij ks i ls (j + 1) a b:=by
 unfold Pij
 rw [z166 hy,hx]
 constructor
 ·rintro((h | ⟨h1,h2⟩) | ⟨h1,h2⟩)
  ·exact .inl h
  ·exact .inr ⟨h1,.inl h2⟩
  ·exact .inr ⟨by rw [h1],.inr h2⟩
 ·rintro(h | ⟨h1,h2 | h2⟩)
  ·exact .inl (.inl h)
  ·exact .inl (.inr ⟨h1,h2⟩)
  ·exact .inr ⟨(Option.some.inj h1).symm,h2⟩
theorem z548 {ks ls:List Int}{i j:Nat}{x y:Int}(nk:ks.Nodup) (nl:ls.Nodup) (hx:ks[i]?=some x) (hy:ls[j]?=some y):¬ Pij ks i ls j x y:=by
 have no:∀ {ks:List Int}{i:Nat}{x:Int},ks.Nodup→ks[i]?=some x→x ∉ ks.take i:=fun{ks i x} nd hx m=>by
  obtain⟨j,hj,e⟩:=List.getElem_of_mem m
  rw [List.length_take] at hj
  obtain⟨hi,ei⟩:=List.getElem?_eq_some_iff.mp hx
  rw [List.getElem_take] at e
  exact List.pairwise_iff_getElem.mp nd j i (by omega) hi (by omega) (by rw [e,ei])
 rintro(h | ⟨_,h⟩)
 ·exact no nk hx h
 ·exact no nl hy h
theorem z64.of {es:List Ent}{R R':List Q4}(h:RowsOk es (fun _ _=>True) R) (nd:(es.map (·.k)).Nodup) (p:R'.Perm R) (s:R'.Pairwise (fun a b=>Le (qk a) (qk b))):z64 es R':=by
 refine⟨fun q=>p.mem_iff.trans ⟨fun m=>((h.1 q).mp m).1,fun m=>(h.1 q).mpr ⟨m,trivial⟩⟩,?_⟩
 have n':R'.Nodup:=p.nodup_iff.mpr h.2
 have both:=s.and n'
 refine both.imp_of_mem fun{a b} ma mb ⟨l,n⟩=>?_
 have ia:=((h.1 a).mp (p.mem_iff.mp ma)).1
 have ib:=((h.1 b).mp (p.mem_iff.mp mb)).1
 cases e:HT.lexLt (qk a) (qk b) with
 | true=>rfl
 | false=>
  have:qk a=qk b:=z389 e l
  simp only [qk,List.cons.injEq,and_true] at this
  exact absurd (IsMeet.one nd ia ib this.2.1 this.2.2) n
theorem z64.nil {es:List Ent}{R:List Q4}(h:z64 es R) (ap:Apt es):R=[]:=by
 cases R with
 | nil=>rfl
 | cons q R=>
  obtain⟨e,he,f,hf,_,_,lt,F⟩:=(h.1 q).mp List.mem_cons_self
  exact absurd ⟨_,F⟩ (ap e he f hf (by omega))
end Bk
set_option Elab.async false
set_option linter.all false
set_option maxRecDepth 100000
namespace Bk
open PySem L2 Wy Hq
def EndIs (es:List Ent) (x:Int):Prop:=3≤x∧x≤303∧∀ e∈es,e.b + (e.c.length:Int) + 3≤x
def endT (e:Ent):Int:=e.b + (e.c.length:Int)
theorem end_of {H:Hp}{es:List Ent}{m:Int}(en:Ents H es) (h:MaxD (es.map endT) 0 m):EndIs es (3 + m):=by
 rcases h with ⟨h1,h2⟩ | ⟨h1,h2⟩
 ·refine⟨by omega,by omega,fun e he=>?_⟩
  rw [List.map_eq_nil_iff] at h1
  rw [h1] at he
  cases he
 ·obtain⟨e,he,rfl⟩:=List.mem_map.mp h1
  have ty:=(en.ok e he).2.1
  obtain⟨t1,t2,t3,t4⟩:=ty
  have:0 < e.c.length:=List.length_pos_iff.mpr t1
  refine⟨by unfold endT;omega,by unfold endT;omega,fun x hx=>?_⟩
  have:=h2 _ (List.mem_map.mpr ⟨x,hx,rfl⟩)
  unfold endT at this ⊢
  omega
def zI (e:Ent) (t:Int):Int:=e.c.getD (idx e.b e.c t).toNat 0
def plE (e:Ent) (t:Int):V:=plc e.b e.c t
theorem z458 {e:Ent}{t:Int}(h:plE e t≠.non):plE e t=.int (zI e t):=by
 unfold plE plc at h ⊢
 split
 ·rename_i y;rw [if_pos y] at h;exact absurd rfl h
 ·rfl
theorem z420 {es:List Ent}{t:Int}(ap:Apt es) (nd:(es.map (·.k)).Nodup){rs:List (Addr × Ent)} (e:rs.map (·.2)=es):((rs.filter fun r=>decide (plE r.2 t≠.non)).map fun r=>zI r.2 t).Nodup:=by
 have h1:rs.Pairwise (fun a b=>a.2.k≠b.2.k):=by
  rw [← e,List.map_map] at nd
  exact List.pairwise_map.mp nd
 unfold List.Nodup
 rw [List.pairwise_map]
 refine(h1.filter _).imp_of_mem fun{a b} ma mb n z=>?_
 have m:∀ x∈rs.filter (fun r=>decide (plE r.2 t≠.non)),x.2∈es∧plE x.2 t=.int (zI x.2 t):=fun x hx=>by
  obtain⟨h1,h2⟩:=List.mem_filter.mp hx
  exact⟨by rw [← e];exact List.mem_map.mpr ⟨x,h1,rfl⟩,z458 (of_decide_eq_true h2)⟩
 obtain⟨a1,a2⟩:=m a ma
 obtain⟨b1,b2⟩:=m b mb
 exact z534 (ap _ a1 _ b1 n) a2 (by rw [z];exact b2)
theorem z615 {es:List Ent}{t:Int}(ap:Apt es) (nd:(es.map (·.k)).Nodup){e f:Ent}(he:e∈es) (hf:f∈es) (h1:plE e t=plE f (t + 1)) (h2:plE e (t + 1)=plE f t) (n:plE e t≠plE e (t + 1)):False:=by
 unfold plE at *
 by_cases b1:t < e.b
 ·have z1:plc f.b f.c (t + 1)=.non:=by rw [← h1];exact z114.mpr b1
  have z2:plc f.b f.c t=.non:=z114.mpr (by have:=z114.mp z1;omega)
  exact n (by rw [h1,h2,z1,z2])
 ·obtain⟨z,hz⟩:=z633 (b:=e.b) (cs:=e.c) (t:=t + 1) (by omega)
  have b2:f.b≤t:=Int.not_lt.mp fun y=>by rw [z114.mpr y,hz] at h2;cases h2
  by_cases k:e.k=f.k
  ·obtain rfl:f=e:=z107 nd he hf k.symm
   exact n h1
  ·have:=no_mt (ap e he f hf k) t (by omega) b2
   unfold mtAt mw at this
   rw [if_neg (by rw [← h2];exact n),if_pos ⟨h2,h1.symm⟩] at this
   cases this
def dP:V→PyData
 | .int i=>.int i
 | _=>.none
theorem den_pl {K:PySem.W.Frag}{H:Hp}(e:Ent) (t:Int):Den K H (plE e t) (dP (plE e t)):=by
 unfold plE plc
 split
 ·exact .non
 ·exact .int _
theorem eqv_pl {e f:Ent}{t u:Int}(h:(dP (plE e t)).eqv (dP (plE f u))=true):plE e t=plE f u:=by
 revert h
 unfold plE plc
 split <;> split <;> intro h
 ·rfl
 ·simp [dP,PyData.eqv] at h
 ·simp [dP,PyData.eqv] at h
 ·simp only [dP,PyData.eqv,beq_iff_eq,decide_eq_true_eq] at h
  rw [h]
def dT:Option HO→PyData
 | some (.tup [x,y])=>.tuple [dP x,dP y]
 | _=>.none
theorem z330 (x y:V):SeqAt.shaped (.tuple [dP x,dP y])=true:=by
 cases x <;> cases y <;> rfl
end Bk
set_option Elab.async false
set_option linter.all false
set_option maxRecDepth 100000
namespace Pf
open PySem L2
def top (i:Nat):Stmt:=PySem.Challenge.pw_floorways_k15_whole_books_never_meet.main.body.getD i (.Pass ⟨0,0,0,0⟩)
abbrev s_q4:Stmt:=inClass (top 4) 0
abbrev s_q9:Stmt:=top 6
abbrev s_q6:Stmt:=top 8
abbrev s_q10:Stmt:=top 9
abbrev s_q11:Stmt:=top 10
abbrev s_q2:Stmt:=top 11
abbrev s_q1:Stmt:=top 12
abbrev s_q12:Stmt:=top 14
abbrev s_q7:Stmt:=inClass (top 16) 0
abbrev s_q13:Stmt:=inClass (top 16) 1
abbrev s_q8:Stmt:=inClass (top 16) 2
abbrev s_q14:Stmt:=inClass (top 16) 3
abbrev s_q3:Stmt:=inClass (top 16) 4
abbrev s_q0:Stmt:=inClass (top 16) 13
abbrev s_q15:Stmt:=top 18
abbrev s_q20:Stmt:=top 19
abbrev s_q21:Stmt:=top 20
abbrev z67:Stmt:=top 21
abbrev s_q16:Stmt:=top 22
abbrev s_q5:Stmt:=top 23
abbrev s_q17:Stmt:=top 24
abbrev s_Ldue:Stmt:=top 25
abbrev s_Lare:Stmt:=top 26
abbrev s_q22:Stmt:=top 27
abbrev s_q18:Stmt:=top 28
abbrev s_q19:Stmt:=top 29
abbrev s_law:Stmt:=top 30
structure Ad where
 q4:Addr
 q9:Addr
 q6:Addr
 q10:Addr
 q11:Addr
 q2:Addr
 q1:Addr
 q12:Addr
 q7:Addr
 q13:Addr
 q8:Addr
 q14:Addr
 q3:Addr
 q0:Addr
 q15:Addr
 q20:Addr
 q21:Addr
 Lrows:Addr
 q16:Addr
 q5:Addr
 q17:Addr
 Ldue:Addr
 Lare:Addr
 q22:Addr
 q18:Addr
 q19:Addr
 law:Addr
 C_Book:Addr
 C_NoCarrier:Addr
 C_FloorError:Addr
 C_Meets:Addr
structure Txt (K:PySem.W.Frag) (mg:Str→Option Value) (ad:Ad):Prop where
 b_len:mg "len"=none
 b_range:mg "range"=none
 b_isinstance:mg "isinstance"=none
 b_all:mg "all"=none
 b_int:mg "int"=none
 b_bool:mg "bool"=none
 b_list:mg "list"=none
 b_tuple:mg "tuple"=none
 b_dict:mg "dict"=none
 b_set:mg "set"=none
 b_min:mg "min"=none
 b_max:mg "max"=none
 b_sorted:mg "sorted"=none
 b_enumerate:mg "enumerate"=none
 b_ValueError:mg "ValueError"=none
 mg_q9:mg "is_whole"=some (.ref ad.q9)
 k_q9:PySem.W.keepIn K (.ref ad.q9)=true
 mg_q6:mg "last_time"=some (.ref ad.q6)
 k_q6:PySem.W.keepIn K (.ref ad.q6)=true
 mg_q10:mg "index_at"=some (.ref ad.q10)
 k_q10:PySem.W.keepIn K (.ref ad.q10)=true
 mg_q11:mg "place_at"=some (.ref ad.q11)
 k_q11:PySem.W.keepIn K (.ref ad.q11)=true
 mg_q2:mg "meeting_word"=some (.ref ad.q2)
 k_q2:PySem.W.keepIn K (.ref ad.q2)=true
 mg_q1:mg "first_meeting"=some (.ref ad.q1)
 k_q1:PySem.W.keepIn K (.ref ad.q1)=true
 mg_q12:mg "meetings"=some (.ref ad.q12)
 k_q12:PySem.W.keepIn K (.ref ad.q12)=true
 m_q13:Meth K ad.C_Book "put" ad.q13
 m_q8:Meth K ad.C_Book "drop" ad.q8
 m_q14:Meth K ad.C_Book "way" ad.q14
 m_q3:Meth K ad.C_Book "numbers" ad.q3
 m_q0:Meth K ad.C_Book "check_number" ad.q0
 mg_q15:mg "_law_cell_at"=some (.ref ad.q15)
 k_q15:PySem.W.keepIn K (.ref ad.q15)=true
 mg_q20:mg "_law_mixed"=some (.ref ad.q20)
 k_q20:PySem.W.keepIn K (.ref ad.q20)=true
 mg_q21:mg "_law_whole"=some (.ref ad.q21)
 k_q21:PySem.W.keepIn K (.ref ad.q21)=true
 mg_Lrows:mg "_law_rows"=some (.ref ad.Lrows)
 k_Lrows:PySem.W.keepIn K (.ref ad.Lrows)=true
 mg_q16:mg "_law_meeting"=some (.ref ad.q16)
 k_q16:PySem.W.keepIn K (.ref ad.q16)=true
 mg_q5:mg "_law_drawn_way"=some (.ref ad.q5)
 k_q5:PySem.W.keepIn K (.ref ad.q5)=true
 mg_q17:mg "_law_ways_by"=some (.ref ad.q17)
 k_q17:PySem.W.keepIn K (.ref ad.q17)=true
 mg_Ldue:mg "_law_due"=some (.ref ad.Ldue)
 k_Ldue:PySem.W.keepIn K (.ref ad.Ldue)=true
 mg_Lare:mg "_law_are"=some (.ref ad.Lare)
 k_Lare:PySem.W.keepIn K (.ref ad.Lare)=true
 mg_q22:mg "_law_never"=some (.ref ad.q22)
 k_q22:PySem.W.keepIn K (.ref ad.q22)=true
 mg_q18:mg "_law_refused"=some (.ref ad.q18)
 k_q18:PySem.W.keepIn K (.ref ad.q18)=true
 mg_q19:mg "_law_put_in"=some (.ref ad.q19)
 k_q19:PySem.W.keepIn K (.ref ad.q19)=true
 mg_law:mg "law"=some (.ref ad.law)
 k_law:PySem.W.keepIn K (.ref ad.law)=true
 mg_Book:mg "Book"=some (.ref ad.C_Book)
 cl_Book:Cls K ad.C_Book
 n_Book_ways:NoAttr K ad.C_Book "ways"
 mk_Book:Mk K ad.C_Book ad.q7
 mg_NoCarrier:mg "NoCarrier"=some (.ref ad.C_NoCarrier)
 er_NoCarrier:ErrC K ad.C_NoCarrier
 mg_FloorError:mg "FloorError"=some (.ref ad.C_FloorError)
 mg_Meets:mg "Meets"=some (.ref ad.C_Meets)
 xm_Meets_Meets:PySem.W.exmOne K (.ref ad.C_Meets) (.ref ad.C_Meets)=some true
 xn_Meets:PySem.W.findIn K (.ref ad.C_Meets) "__init__"=some (some (.ref ad.q4))
 xi_Meets:exiIn K ad.C_Meets ad.q4=true
 xf_Meets:PySem.W.isFn K (.ref ad.q4)=true
 xt_sa:PySem.W.findIn K (.ref ad.C_Meets) "__setattr__"=some (some (.builtin "object.__setattr__"))
 xt_mro:(PySem.W.clsIn K ad.C_Meets).any (fun cd=>z32 cd.mro)=true
 xt_dict:(PySem.W.clsIn K ad.C_Meets).any (·.hasDict)=true
 xt_no:PySem.W.findIn K (.ref ad.C_Meets) "other"=some none
 xt_hd:PySem.W.hasDictIn K ad.C_Meets=true
 xt_ga:PySem.W.findIn K (.ref ad.C_Meets) "__getattribute__"=some (some (.builtin "BaseException.__getattribute__"))
 xt_gn:PySem.W.findIn K (.ref ad.C_Meets) "__getattr__"=some none
 xt_bx:PySem.W.mroIn K ad.C_Meets (.type "BaseException")=some true
def isI:V→Bool
 | .int _=>true
 | _=>false
def isIB:V→Bool
 | .int _=>true
 | .bl _=>true
 | _=>false
def isB:V→Bool
 | .bl _=>true
 | _=>false
def TyB (K:PySem.W.Frag) (H:Hp) (x:V):Prop:=∃ n,TyOf K H x (.type n)
theorem z554 {K:PySem.W.Frag}{H:Hp}{x:V}{n:String}(h:TyOf K H x (.type n)):PySem.W.kitOne K (.type n) (.type "int")=some (isIB x):=by
 cases h <;> rfl
theorem z480 {K:PySem.W.Frag}{H:Hp}{x:V}{n:String}(h:TyOf K H x (.type n)):PySem.W.kitOne K (.type n) (.type "bool")=some (isB x):=by
 cases h <;> rfl
def z268 (K:PySem.W.Frag):Sp:=fun vs H Q _=>∃ x,vs=[x]∧TyB K H x∧Q (.bl (isI x)) H
theorem zz1 {t u:TS}{D:Ends}{σ:St}{H:Hp}(M:St→Hp→Prop) (h1:∀ nx:St→Hp→Prop,(∀ σ' H',M σ' H'→nx σ' H')→t { D with nx:=nx } σ H) (h2:∀ σ' H',M σ' H'→u D σ' H'):tSeq t u D σ H:=h1 (u D) h2
open Wy
def spLast:Sp:=fun vs H Q _=>∃ v b cs,vs=[v]∧WayAt H v b cs∧Q (.int (b + (cs.length:Int) - 1)) H
def spIdx:Sp:=fun vs H Q _=>∃ v b cs t,vs=[v,.int t]∧WayAt H v b cs∧Q (.int (idx b cs t)) H
def z466:Sp:=fun vs H Q _=>∃ v b cs t,vs=[v,.int t]∧WayAt H v b cs∧cs≠[]∧Q (plc b cs t) H
def spCell (K:PySem.W.Frag):Sp:=fun vs H Q _=>∃ (a:Addr) (ns:List Int) (k:Int),vs=[.ref a,.int k]∧SqL K H a (ns.map V.int)∧(∀ i∈ns,Bits i)∧0≤k∧∀ r:Int,Bits r→Q (.int r) H
def z388:Sp:=fun vs H Q _=>∃ (c k:Int),vs=[.int c,.int k]∧Bits c∧0≤k∧k≤100∧∀ r:Int,0≤r→r < 2147483647→Q (.int r) H
def wordV:Option Str→V
 | some w=>.str w
 | none=>.non
def spWord:Sp:=fun vs H Q _=>∃ v b c v' b' c' t,vs=[v,v',.int t]∧WayAt H v b c∧WayAt H v' b' c'∧c≠[]∧c'≠[]∧Q (wordV (mtAt b c b' c' t)) H
theorem sc_plc {x y:V}(hx:x=.non∨∃ z,x=.int z) (hy:y=.non∨∃ z,y=.int z):scal x y=true:=by
 rcases hx with rfl | ⟨z,rfl⟩ <;> rcases hy with rfl | ⟨w,rfl⟩ <;> rfl
open Bk
def Good (b:Int) (c:List Int):Prop:=c≠[]∧c.length≤1000∧0≤b∧b≤10 ^ 15
def z369:Sp:=fun vs H Q _=>∃ v b c v' b' c',vs=[v,v']∧WayAt H v b c∧WayAt H v' b' c'∧Good b c∧Good b' c'∧∀ r H' o,Same H H'→MeetAt H' r o→First b c b' c' o→Q r H'
def spRows:Sp:=fun vs H Q _=>∃ (v:V) (b:Int) (c:List Int) (e:Int),vs=[v,.int e]∧WayAt H v b c∧c≠[]∧c.length≤100∧0≤b∧b≤200∧b + (c.length:Int)≤e∧e≤1000∧∀ l H',H l=none→Same H H'→H' l=some (.lst ((List.range (e.toNat + 1)).map fun i=>plc b c (i:Nat)))→Q (.ref l) H'
def z301:Sp:=fun vs H Q _=>∃ v b c v' b' c',vs=[v,v']∧WayAt H v b c∧WayAt H v' b' c'∧Tiny b c∧Tiny b' c'∧∀ r H' o,Same H H'→MeetAt H' r o→First b c b' c' o→Q r H'
def z485 (ad:Ad):Sp:=fun vs H Q _=>∃ (x:Addr) (k:Int) (fs:Array Value) (sl:Array (Option Value)),vs=[.ref x,.int k]∧H x=some (.ext (XObj x ad.C_Meets none fs sl))∧∀ dx,H dx=none→dx≠x→Q .non (upd (upd H dx (.xd (putF "other" (.int k) []))) x (.ext (XObj x ad.C_Meets (some dx) fs sl)))
def z462 (ad:Ad):Sp:=fun vs H Q _=>∃ (p dx:Addr),vs=[.ref p]∧H p=some (.ins ad.C_Book dx [])∧∀ d,H d=none→Q .non (upd (upd H d (.dK [])) p (.ins ad.C_Book dx (wl d)))
def z384 (ad:Ad):Sp:=fun vs H Q E=>∃ (p d:Addr) (es:List Ent) (n:Int),vs=[.ref p,.int n]∧BookAt ad.C_Book H p d es∧((∃ e∈es,e.k=n)→Q .non H)∧((∀ e∈es,e.k≠n)→E (.ref ad.C_NoCarrier) none H)
def z162 (ad:Ad):Sp:=fun vs H Q _=>∃ (p d:Addr) (es:List Ent),vs=[.ref p]∧BookAt ad.C_Book H p d es∧es.length < 64∧∀ (l:Addr) (ms:List Int),H l=none→ms.Perm (es.map (·.k))→ms.Pairwise (·≤·)→Q (.ref l) (upd H l (.lst (ms.map V.int)))
def spPut (ad:Ad):Sp:=fun vs H Q E=>∃ (p d:Addr) (es:List Ent) (n:Int) (v:V) (b:Int) (c:List Int),vs=[.ref p,.int n,v]∧BookAt ad.C_Book H p d es∧Ents H es∧WayAt H v b c∧Tiny b c∧
 ∀ H',Same H H'→(PutIs es n b c none→Q .non (upd H' d (.dK (dw (putE es ⟨n,v,b,c⟩)))))∧∀ k x,PutIs es n b c (some k)→H' x=some (.xd (putF "other" (.int k) []))→E (.ref ad.C_Meets) (some x) H'
def spDrop (ad:Ad):Sp:=fun vs H Q E=>∃ (p d:Addr) (es:List Ent) (n:Int),vs=[.ref p,.int n]∧BookAt ad.C_Book H p d es∧(es.map (·.k)).Nodup∧((∃ e∈es,e.k=n)→Q .non (upd H d (.dK (dw (dropE es n)))))∧((∀ e∈es,e.k≠n)→E (.ref ad.C_NoCarrier) none H)
def spWayM (ad:Ad):Sp:=fun vs H Q E=>∃ (p d:Addr) (es:List Ent) (n:Int),vs=[.ref p,.int n]∧BookAt ad.C_Book H p d es∧(es.map (·.k)).Nodup∧(∀ e∈es,e.k=n→Q e.v H)∧((∀ e∈es,e.k≠n)→E (.ref ad.C_NoCarrier) none H)
def z459:Sp:=fun vs H Q _=>∃ (x m:Int),vs=[.int x,.int m]∧0≤x∧x < 2147483647∧1≤m∧m≤100∧∀ v b c H',Same H H'→WayAt H' v b c→Tiny b c→Q v H'
def oV:Option Int→V
 | none=>.non
 | some k=>.int k
def Sub (bs es:List Ent):Prop:=∀ e∈bs,e∈es
def z72:Sp:=fun vs H Q _=>∃ (d:Addr) (es:List Ent),vs=[.ref d]∧H d=some (.dK (dw es))∧Ents H es∧es.length≤20∧∀ l rs H',H l=none→Same H H'→RowsAt H' l rs→z64 es (rs.map (·.2))→rs.length≤1000→Q (.ref l) H'
def z337 (K:PySem.W.Frag):Sp:=fun vs H Q _=>∃ (a:Addr) (ns:List Int),vs=[.ref a]∧SqL K H a (ns.map V.int)∧ns.length≤63∧(∀ i∈ns,Bits i)∧∀ d es H',H d=none→Same H H'→H' d=some (.dK (dw es))→Ents H' es→es.length≤20→Q (.ref d) H'
def spAre:Sp:=fun vs H Q _=>∃ (f g:Addr) (rs us:List (Addr × Q4)),vs=[.ref f,.ref g]∧RowsAt H f rs∧RowsAt H g us∧rs.map (·.2)=us.map (·.2)∧rs.length≤1000∧(∀ q∈rs.map (·.2),PyData.strOk q.2.2.2=true)∧∀ H',Same H H'→Q (.bl true) H'
def z492:Sp:=fun vs H Q _=>∃ (d:Addr) (es:List Ent),vs=[.ref d]∧H d=some (.dK (dw es))∧Ents H es∧Apt es∧es.length≤20∧∀ H',Same H H'→Q (.bl true) H'
def z297 (ad:Ad):Sp:=fun vs H Q _=>∃ (p d:Addr) (es:List Ent) (n:Int) (v:V) (b:Int) (c:List Int),vs=[.ref p,.int n,v]∧BookAt ad.C_Book H p d es∧Ents H es∧WayAt H v b c∧Tiny b c∧
 ∀ H' o,PutIs es n b c o→SameB d H H'→H' d=some (.dK (dw (aft es ⟨n,v,b,c⟩ o)))→Q (oV o) H'
def z481 (ad:Ad) (K:PySem.W.Frag):Sp:=fun vs H Q _=>∃ (p d w o r:Addr) (bs es:List Ent) (ns:List Int) (rs:List (Addr × Q4)),vs=[.ref p,.ref w,.ref o,.ref r]∧BookAt ad.C_Book H p d bs∧H w=some (.dK (dw es))∧Ents H es∧H o=some (.lst (ns.map V.int))∧RowsAt H r rs∧z64 es (rs.map (·.2))∧rs.length≤1000∧Sub bs es∧(bs.map (·.k)).Nodup∧Apt bs∧(∀ n∈ns,∃ e∈es,e.k=n)∧ns.length≤1000∧d≠w∧d≠o∧d≠r∧
 ∀ H' bs',SameB d H H'→BookAt ad.C_Book H' p d bs'→Sub bs' es→(bs'.map (·.k)).Nodup→Apt bs'→Q (.bl true) H'
def spLaw (K:PySem.W.Frag):Sp:=fun vs H Q _=>∃ (a:Addr) (ns:List Int),vs=[.ref a]∧SqL K H a (ns.map V.int)∧ns.length≤63∧(∀ i∈ns,Bits i)∧∀ H',Q (.bl true) H'
theorem z460 {H:Hp}{l x:Addr}{rs:List (Addr × Q4)}{q:Q4}(h:RowsAt H l rs) (e:H x=some (.tup (qv q))):RowsAt (upd H l (.lst ((rs.map fun r=>V.ref r.1)++[.ref x]))) l (rs++[(x,q)]):=by
 refine⟨by rw [upd_same,List.map_append];rfl,fun r hr=>?_⟩
 have ne:∀ {y:Addr}{vs:List V},H y=some (.tup vs)→y≠l:=fun{y vs} z e=>by rw [e,h.1] at z;cases z
 rcases List.mem_append.mp hr with m | m
 ·rw [upd_ne (ne (h.2 r m))]
  exact h.2 r m
 ·rw [List.mem_singleton.mp m,upd_ne (ne e)]
  exact e
theorem z419 (rs:List (Addr × Q4)) (x:Addr) (q:Q4):(rs++[(x,q)]).map (·.2)=rs.map (·.2)++[q]:=by rw [List.map_append];rfl
theorem z593 {xs:List V}{i:Nat}(h:i < xs.length):cutV xs (some ((i:Int) + 1)) none=xs.drop (i + 1):=by
 have e1:HT.sIx xs.length 0 (some ((i:Int) + 1))=i + 1:=by rw [show ((i:Int) + 1)=((i + 1:Nat):Int) by omega,HT.sIx_nat];omega
 have e2:HT.sIx xs.length xs.length (none:Option Int)=xs.length:=by simp [HT.sIx]
 unfold cutV
 rw [e1,e2]
 exact List.take_of_length_le (by rw [List.length_drop];omega)
theorem z540 {ms:List Int}(h:ms.Pairwise (·≤·)) (nd:ms.Nodup):ms.Pairwise (· < ·):=(h.and nd).imp fun⟨a,b⟩=>by omega
theorem z264 {es:List Ent}{H:Hp}{l:Addr}{rs:List (Addr × Q4)} (nd:(es.map (·.k)).Nodup) (h:RowsAt H l rs) (ok:RowsOk es (fun _ _=>True) (rs.map (·.2))) (ln:rs.length < 1000):
  ∃ (ts:List Addr) (k:Addr→List Int) (z:Addr→Str),H l=some (.lst (ts.map V.ref))∧ts.length < 1000∧(∀ t∈ts,H t=some (.tup ((k t).map V.int++[V.str (z t)])))∧(∀ t∈ts,(k t).length=3)∧(∀ t∈ts,∀ u∈ts,k t=k u→z t=z u)∧
   ∀ us:List Addr,us.Perm ts→us.Pairwise (fun a b=>Hq.Le (k a) (k b))→∀ p,H p=none→∃ rs':List (Addr × Q4),RowsAt (upd H p (.lst (us.map V.ref))) p rs'∧z64 es (rs'.map (·.2))∧rs'.length≤1000:=by
 have qo:∀ r∈rs,qOf (H r.1)=r.2:=fun r hr=>by rw [h.2 r hr];rfl
 have at_:∀ t∈rs.map (·.1),H t=some (.tup (qv (qOf (H t))))∧qOf (H t)∈rs.map (·.2):=fun t ht=>by
  obtain⟨r,hr,rfl⟩:=List.mem_map.mp ht
  rw [qo r hr]
  exact⟨h.2 r hr,List.mem_map.mpr ⟨r,hr,rfl⟩⟩
 refine⟨rs.map (·.1),fun t=>qk (qOf (H t)),fun t=>(qOf (H t)).2.2.2,by rw [h.1,List.map_map];rfl,by rw [List.length_map];exact ln,fun t ht=>(at_ t ht).1,fun _ _=>rfl,fun t ht u hu e=>?_,fun us pu su p np=>?_⟩
 ·have e:qk (qOf (H t))=qk (qOf (H u)):=e
  simp only [qk,List.cons.injEq,and_true] at e
  dsimp only
  rw [IsMeet.one nd ((ok.1 _).mp (at_ t ht).2).1 ((ok.1 _).mp (at_ u hu).2).1 e.2.1 e.2.2]
 ·refine⟨us.map fun t=>(t,qOf (H t)),⟨by rw [upd_same,List.map_map];rfl,fun r hr=>?_⟩,z64.of ok nd ?_ ?_,by have:=pu.length_eq;rw [List.length_map] at this ⊢;omega⟩
  ·obtain⟨t,ht,rfl⟩:=List.mem_map.mp hr
   exact(z0 np) _ _ (at_ t (pu.mem_iff.mp ht)).1
  ·rw [List.map_map]
   refine(pu.map _).trans ?_
   rw [List.map_map]
   refine List.Perm.of_eq (List.map_congr_left fun r hr=>?_)
   exact qo r hr
  ·rw [List.map_map,List.pairwise_map]
   exact su
def dataQ (q:Q4):PyData:=.tuple [.int q.1,.int q.2.1,.int q.2.2.1,.str q.2.2.2]
def rowsQ (R:List Q4):PyData:=.list (R.map dataQ)
theorem z396 {K:PySem.W.Frag}{H:Hp}{l:Addr}{rs:List (Addr × Q4)} (h:RowsAt H l rs):Den K H (.ref l) (rowsQ (rs.map (·.2))):=by
 have all:∀ rs:List (Addr × Q4),(∀ r∈rs,H r.1=some (.tup (qv r.2)))→DenAll K H (rs.map fun r=>V.ref r.1) ((rs.map (·.2)).map dataQ):=fun rs h=>by
  induction rs with
  | nil=>exact .nil
  | cons r rs ih=>exact .cons (.tup (SqT.of (h r List.mem_cons_self)) (.cons (.int _) (.cons (.int _) (.cons (.int _) (.cons (.str _) .nil))))) (ih fun x hx=>h x (List.mem_cons_of_mem _ hx))
 exact .lst (SqL.of h.1) (all rs h.2)
theorem z357 {R:List Q4}(h:∀ q∈R,PyData.strOk q.2.2.2=true):SeqAt.shaped (rowsQ R)=true:=by
 have h1:∀ R:List Q4,(∀ q∈R,PyData.strOk q.2.2.2=true)→PyData.canLayAll0 (R.map dataQ)=true∧PyData.depthAll (R.map dataQ)≤1:=fun R h=>by
  induction R with
  | nil=>exact⟨rfl,by simp [PyData.depthAll]⟩
  | cons q r ih=>
   obtain⟨a,b⟩:=ih fun x hx=>h x (List.mem_cons_of_mem _ hx)
   exact⟨by simp [dataQ,PyData.canLayAll0,PyData.canLay0,h q List.mem_cons_self,a],by simp only [List.map_cons,PyData.depthAll,dataQ,PyData.depth] at b ⊢;omega⟩
 obtain⟨a,b⟩:=h1 R h
 have e1:PyData.canLay0 (rowsQ R)=true:=by simp only [rowsQ,PyData.canLay0];exact a
 have e2:PyData.depth (rowsQ R)≤64:=by simp only [rowsQ,PyData.depth];omega
 unfold SeqAt.shaped
 rw [e1,decide_eq_true e2]
 rfl
theorem z353 {d:PyData}(h:SeqAt.shaped d=true):d.eqv d=true:=z356 _ (SeqAt.canLay_of_shaped h)
theorem z446 {es:List Ent}{R:List Q4}(h:z64 es R):∀ q∈R,PyData.strOk q.2.2.2=true:=fun q hq=>by
 obtain⟨e,_,f,_,_,_,_,F⟩:=(h.1 q).mp hq
 have:q.2.2.2=sAt∨q.2.2.2=z338:=by
  have h:=F.2.2.1
  unfold mtAt mw at h
  split at h
  ·exact .inl (Option.some.inj h).symm
  ·split at h
   ·exact .inr (Option.some.inj h).symm
   ·cases h
 rcases this with e | e <;> rw [e] <;> decide +kernel
theorem z627 {es:List Ent}{R:List Q4}(h:z64 es R) (nd:(es.map (·.k)).Nodup){e:Ent}(he:e∈es) (z:Int):(∃ q∈R,(e.k=q.2.1∧z=q.2.2.1)∨(e.k=q.2.2.1∧z=q.2.1))↔∃ f∈es,f.k=z∧z≠e.k∧Mt e.b e.c f.b f.c:=by
 constructor
 ·rintro⟨q,hq,⟨a1,a2⟩ | ⟨a1,a2⟩⟩ <;> obtain⟨e',he',f',hf',b1,b2,lt,F⟩:=(h.1 q).mp hq
  ·obtain rfl:e'=e:=z107 nd he he' (by rw [b1,a1])
   exact⟨f',hf',by rw [b2,a2],by omega,_,F⟩
  ·obtain rfl:f'=e:=z107 nd he hf' (by rw [b2,a1])
   exact⟨e',he',by rw [b1,a2],by omega,z561 ⟨_,F⟩⟩
 ·rintro⟨f,hf,rfl,n,⟨t,w⟩,F⟩
  by_cases lt:e.k < f.k
  ·exact⟨(t,e.k,f.k,w),(h.1 _).mpr ⟨e,he,f,hf,rfl,rfl,lt,F⟩,.inl ⟨rfl,rfl⟩⟩
  ·exact⟨(t,f.k,e.k,w),(h.1 _).mpr ⟨f,hf,e,he,rfl,rfl,by omega,F.comm⟩,.inr ⟨rfl,rfl⟩⟩
theorem z118 {l:List Q4}{i:Nat}{x:Q4}(h:l[i]?=some x) (a:Q4):a∈l.take (i + 1)↔a∈l.take i∨a=x:=by
 rw [List.take_succ,h,List.mem_append]
 simp
theorem z596 {bs:List Ent}{n b:Int}{c:List Int}{o:Option Int}{zs:List Int}{v:V}(PI:PutIs bs n b c o) (mz:∀ z,z∈zs↔∃ f∈bs,f.k=z∧z≠n∧Mt b c f.b f.c) (mv:MinN zs v):v=oV o:=by
 cases o with
 | none=>
  rcases mv with ⟨_,e⟩ | ⟨m,e,hm,_⟩
  ·exact e
  ·obtain⟨f,hf,rfl,n',M⟩:=(mz m).mp hm
   exact absurd M (PI f hf n')
 | some k=>
  obtain⟨kn,⟨f,hf,fk,M⟩,le⟩:=PI
  have hk:k∈zs:=(mz k).mpr ⟨f,hf,fk,kn,M⟩
  rcases mv with ⟨e0,_⟩ | ⟨m,e,hm,lm⟩
  ·rw [e0] at hk;cases hk
  ·obtain⟨g,hg,rfl,n',M'⟩:=(mz m).mp hm
   have h1:=lm k hk
   have h2:=le g hg n' M'
   rw [e,show g.k=k by omega]
   rfl
theorem z631 {bs es:List Ent}{e:Ent}(h:Sub bs es) (he:e∈es):Sub (putE bs e) es:=fun x hx=>by
 unfold putE at hx
 split at hx
 ·obtain⟨y,hy,rfl⟩:=List.mem_map.mp hx
  split
  ·exact he
  ·exact h y hy
 ·rcases List.mem_append.mp hx with z | z
  ·exact h x z
  ·rw [List.mem_singleton.mp z];exact he
theorem sub_len {bs es:List Ent}(h:Sub bs es) (nd:(bs.map (·.k)).Nodup):bs.length≤es.length:=by
 have:=len_sub (m:=es.map (·.k)) nd (fun x hx=>by
  obtain⟨e,he,rfl⟩:=List.mem_map.mp hx
  exact List.mem_map.mpr ⟨e,h e he,rfl⟩)
 simpa using this
theorem z360 {H:Hp}{bs es:List Ent}(en:Ents H es) (h:Sub bs es) (nd:(bs.map (·.k)).Nodup):Ents H bs:=⟨fun e he=>en.ok e (h e he),nd⟩
theorem z331 {d r:Addr}{H H':Hp}{rs:List (Addr × Q4)} (h:RowsAt H r rs) (s:SameB d H H') (n:d≠r) (nt:∀ xs,H d≠some (.tup xs)):RowsAt H' r rs:=⟨s _ _ h.1 n.symm,fun x hx=>s.tups nt _ _ (h.2 x hx)⟩
theorem z273 (b:Int) (c:List Int):SeqAt.shaped (.tuple [.int b,.tuple (c.map PyData.int)])=true:=by
 simp [SeqAt.shaped,PyData.canLay0,PyData.canLayAll0,PyData.depth,PyData.depthAll,z179,z230]
theorem khitsW {K:PySem.W.Frag}{H:Hp}{es:List Ent}(en:Ents H es):∀ ks:List Ent,(∀ e∈ks,e∈es)→KHits K H (dw es) (dw ks) true
 | [],_=>.nil
 | e::ks,h=>by
  have he:=h e List.mem_cons_self
  have d:=z452 (K:=K) (en.ok e he).1
  have:=KHits.hit (k:=.inl e.k) (v:=e.v) (z134 en.nd he) d d (z273 _ _) (z273 _ _) (khitsW en ks fun x hx=>h x (List.mem_cons_of_mem _ hx))
  rw [z353 (z273 _ _)] at this
  exact this
theorem z471:∀ (bs as:List Ent),((as++bs).map (·.k)).Nodup→mergeK (dw as) (dw bs)=dw (as++bs)
 | [],as,_=>by rw [List.append_nil];rfl
 | e::bs,as,nd=>by
  have h1:putK (dw as) (.inl e.k) e.v=dw (as++[e]):=by
   rw [dw_put as e]
   unfold putE
   rw [if_neg]
   intro h
   obtain⟨x,hx,z⟩:=List.any_eq_true.mp h
   rw [List.map_append] at nd
   exact(List.nodup_append.mp nd).2.2 x.k (List.mem_map.mpr ⟨x,hx,rfl⟩) e.k (by simp) (of_decide_eq_true z)
  show mergeK (putK (dw as) (.inl e.k) e.v) (dw bs)=_
  rw [h1,z471 bs (as++[e]) (by rw [List.append_assoc];exact nd),List.append_assoc]
  rfl
theorem z394 {ks:List Ent}(nd:(ks.map (·.k)).Nodup):mergeK [] (dw ks)=dw ks:=z471 ks [] nd
theorem z340 {H:Hp}:∀ {ts:List (Addr × Ent)},(∀ x∈ts,H x.1=some (.tup [.int x.2.k,x.2.v]))→Paired (fun t (kv:Key × V)=>H t=some (.tup [kV kv.1,kv.2])) (ts.map (·.1)) (dw (ts.map (·.2)))
 | [],_=>.nil
 | x::ts,h=>.cons (h x List.mem_cons_self) (z340 fun y hy=>h y (List.mem_cons_of_mem _ hy))
theorem dw_nil {es:List Ent}:(dw es).length=0↔es=[]:=by rw [dw_len];exact List.length_eq_zero_iff
seal PA PE PS PSs PI PG
section
variable {P:Program}{w:World}{K:PySem.W.Frag}{mg:Str→Option Value}{base:Heap}{ad:Ad}
theorem d_Book:(("Book":Str) == ("__debug__":Str))=false:=by decide +kernel
theorem z550:(("Meets":Str) == ("__debug__":Str))=false:=by decide +kernel
theorem z397:(("NoCarrier":Str) == ("__debug__":Str))=false:=by decide +kernel
theorem z325:(("_law_are":Str) == ("__debug__":Str))=false:=by decide +kernel
theorem z42:(("_law_book":Str) == ("__debug__":Str))=false:=by decide +kernel
theorem z38:(("_law_book":Str) == ("__classdict__":Str))=false:=by decide +kernel
theorem z37:(("_law_cell":Str) == ("__debug__":Str))=false:=by decide +kernel
theorem z41:(("_law_cell":Str) == ("__classdict__":Str))=false:=by decide +kernel
theorem z20:(("_law_cell_at":Str) == ("__debug__":Str))=false:=by decide +kernel
theorem z211:(("_law_cells":Str) == ("__debug__":Str))=false:=by decide +kernel
theorem z224:(("_law_cells":Str) == ("__classdict__":Str))=false:=by decide +kernel
theorem z229:(("_law_drawn_way":Str) == ("__debug__":Str))=false:=by decide +kernel
theorem z447:(("_law_due":Str) == ("__debug__":Str))=false:=by decide +kernel
theorem z12:(("_law_due_here":Str) == ("__debug__":Str))=false:=by decide +kernel
theorem z10:(("_law_due_here":Str) == ("__classdict__":Str))=false:=by decide +kernel
theorem z103:(("_law_end":Str) == ("__debug__":Str))=false:=by decide +kernel
theorem z110:(("_law_end":Str) == ("__classdict__":Str))=false:=by decide +kernel
theorem z15:(("_law_found":Str) == ("__debug__":Str))=false:=by decide +kernel
theorem z14:(("_law_found":Str) == ("__classdict__":Str))=false:=by decide +kernel
theorem z109:(("_law_handed":Str) == ("__debug__":Str))=false:=by decide +kernel
theorem z99:(("_law_handed":Str) == ("__classdict__":Str))=false:=by decide +kernel
theorem z261:(("_law_here":Str) == ("__debug__":Str))=false:=by decide +kernel
theorem z271:(("_law_here":Str) == ("__classdict__":Str))=false:=by decide +kernel
theorem z102:(("_law_k":Str) == ("__debug__":Str))=false:=by decide +kernel
theorem z98:(("_law_k":Str) == ("__classdict__":Str))=false:=by decide +kernel
theorem z29:(("_law_kept":Str) == ("__debug__":Str))=false:=by decide +kernel
theorem z30:(("_law_kept":Str) == ("__classdict__":Str))=false:=by decide +kernel
theorem z280:(("_law_left":Str) == ("__debug__":Str))=false:=by decide +kernel
theorem z281:(("_law_left":Str) == ("__classdict__":Str))=false:=by decide +kernel
theorem z413:(("_law_many":Str) == ("__debug__":Str))=false:=by decide +kernel
theorem z407:(("_law_many":Str) == ("__classdict__":Str))=false:=by decide +kernel
theorem z290:(("_law_meeting":Str) == ("__debug__":Str))=false:=by decide +kernel
theorem z306:(("_law_met":Str) == ("__debug__":Str))=false:=by decide +kernel
theorem z312:(("_law_met":Str) == ("__classdict__":Str))=false:=by decide +kernel
theorem z126:(("_law_mine":Str) == ("__debug__":Str))=false:=by decide +kernel
theorem z124:(("_law_mine":Str) == ("__classdict__":Str))=false:=by decide +kernel
theorem z222:(("_law_mixed":Str) == ("__debug__":Str))=false:=by decide +kernel
theorem z55:(("_law_most":Str) == ("__debug__":Str))=false:=by decide +kernel
theorem z54:(("_law_most":Str) == ("__classdict__":Str))=false:=by decide +kernel
theorem z234:(("_law_never":Str) == ("__debug__":Str))=false:=by decide +kernel
theorem z17:(("_law_number":Str) == ("__debug__":Str))=false:=by decide +kernel
theorem z18:(("_law_number":Str) == ("__classdict__":Str))=false:=by decide +kernel
theorem z74:(("_law_one":Str) == ("__debug__":Str))=false:=by decide +kernel
theorem z73:(("_law_one":Str) == ("__classdict__":Str))=false:=by decide +kernel
theorem z157:(("_law_order":Str) == ("__debug__":Str))=false:=by decide +kernel
theorem z155:(("_law_order":Str) == ("__classdict__":Str))=false:=by decide +kernel
theorem z43:(("_law_other":Str) == ("__debug__":Str))=false:=by decide +kernel
theorem z44:(("_law_other":Str) == ("__classdict__":Str))=false:=by decide +kernel
theorem z186:(("_law_pair":Str) == ("__debug__":Str))=false:=by decide +kernel
theorem z182:(("_law_pair":Str) == ("__classdict__":Str))=false:=by decide +kernel
theorem z193:(("_law_put_in":Str) == ("__debug__":Str))=false:=by decide +kernel
theorem z294:(("_law_refused":Str) == ("__debug__":Str))=false:=by decide +kernel
theorem z315:(("_law_row":Str) == ("__debug__":Str))=false:=by decide +kernel
theorem z308:(("_law_row":Str) == ("__classdict__":Str))=false:=by decide +kernel
theorem z181:(("_law_rows":Str) == ("__debug__":Str))=false:=by decide +kernel
theorem z108:(("_law_rows_here":Str) == ("__debug__":Str))=false:=by decide +kernel
theorem z111:(("_law_rows_here":Str) == ("__classdict__":Str))=false:=by decide +kernel
theorem z13:(("_law_script":Str) == ("__debug__":Str))=false:=by decide +kernel
theorem z9:(("_law_script":Str) == ("__classdict__":Str))=false:=by decide +kernel
theorem z399:(("_law_size":Str) == ("__debug__":Str))=false:=by decide +kernel
theorem z402:(("_law_size":Str) == ("__classdict__":Str))=false:=by decide +kernel
theorem z270:(("_law_spot":Str) == ("__debug__":Str))=false:=by decide +kernel
theorem z272:(("_law_spot":Str) == ("__classdict__":Str))=false:=by decide +kernel
theorem z336:(("_law_steps":Str) == ("__debug__":Str))=false:=by decide +kernel
theorem z335:(("_law_steps":Str) == ("__classdict__":Str))=false:=by decide +kernel
theorem z24:(("_law_time":Str) == ("__debug__":Str))=false:=by decide +kernel
theorem z23:(("_law_time":Str) == ("__classdict__":Str))=false:=by decide +kernel
theorem z226:(("_law_way":Str) == ("__debug__":Str))=false:=by decide +kernel
theorem z208:(("_law_way":Str) == ("__classdict__":Str))=false:=by decide +kernel
theorem v5:(("_law_ways":Str) == ("__debug__":Str))=false:=by decide +kernel
theorem z6:(("_law_ways":Str) == ("__classdict__":Str))=false:=by decide +kernel
theorem z289:(("_law_ways_by":Str) == ("__debug__":Str))=false:=by decide +kernel
theorem z358:(("_law_whole":Str) == ("__debug__":Str))=false:=by decide +kernel
theorem z82:(("_law_yours":Str) == ("__debug__":Str))=false:=by decide +kernel
theorem z85:(("_law_yours":Str) == ("__classdict__":Str))=false:=by decide +kernel
theorem d_all:(("all":Str) == ("__debug__":Str))=false:=by decide +kernel
theorem n_all:("all":Str)≠"__name__":=by decide +kernel
theorem z621:(("begin":Str) == ("__debug__":Str))=false:=by decide +kernel
theorem z614:(("begin":Str) == ("__classdict__":Str))=false:=by decide +kernel
theorem d_bool:(("bool":Str) == ("__debug__":Str))=false:=by decide +kernel
theorem n_bool:("bool":Str)≠"__name__":=by decide +kernel
theorem d_dict:(("dict":Str) == ("__debug__":Str))=false:=by decide +kernel
theorem n_dict:("dict":Str)≠"__name__":=by decide +kernel
theorem d_end:(("end":Str) == ("__debug__":Str))=false:=by decide +kernel
theorem e_end:(("end":Str) == ("__classdict__":Str))=false:=by decide +kernel
theorem z629:(("error":Str) == ("__debug__":Str))=false:=by decide +kernel
theorem z640:(("error":Str) == ("__classdict__":Str))=false:=by decide +kernel
theorem d_far:(("far":Str) == ("__debug__":Str))=false:=by decide +kernel
theorem e_far:(("far":Str) == ("__classdict__":Str))=false:=by decide +kernel
theorem d_q1:(("first_meeting":Str) == ("__debug__":Str))=false:=by decide +kernel
theorem z569:(("found":Str) == ("__debug__":Str))=false:=by decide +kernel
theorem z552:(("found":Str) == ("__classdict__":Str))=false:=by decide +kernel
theorem z620:(("index":Str) == ("__debug__":Str))=false:=by decide +kernel
theorem z648:(("index":Str) == ("__classdict__":Str))=false:=by decide +kernel
theorem d_q10:(("index_at":Str) == ("__debug__":Str))=false:=by decide +kernel
theorem d_int:(("int":Str) == ("__debug__":Str))=false:=by decide +kernel
theorem n_int:("int":Str)≠"__name__":=by decide +kernel
theorem d_q9:(("is_whole":Str) == ("__debug__":Str))=false:=by decide +kernel
theorem z36:(("isinstance":Str) == ("__debug__":Str))=false:=by decide +kernel
theorem z39:("isinstance":Str)≠"__name__":=by decide +kernel
theorem d_q6:(("last_time":Str) == ("__debug__":Str))=false:=by decide +kernel
theorem d_len:(("len":Str) == ("__debug__":Str))=false:=by decide +kernel
theorem n_len:("len":Str)≠"__name__":=by decide +kernel
theorem d_list:(("list":Str) == ("__debug__":Str))=false:=by decide +kernel
theorem n_list:("list":Str)≠"__name__":=by decide +kernel
theorem d_max:(("max":Str) == ("__debug__":Str))=false:=by decide +kernel
theorem n_max:("max":Str)≠"__name__":=by decide +kernel
theorem z298:(("meeting":Str) == ("__debug__":Str))=false:=by decide +kernel
theorem z295:(("meeting":Str) == ("__classdict__":Str))=false:=by decide +kernel
theorem d_q2:(("meeting_word":Str) == ("__debug__":Str))=false:=by decide +kernel
theorem d_q12:(("meetings":Str) == ("__debug__":Str))=false:=by decide +kernel
theorem d_min:(("min":Str) == ("__debug__":Str))=false:=by decide +kernel
theorem n_min:("min":Str)≠"__name__":=by decide +kernel
theorem z115:(("number":Str) == ("__debug__":Str))=false:=by decide +kernel
theorem z117:(("number":Str) == ("__classdict__":Str))=false:=by decide +kernel
theorem z391:(("numbers":Str) == ("__debug__":Str))=false:=by decide +kernel
theorem z375:(("numbers":Str) == ("__classdict__":Str))=false:=by decide +kernel
theorem d_one:(("one":Str) == ("__debug__":Str))=false:=by decide +kernel
theorem e_one:(("one":Str) == ("__classdict__":Str))=false:=by decide +kernel
theorem z112:(("other":Str) == ("__debug__":Str))=false:=by decide +kernel
theorem z122:(("other":Str) == ("__classdict__":Str))=false:=by decide +kernel
theorem z567:(("place":Str) == ("__debug__":Str))=false:=by decide +kernel
theorem z568:(("place":Str) == ("__classdict__":Str))=false:=by decide +kernel
theorem d_q11:(("place_at":Str) == ("__debug__":Str))=false:=by decide +kernel
theorem d_self:(("self":Str) == ("__debug__":Str))=false:=by decide +kernel
theorem e_self:(("self":Str) == ("__classdict__":Str))=false:=by decide +kernel
theorem z184:(("sorted":Str) == ("__debug__":Str))=false:=by decide +kernel
theorem z176:("sorted":Str)≠"__name__":=by decide +kernel
theorem z558:(("thing":Str) == ("__debug__":Str))=false:=by decide +kernel
theorem z562:(("thing":Str) == ("__classdict__":Str))=false:=by decide +kernel
theorem d_time:(("time":Str) == ("__debug__":Str))=false:=by decide +kernel
theorem e_time:(("time":Str) == ("__classdict__":Str))=false:=by decide +kernel
theorem z566:(("tuple":Str) == ("__debug__":Str))=false:=by decide +kernel
theorem z544:("tuple":Str)≠"__name__":=by decide +kernel
theorem d_way:(("way":Str) == ("__debug__":Str))=false:=by decide +kernel
theorem e_way:(("way":Str) == ("__classdict__":Str))=false:=by decide +kernel
theorem d_ways:(("ways":Str) == ("__debug__":Str))=false:=by decide +kernel
theorem e_ways:(("ways":Str) == ("__classdict__":Str))=false:=by decide +kernel
theorem d_word:(("word":Str) == ("__debug__":Str))=false:=by decide +kernel
theorem e_word:(("word":Str) == ("__classdict__":Str))=false:=by decide +kernel
theorem z475:(defScope s_q9).names.lookup ("thing":Str)=some .local:=by decide +kernel
theorem z334:Vis (defScope s_q9) "thing":=Or.inl z475
theorem z572:(defScope s_q6).names.lookup ("way":Str)=some .local:=by decide +kernel
theorem z473:Vis (defScope s_q6) "way":=Or.inl z572
theorem z511:(defScope s_q10).names.lookup ("way":Str)=some .local:=by decide +kernel
theorem z385:Vis (defScope s_q10) "way":=Or.inl z511
theorem z451:(defScope s_q10).names.lookup ("time":Str)=some .local:=by decide +kernel
theorem z423:Vis (defScope s_q10) "time":=Or.inl z451
theorem z539:(defScope s_q11).names.lookup ("way":Str)=some .local:=by decide +kernel
theorem z287:Vis (defScope s_q11) "way":=Or.inl z539
theorem z476:(defScope s_q11).names.lookup ("time":Str)=some .local:=by decide +kernel
theorem z305:Vis (defScope s_q11) "time":=Or.inl z476
theorem z583:(defScope s_q2).names.lookup ("one":Str)=some .local:=by decide +kernel
theorem z486:Vis (defScope s_q2) "one":=Or.inl z583
theorem z439:(defScope s_q2).names.lookup ("other":Str)=some .local:=by decide +kernel
theorem z319:Vis (defScope s_q2) "other":=Or.inl z439
theorem z506:(defScope s_q2).names.lookup ("time":Str)=some .local:=by decide +kernel
theorem z205:Vis (defScope s_q2) "time":=Or.inl z506
theorem z309:(defScope s_q2).names.lookup ("place":Str)=some .local:=by decide +kernel
theorem z327:Vis (defScope s_q2) "place":=Or.inl z309
theorem z456:(defScope s_q2).names.lookup ("far":Str)=some .local:=by decide +kernel
theorem z429:Vis (defScope s_q2) "far":=Or.inl z456
theorem z575:(defScope s_q1).names.lookup ("one":Str)=some .local:=by decide +kernel
theorem z344:Vis (defScope s_q1) "one":=Or.inl z575
theorem z417:(defScope s_q1).names.lookup ("other":Str)=some .local:=by decide +kernel
theorem z243:Vis (defScope s_q1) "other":=Or.inl z417
theorem z332:(defScope s_q1).names.lookup ("begin":Str)=some .local:=by decide +kernel
theorem z457:Vis (defScope s_q1) "begin":=Or.inl z332
theorem z453:(defScope s_q1).names.lookup ("end":Str)=some .local:=by decide +kernel
theorem z601:Vis (defScope s_q1) "end":=Or.inl z453
theorem z390:(defScope s_q1).names.lookup ("time":Str)=some .local:=by decide +kernel
theorem z368:Vis (defScope s_q1) "time":=Or.inl z390
theorem z386:(defScope s_q1).names.lookup ("word":Str)=some .local:=by decide +kernel
theorem z370:Vis (defScope s_q1) "word":=Or.inl z386
theorem z449:(defScope s_q12).names.lookup ("ways":Str)=some .local:=by decide +kernel
theorem z242:Vis (defScope s_q12) "ways":=Or.inl z449
theorem z279:(defScope s_q12).names.lookup ("found":Str)=some .local:=by decide +kernel
theorem z262:Vis (defScope s_q12) "found":=Or.inl z279
theorem z194:(defScope s_q12).names.lookup ("numbers":Str)=some .local:=by decide +kernel
theorem z195:Vis (defScope s_q12) "numbers":=Or.inl z194
theorem z282:(defScope s_q12).names.lookup ("index":Str)=some .local:=by decide +kernel
theorem z404:Vis (defScope s_q12) "index":=Or.inl z282
theorem z382:(defScope s_q12).names.lookup ("one":Str)=some .local:=by decide +kernel
theorem z373:Vis (defScope s_q12) "one":=Or.inl z382
theorem z265:(defScope s_q12).names.lookup ("other":Str)=some .local:=by decide +kernel
theorem z277:Vis (defScope s_q12) "other":=Or.inl z265
theorem z192:(defScope s_q12).names.lookup ("meeting":Str)=some .local:=by decide +kernel
theorem z116:Vis (defScope s_q12) "meeting":=Or.inl z192
theorem z499:(defScope s_q4).names.lookup ("self":Str)=some .local:=by decide +kernel
theorem z525:Vis (defScope s_q4) "self":=Or.inl z499
theorem z426:(defScope s_q4).names.lookup ("other":Str)=some .local:=by decide +kernel
theorem z470:Vis (defScope s_q4) "other":=Or.inl z426
theorem z526:(defScope s_q7).names.lookup ("self":Str)=some .local:=by decide +kernel
theorem z524:Vis (defScope s_q7) "self":=Or.inl z526
theorem z510:(defScope s_q0).names.lookup ("self":Str)=some .local:=by decide +kernel
theorem z533:Vis (defScope s_q0) "self":=Or.inl z510
theorem z408:(defScope s_q0).names.lookup ("number":Str)=some .local:=by decide +kernel
theorem z269:Vis (defScope s_q0) "number":=Or.inl z408
theorem z494:(defScope s_q3).names.lookup ("self":Str)=some .local:=by decide +kernel
theorem z542:Vis (defScope s_q3) "self":=Or.inl z494
theorem z443:(defScope s_q13).names.lookup ("self":Str)=some .local:=by decide +kernel
theorem z233:Vis (defScope s_q13) "self":=Or.inl z443
theorem z343:(defScope s_q13).names.lookup ("number":Str)=some .local:=by decide +kernel
theorem z235:Vis (defScope s_q13) "number":=Or.inl z343
theorem z536:(defScope s_q13).names.lookup ("way":Str)=some .local:=by decide +kernel
theorem z381:Vis (defScope s_q13) "way":=Or.inl z536
theorem z276:(defScope s_q13).names.lookup ("other":Str)=some .local:=by decide +kernel
theorem z174:Vis (defScope s_q13) "other":=Or.inl z276
theorem z518:(defScope s_q8).names.lookup ("self":Str)=some .local:=by decide +kernel
theorem z366:Vis (defScope s_q8) "self":=Or.inl z518
theorem z415:(defScope s_q8).names.lookup ("number":Str)=some .local:=by decide +kernel
theorem z278:Vis (defScope s_q8) "number":=Or.inl z415
theorem z450:(defScope s_q14).names.lookup ("self":Str)=some .local:=by decide +kernel
theorem z321:Vis (defScope s_q14) "self":=Or.inl z450
theorem z341:(defScope s_q14).names.lookup ("number":Str)=some .local:=by decide +kernel
theorem z212:Vis (defScope s_q14) "number":=Or.inl z341
theorem z198:(defScope s_q15).names.lookup ("_law_script":Str)=some .local:=by decide +kernel
theorem z89:Vis (defScope s_q15) "_law_script":=Or.inl z198
theorem z359:(defScope s_q15).names.lookup ("_law_k":Str)=some .local:=by decide +kernel
theorem z210:Vis (defScope s_q15) "_law_k":=Or.inl z359
theorem z250:(defScope s_q20).names.lookup ("_law_cell":Str)=some .local:=by decide +kernel
theorem z247:Vis (defScope s_q20) "_law_cell":=Or.inl z250
theorem z361:(defScope s_q20).names.lookup ("_law_k":Str)=some .local:=by decide +kernel
theorem z354:Vis (defScope s_q20) "_law_k":=Or.inl z361
theorem z91:(defScope s_q20).names.lookup ("_law_number":Str)=some .local:=by decide +kernel
theorem z93:Vis (defScope s_q20) "_law_number":=Or.inl z91
theorem z223:(defScope s_q21).names.lookup ("_law_found":Str)=some .local:=by decide +kernel
theorem z123:Vis (defScope s_q21) "_law_found":=Or.inl z223
theorem z241:(defScope z67).names.lookup ("_law_way":Str)=some .local:=by decide +kernel
theorem z121:Vis (defScope z67) "_law_way":=Or.inl z241
theorem z231:(defScope z67).names.lookup ("_law_end":Str)=some .local:=by decide +kernel
theorem z215:Vis (defScope z67) "_law_end":=Or.inl z231
theorem z75:(defScope z67).names.lookup ("_law_found":Str)=some .local:=by decide +kernel
theorem z26:Vis (defScope z67) "_law_found":=Or.inl z75
theorem z283:(defScope s_q16).names.lookup ("_law_one":Str)=some .local:=by decide +kernel
theorem z78:Vis (defScope s_q16) "_law_one":=Or.inl z283
theorem z238:(defScope s_q16).names.lookup ("_law_other":Str)=some .local:=by decide +kernel
theorem z60:Vis (defScope s_q16) "_law_other":=Or.inl z238
theorem z172:(defScope s_q16).names.lookup ("_law_end":Str)=some .local:=by decide +kernel
theorem z79:Vis (defScope s_q16) "_law_end":=Or.inl z172
theorem z147:(defScope s_q16).names.lookup ("_law_mine":Str)=some .local:=by decide +kernel
theorem z45:Vis (defScope s_q16) "_law_mine":=Or.inl z147
theorem z105:(defScope s_q16).names.lookup ("_law_yours":Str)=some .local:=by decide +kernel
theorem z34:Vis (defScope s_q16) "_law_yours":=Or.inl z105
theorem z145:(defScope s_q16).names.lookup ("_law_time":Str)=some .local:=by decide +kernel
theorem v2:Vis (defScope s_q16) "_law_time":=Or.inl z145
theorem z286:(defScope s_q5).names.lookup ("_law_cell":Str)=some .local:=by decide +kernel
theorem z53:Vis (defScope s_q5) "_law_cell":=Or.inl z286
theorem z293:(defScope s_q5).names.lookup ("_law_most":Str)=some .local:=by decide +kernel
theorem z33:Vis (defScope s_q5) "_law_most":=Or.inl z293
theorem z167:(defScope s_q5).names.lookup ("_law_size":Str)=some .local:=by decide +kernel
theorem z288:Vis (defScope s_q5) "_law_size":=Or.inl z167
theorem z52:(defScope s_q5).names.lookup ("_law_spot":Str)=some .local:=by decide +kernel
theorem z173:Vis (defScope s_q5) "_law_spot":=Or.inl z52
theorem z138:(defScope s_q5).names.lookup ("_law_cells":Str)=some .local:=by decide +kernel
theorem z150:Vis (defScope s_q5) "_law_cells":=Or.inl z138
theorem z266:(defScope s_q5).names.lookup ("_law_k":Str)=some .local:=by decide +kernel
theorem z403:Vis (defScope s_q5) "_law_k":=Or.inl z266
theorem z120:(defScope s_q5).names.lookup ("_law_number":Str)=some .local:=by decide +kernel
theorem z35:Vis (defScope s_q5) "_law_number":=Or.inl z120
theorem z197:(defScope s_q17).names.lookup ("_law_script":Str)=some .local:=by decide +kernel
theorem z21:Vis (defScope s_q17) "_law_script":=Or.inl z197
theorem z70:(defScope s_q17).names.lookup ("_law_many":Str)=some .local:=by decide +kernel
theorem z256:Vis (defScope s_q17) "_law_many":=Or.inl z70
theorem z148:(defScope s_q17).names.lookup ("_law_most":Str)=some .local:=by decide +kernel
theorem z252:Vis (defScope s_q17) "_law_most":=Or.inl z148
theorem z140:(defScope s_q17).names.lookup ("_law_ways":Str)=some .local:=by decide +kernel
theorem z136:Vis (defScope s_q17) "_law_ways":=Or.inl z140
theorem z237:(defScope s_q17).names.lookup ("_law_k":Str)=some .local:=by decide +kernel
theorem z84:Vis (defScope s_q17) "_law_k":=Or.inl z237
theorem z139:(defScope s_q17).names.lookup ("_law_cell":Str)=some .local:=by decide +kernel
theorem z142:Vis (defScope s_q17) "_law_cell":=Or.inl z139
theorem z219:(defScope s_Ldue).names.lookup ("_law_ways":Str)=some .local:=by decide +kernel
theorem z31:Vis (defScope s_Ldue) "_law_ways":=Or.inl z219
theorem z57:(defScope s_Ldue).names.lookup ("_law_due_here":Str)=some .local:=by decide +kernel
theorem z61:Vis (defScope s_Ldue) "_law_due_here":=Or.inl z57
theorem z153:(defScope s_Ldue).names.lookup ("_law_one":Str)=some .local:=by decide +kernel
theorem z71:Vis (defScope s_Ldue) "_law_one":=Or.inl z153
theorem z94:(defScope s_Ldue).names.lookup ("_law_other":Str)=some .local:=by decide +kernel
theorem z46:Vis (defScope s_Ldue) "_law_other":=Or.inl z94
theorem z63:(defScope s_Ldue).names.lookup ("_law_pair":Str)=some .local:=by decide +kernel
theorem z62:Vis (defScope s_Ldue) "_law_pair":=Or.inl z63
theorem z196:(defScope s_Lare).names.lookup ("_law_found":Str)=some .local:=by decide +kernel
theorem z49:Vis (defScope s_Lare) "_law_found":=Or.inl z196
theorem z156:(defScope s_Lare).names.lookup ("_law_due_here":Str)=some .local:=by decide +kernel
theorem z158:Vis (defScope s_Lare) "_law_due_here":=Or.inl z156
theorem z129:(defScope s_Lare).names.lookup ("_law_row":Str)=some .local:=by decide +kernel
theorem z137:Vis (defScope s_Lare) "_law_row":=Or.inl z129
theorem z255:(defScope s_q22).names.lookup ("_law_ways":Str)=some .local:=by decide +kernel
theorem z130:Vis (defScope s_q22) "_law_ways":=Or.inl z255
theorem z160:(defScope s_q22).names.lookup ("_law_end":Str)=some .cell:=by decide +kernel
theorem z302:Vis (defScope s_q22) "_law_end":=Or.inr (Or.inl z160)
theorem z59:(defScope s_q22).names.lookup ("_law_rows_here":Str)=some .local:=by decide +kernel
theorem z58:Vis (defScope s_q22) "_law_rows_here":=Or.inl z59
theorem z251:(defScope s_q22).names.lookup ("_law_time":Str)=some .cell:=by decide +kernel
theorem z135:(defScope s_q22).names.lookup ("_law_here":Str)=some .local:=by decide +kernel
theorem z131:Vis (defScope s_q22) "_law_here":=Or.inl z135
theorem z97:(defScope s_q22).names.lookup ("_law_steps":Str)=some .cell:=by decide +kernel
theorem z244:Vis (defScope s_q22) "_law_steps":=Or.inr (Or.inl z97)
theorem z259:(defScope s_q18).names.lookup ("_law_book":Str)=some .local:=by decide +kernel
theorem z254:Vis (defScope s_q18) "_law_book":=Or.inl z259
theorem z202:(defScope s_q18).names.lookup ("_law_number":Str)=some .local:=by decide +kernel
theorem z199:Vis (defScope s_q18) "_law_number":=Or.inl z202
theorem z285:(defScope s_q18).names.lookup ("_law_way":Str)=some .local:=by decide +kernel
theorem z299:Vis (defScope s_q18) "_law_way":=Or.inl z285
theorem z260:(defScope s_q18).names.lookup ("error":Str)=some .local:=by decide +kernel
theorem z411:Vis (defScope s_q18) "error":=Or.inl z260
theorem z246:(defScope s_q19).names.lookup ("_law_book":Str)=some .cell:=by decide +kernel
theorem z249:Vis (defScope s_q19) "_law_book":=Or.inr (Or.inl z246)
theorem z248:(defScope s_q19).names.lookup ("_law_ways":Str)=some .local:=by decide +kernel
theorem z245:Vis (defScope s_q19) "_law_ways":=Or.inl z248
theorem z225:(defScope s_q19).names.lookup ("_law_order":Str)=some .local:=by decide +kernel
theorem z239:Vis (defScope s_q19) "_law_order":=Or.inl z225
theorem z171:(defScope s_q19).names.lookup ("_law_due_here":Str)=some .local:=by decide +kernel
theorem z164:Vis (defScope s_q19) "_law_due_here":=Or.inl z171
theorem z87:(defScope s_q19).names.lookup ("_law_number":Str)=some .cell:=by decide +kernel
theorem z88:Vis (defScope s_q19) "_law_number":=Or.inr (Or.inl z87)
theorem z77:(defScope s_q19).names.lookup ("_law_met":Str)=some .local:=by decide +kernel
theorem z165:Vis (defScope s_q19) "_law_met":=Or.inl z77
theorem z201:(defScope s_law).names.lookup ("_law_script":Str)=some .local:=by decide +kernel
theorem z47:Vis (defScope s_law) "_law_script":=Or.inl z201
theorem z152:(defScope s_law).names.lookup ("_law_ways":Str)=some .cell:=by decide +kernel
theorem z22:Vis (defScope s_law) "_law_ways":=Or.inr (Or.inl z152)
theorem z65:(defScope s_law).names.lookup ("_law_due_here":Str)=some .local:=by decide +kernel
theorem z25:Vis (defScope s_law) "_law_due_here":=Or.inl z65
theorem z95:(defScope s_law).names.lookup ("_law_handed":Str)=some .local:=by decide +kernel
theorem z48:Vis (defScope s_law) "_law_handed":=Or.inl z95
theorem z104:(defScope s_law).names.lookup ("_law_found":Str)=some .local:=by decide +kernel
theorem z106:Vis (defScope s_law) "_law_found":=Or.inl z104
theorem z133:(defScope s_law).names.lookup ("_law_book":Str)=some .cell:=by decide +kernel
theorem z28:Vis (defScope s_law) "_law_book":=Or.inr (Or.inl z133)
theorem z96:(defScope s_law).names.lookup ("_law_order":Str)=some .local:=by decide +kernel
theorem z119:Vis (defScope s_law) "_law_order":=Or.inl z96
theorem z69:(defScope s_law).names.lookup ("_law_kept":Str)=some .cell:=by decide +kernel
theorem z11:Vis (defScope s_law) "_law_kept":=Or.inr (Or.inl z69)
theorem z151:(defScope s_law).names.lookup ("_law_left":Str)=some .local:=by decide +kernel
theorem z141:Vis (defScope s_law) "_law_left":=Or.inl z151
theorem z296:(defScope s_q0).names.lookup ("NoCarrier":Str)=some .globalImplicit:=by decide +kernel
theorem z654:(defScope s_q0).names.lookup ("is_whole":Str)=some .globalImplicit:=by decide +kernel
theorem z409:(defScope s_q3).names.lookup ("sorted":Str)=some .globalImplicit:=by decide +kernel
theorem z405:(defScope s_q13).names.lookup ("Meets":Str)=some .globalImplicit:=by decide +kernel
theorem z582:(defScope s_q13).names.lookup ("first_meeting":Str)=some .globalImplicit:=by decide +kernel
theorem z440:(defScope s_Lare).names.lookup ("all":Str)=some .globalImplicit:=by decide +kernel
theorem z86:(defScope s_Lare).names.lookup ("isinstance":Str)=some .globalImplicit:=by decide +kernel
theorem z416:(defScope s_Lare).names.lookup ("list":Str)=some .globalImplicit:=by decide +kernel
theorem z351:(defScope s_Lare).names.lookup ("tuple":Str)=some .globalImplicit:=by decide +kernel
theorem z497:(defScope s_q15).names.lookup ("len":Str)=some .globalImplicit:=by decide +kernel
theorem z258:(defScope s_q5).names.lookup ("_law_mixed":Str)=some .globalImplicit:=by decide +kernel
theorem z483:(defScope s_q5).names.lookup ("range":Str)=some .globalImplicit:=by decide +kernel
theorem z467:(defScope s_q5).names.lookup ("tuple":Str)=some .globalImplicit:=by decide +kernel
theorem z168:(defScope s_Ldue).names.lookup ("_law_meeting":Str)=some .globalImplicit:=by decide +kernel
theorem z326:(defScope s_Ldue).names.lookup ("sorted":Str)=some .globalImplicit:=by decide +kernel
theorem z144:(defScope s_q16).names.lookup ("_law_rows":Str)=some .globalImplicit:=by decide +kernel
theorem z365:(defScope s_q16).names.lookup ("len":Str)=some .globalImplicit:=by decide +kernel
theorem z520:(defScope s_q16).names.lookup ("max":Str)=some .globalImplicit:=by decide +kernel
theorem z398:(defScope s_q16).names.lookup ("range":Str)=some .globalImplicit:=by decide +kernel
theorem z383:(defScope s_q22).names.lookup ("len":Str)=some .globalImplicit:=by decide +kernel
theorem z505:(defScope s_q22).names.lookup ("max":Str)=some .globalImplicit:=by decide +kernel
theorem z400:(defScope s_q22).names.lookup ("range":Str)=some .globalImplicit:=by decide +kernel
theorem z501:(defScope s_q22).names.lookup ("set":Str)=some .globalImplicit:=by decide +kernel
theorem z180:(defScope s_q19).names.lookup ("_law_refused":Str)=some .globalImplicit:=by decide +kernel
theorem z516:(defScope s_q19).names.lookup ("min":Str)=some .globalImplicit:=by decide +kernel
theorem z401:(defScope s_q18).names.lookup ("Meets":Str)=some .globalImplicit:=by decide +kernel
theorem z414:(defScope z67).names.lookup ("len":Str)=some .globalImplicit:=by decide +kernel
theorem z349:(defScope z67).names.lookup ("list":Str)=some .globalImplicit:=by decide +kernel
theorem z19:(defScope s_q17).names.lookup ("_law_cell_at":Str)=some .globalImplicit:=by decide +kernel
theorem z154:(defScope s_q17).names.lookup ("_law_drawn_way":Str)=some .globalImplicit:=by decide +kernel
theorem z221:(defScope s_q17).names.lookup ("_law_mixed":Str)=some .globalImplicit:=by decide +kernel
theorem z410:(defScope s_q17).names.lookup ("range":Str)=some .globalImplicit:=by decide +kernel
theorem z461:(defScope s_q21).names.lookup ("bool":Str)=some .globalImplicit:=by decide +kernel
theorem z514:(defScope s_q21).names.lookup ("int":Str)=some .globalImplicit:=by decide +kernel
theorem z101:(defScope s_q21).names.lookup ("isinstance":Str)=some .globalImplicit:=by decide +kernel
theorem z555:(defScope s_q1).names.lookup ("last_time":Str)=some .globalImplicit:=by decide +kernel
theorem z472:(defScope s_q1).names.lookup ("max":Str)=some .globalImplicit:=by decide +kernel
theorem z638:(defScope s_q1).names.lookup ("meeting_word":Str)=some .globalImplicit:=by decide +kernel
theorem z445:(defScope s_q1).names.lookup ("range":Str)=some .globalImplicit:=by decide +kernel
theorem z538:(defScope s_q10).names.lookup ("len":Str)=some .globalImplicit:=by decide +kernel
theorem z522:(defScope s_q10).names.lookup ("min":Str)=some .globalImplicit:=by decide +kernel
theorem z509:(defScope s_q9).names.lookup ("bool":Str)=some .globalImplicit:=by decide +kernel
theorem z608:(defScope s_q9).names.lookup ("int":Str)=some .globalImplicit:=by decide +kernel
theorem z143:(defScope s_q9).names.lookup ("isinstance":Str)=some .globalImplicit:=by decide +kernel
theorem z606:(defScope s_q6).names.lookup ("len":Str)=some .globalImplicit:=by decide +kernel
theorem z432:(defScope s_law).names.lookup ("Book":Str)=some .globalImplicit:=by decide +kernel
theorem z159:(defScope s_law).names.lookup ("_law_are":Str)=some .globalImplicit:=by decide +kernel
theorem z76:(defScope s_law).names.lookup ("_law_cell_at":Str)=some .globalImplicit:=by decide +kernel
theorem z291:(defScope s_law).names.lookup ("_law_due":Str)=some .globalImplicit:=by decide +kernel
theorem z113:(defScope s_law).names.lookup ("_law_never":Str)=some .globalImplicit:=by decide +kernel
theorem z90:(defScope s_law).names.lookup ("_law_put_in":Str)=some .globalImplicit:=by decide +kernel
theorem z188:(defScope s_law).names.lookup ("_law_ways_by":Str)=some .globalImplicit:=by decide +kernel
theorem z209:(defScope s_law).names.lookup ("dict":Str)=some .globalImplicit:=by decide +kernel
theorem z543:(defScope s_law).names.lookup ("len":Str)=some .globalImplicit:=by decide +kernel
theorem z206:(defScope s_law).names.lookup ("meetings":Str)=some .globalImplicit:=by decide +kernel
theorem z217:(defScope s_law).names.lookup ("sorted":Str)=some .globalImplicit:=by decide +kernel
theorem z300:(defScope s_q2).names.lookup ("place_at":Str)=some .globalImplicit:=by decide +kernel
theorem z253:(defScope s_q12).names.lookup ("enumerate":Str)=some .globalImplicit:=by decide +kernel
theorem z573:(defScope s_q12).names.lookup ("first_meeting":Str)=some .globalImplicit:=by decide +kernel
theorem z218:(defScope s_q12).names.lookup ("sorted":Str)=some .globalImplicit:=by decide +kernel
theorem z496:(defScope s_q11).names.lookup ("index_at":Str)=some .globalImplicit:=by decide +kernel
theorem sc_q9:FnScope ["thing"] ["thing"] (defScope s_q9):=⟨rfl,rfl,rfl,by decide +kernel,rfl,by decide +kernel,by decide +kernel⟩
set_option maxHeartbeats 4000000 in
local macro_rules | `(tactic| walk_at "RD")=>`(tactic| simp only [z545,iRng1,iRng2,gTup,gCons,gNil,rCat,rRep,cxKm,cxKs,cxKt,tTryAs,z378,tDNotIn,tDNewK,sDPut,tDGet,tDPop1,tXGetO,tXGet,z418,sXFld,tStepL,iVals,tMaxD,tThawK,tThawE,iDictK,Ends.thawK,iEnumL,tMinD,z464,rInD,tSeq,tMethX,tRaise,noW,tAsg,tOp,tUn,tVar,tC,rI0,rI,rU,tTest,tIfS,tNext,tRet,tDrop,gName,tCB,tCons,tNil,tAndV,tNotV,tAnd,tOr,tNot,tB,tCall,tBM,tLst,tTup,tNoPart,tPart,tSl,tCont,rSlA,rSlL,rIn,rIxL,rIxT,rEq,rNe,scal,rAppend,tFld,sFld,tMeth,tMake,tDNewK,tComp,sComp,capσ,iList,iTup,rEqD,cxK,cxA,cxKc,cxAc,L2.start,List.map_cons,List.map_nil,List.length_cons,List.length_nil,List.replicate_succ,List.replicate_zero,List.cons_append,List.nil_append,List.append_nil,Nat.reduceAdd,Nat.reduceSub,List.set_cons_zero,List.set_cons_succ,List.getElem?_cons_zero,List.getElem?_cons_succ,Option.getD_some,Option.getD_none,Option.some.injEq,V.int.injEq,V.ref.injEq,V.bl.injEq,V.str.injEq,V.ty.injEq,exists_eq_left',exists_eq_left,exists_and_left,and_assoc,List.cons.injEq,and_true,true_and,decide_eq_true_eq,Bool.not_eq_true',decide_eq_false_iff_not,Bool.false_eq_true,if_false,if_true,reduceIte,Bool.not_true,Bool.not_false,beq_self_eq_true])
theorem ok_q9 {fd:FuncData}(F:Fun K "is_whole" "is_whole" s_q9 ad.q9 fd) (T:Txt K mg ad):FnOk P w K mg base CX0 1 ad.q9 fd ["thing"] (z268 K):=by
 refine F.ok sc_q9 (fun vs H Q E h=>?_) (fun cdv A outer s H vs Q E HR h=>?_)
 ·obtain⟨x,rfl,_⟩:=h
  rfl
 ·obtain⟨x,rfl,ty,hq⟩:=h
  have ND:=sc_q9.nd
  have HU0:=HR.units0
  have HU:=HR.units
  have hA:=HR.hd
  have hz:(100000:Nat)≤sizeLine:=by rw [sizeLine_eq];decide
  refine⟨_,(pss_one (ps_ret (pe_and (pe_callB z56 (gl_of z143) T.b_isinstance PyProof.Rows.Boot.«isinstance» (pa_cons (pe_var (i:=0) (x:="thing") rfl (vis_of z334) z558 z562) (pa_cons (pe_bltn (v:=.ty "int") (gl_of z608) T.b_int PyProof.Rows.Boot.«int» rfl (hn:=n_int) (hd:=d_int)) pa_nil (stp rfl)) (stp rfl)) (hn:=z39) (hdb:=z36) (he:=stp rfl) (hpl:=anp rfl)) (pe_one (pe_not (pe_callB z56 (gl_of z143) T.b_isinstance PyProof.Rows.Boot.«isinstance» (pa_cons (pe_var (i:=0) (x:="thing") rfl (vis_of z334) z558 z562) (pa_cons (pe_bltn (v:=.ty "bool") (gl_of z509) T.b_bool PyProof.Rows.Boot.«bool» rfl (hn:=n_bool) (hd:=d_bool)) pa_nil (stp rfl)) (stp rfl)) (hn:=z39) (hdb:=z36) (he:=stp rfl) (hpl:=anp rfl))))))),?_⟩
  obtain⟨n,ty⟩:=ty
  have e1:=z554 ty
  have e2:=z480 ty
  walk_at "RD"
  refine⟨_,ty,_,e1,?_⟩
  cases hb:isIB x with
  | true=>
   rw [if_pos rfl]
   refine⟨_,ty,_,e2,?_⟩
   cases x <;> simp_all [isI,isB,isIB]
  | false=>
   rw [if_neg (by decide)]
   cases x <;> simp_all [isI,isB,isIB]
theorem sc_q6:FnScope ["way"] ["way"] (defScope s_q6):=⟨rfl,rfl,rfl,by decide +kernel,rfl,by decide +kernel,by decide +kernel⟩
set_option maxHeartbeats 4000000 in
theorem ok_q6 {fd:FuncData}(F:Fun K "last_time" "last_time" s_q6 ad.q6 fd) (T:Txt K mg ad):FnOk P w K mg base CX0 1 ad.q6 fd ["way"] (spLast):=by
 refine F.ok sc_q6 (fun vs H Q E h=>?_) (fun cdv A outer s H vs Q E HR h=>?_)
 ·obtain⟨v,b,cs,rfl,_⟩:=h
  rfl
 ·obtain⟨v,b,cs,rfl,hw,hq⟩:=h
  have ND:=sc_q6.nd
  have HU0:=HR.units0
  have HU:=HR.units
  have hA:=HR.hd
  have hz:(100000:Nat)≤sizeLine:=by rw [sizeLine_eq];decide
  refine⟨_,(pss_one (ps_ret (pe_op op_sub (pe_op op_add (pe_ix ix_tup (pe_var (i:=0) (x:="way") rfl (vis_of z473) d_way e_way) pe_int (fun _ _=>rfl)) (pe_callB call_len_seq (gl_of z606) T.b_len PyProof.Rows.Boot.«len» (pa_cons (pe_ix ix_tup (pe_var (i:=0) (x:="way") rfl (vis_of z473) d_way e_way) pe_int (fun _ _=>rfl)) pa_nil (stp rfl)) (hn:=n_len) (hdb:=d_len) (he:=stp rfl) (hpl:=anp rfl))) pe_int))),?_⟩
  obtain⟨p,q,rfl,h1,h2⟩:=hw
  walk_at "RD"
  exact⟨_,SqT.of h1,_,rfl,_,SqT.of h1,_,rfl,_,rfl,_,.inr (SqT.of h2),_,rfl,by rw [List.length_map];exact hq⟩
theorem sc_q10:FnScope ["way","time"] ["way","time"] (defScope s_q10):=⟨rfl,rfl,rfl,by decide +kernel,rfl,by decide +kernel,by decide +kernel⟩
set_option maxHeartbeats 4000000 in
theorem ok_q10 {fd:FuncData}(F:Fun K "index_at" "index_at" s_q10 ad.q10 fd) (T:Txt K mg ad):FnOk P w K mg base CX0 1 ad.q10 fd ["way","time"] (spIdx):=by
 refine F.ok sc_q10 (fun vs H Q E h=>?_) (fun cdv A outer s H vs Q E HR h=>?_)
 ·obtain⟨v,b,cs,t,rfl,_⟩:=h
  rfl
 ·obtain⟨v,b,cs,t,rfl,hw,hq⟩:=h
  have ND:=sc_q10.nd
  have HU0:=HR.units0
  have HU:=HR.units
  have hA:=HR.hd
  have hz:(100000:Nat)≤sizeLine:=by rw [sizeLine_eq];decide
  refine⟨_,(pss_one (ps_ret (pe_callB (call_min2 rfl) (gl_of z522) T.b_min PyProof.Rows.Boot.«min» (pa_cons (pe_op op_sub (pe_var (i:=1) (x:="time") rfl (vis_of z423) d_time e_time) (pe_ix ix_tup (pe_var (i:=0) (x:="way") rfl (vis_of z385) d_way e_way) pe_int (fun _ _=>rfl))) (pa_cons (pe_op op_sub (pe_callB call_len_seq (gl_of z538) T.b_len PyProof.Rows.Boot.«len» (pa_cons (pe_ix ix_tup (pe_var (i:=0) (x:="way") rfl (vis_of z385) d_way e_way) pe_int (fun _ _=>rfl)) pa_nil (stp rfl)) (hn:=n_len) (hdb:=d_len) (he:=stp rfl) (hpl:=anp rfl)) pe_int) pa_nil (stp rfl)) (stp rfl)) (hn:=n_min) (hdb:=d_min) (he:=stp rfl) (hpl:=anp rfl)))),?_⟩
  obtain⟨p,q,rfl,h1,h2⟩:=hw
  walk_at "RD"
  exact⟨_,SqT.of h1,_,rfl,_,rfl,_,SqT.of h1,_,rfl,_,rfl,_,.inr (SqT.of h2),by rw [List.length_map];exact hq⟩
theorem sc_q11:FnScope ["way","time"] ["way","time"] (defScope s_q11):=⟨rfl,rfl,rfl,by decide +kernel,rfl,by decide +kernel,by decide +kernel⟩
set_option maxHeartbeats 4000000 in
theorem ok_q11 {fd:FuncData}(F:Fun K "place_at" "place_at" s_q11 ad.q11 fd) (T:Txt K mg ad){fd_q10:FuncData}(B_q10:Binds K fd_q10 ["way","time"] []) (G_q10:FnOk P w K mg base CX0 1 ad.q10 fd_q10 ["way","time"] (spIdx)):FnOk P w K mg base CX0 2 ad.q11 fd ["way","time"] (z466):=by
 refine F.ok sc_q11 (fun vs H Q E h=>?_) (fun cdv A outer s H vs Q E HR h=>?_)
 ·obtain⟨v,b,cs,t,rfl,_⟩:=h
  rfl
 ·obtain⟨v,b,cs,t,rfl,hw,hc,hq⟩:=h
  have ND:=sc_q11.nd
  have HU0:=HR.units0
  have HU:=HR.units
  have hA:=HR.hd
  have hz:(100000:Nat)≤sizeLine:=by rw [sizeLine_eq];decide
  refine⟨_,(pss_cons (ps_if (pt_cmpR op_lt (pe_var (i:=1) (x:="time") rfl (vis_of z305) d_time e_time) (pe_ix ix_tup (pe_var (i:=0) (x:="way") rfl (vis_of z287) d_way e_way) pe_int (fun _ _=>rfl)) (nomark _))
 (pss_one (ps_ret pe_non))
 pss_nil)
 (pss_one (ps_ret (pe_ix ix_tup (pe_ix ix_tup (pe_var (i:=0) (x:="way") rfl (vis_of z287) d_way e_way) pe_int (fun _ _=>rfl)) (pe_call G_q10 (HR.mono (by decide)) (gl_of z496) T.mg_q10 T.k_q10 B_q10 .nil pass0 (pa_cons (pe_var (i:=0) (x:="way") rfl (vis_of z287) d_way e_way) (pa_cons (pe_var (i:=1) (x:="time") rfl (vis_of z305) d_time e_time) pa_nil (stp rfl)) (stp rfl)) (hdb:=d_q10) (he:=stp rfl) (hpl:=anp rfl)) (fun _ _=>rfl))))),?_⟩
  obtain⟨p,q,rfl,h1,h2⟩:=id hw
  walk_at "RD"
  refine⟨_,SqT.of h1,_,rfl,_,rfl,?_⟩
  unfold plc at hq
  split
  ·rename_i h
   rw [if_pos h] at hq
   exact hq
  ·rename_i h
   rw [if_neg h] at hq
   obtain⟨i0,i1⟩:=idx_in (b:=b) (cs:=cs) (t:=t) (by omega) hc
   exact⟨_,SqT.of h1,_,rfl,_,b,cs,t,rfl,hw,_,rfl,_,_,rfl,SqT.of h2,_,z468 i0 i1,hq⟩
theorem sc_q2:FnScope ["one","other","time","place","far"] ["one","other","time"] (defScope s_q2):=⟨rfl,rfl,rfl,by decide +kernel,rfl,by decide +kernel,by decide +kernel⟩
set_option maxHeartbeats 4000000 in
theorem ok_q2 {fd:FuncData}(F:Fun K "meeting_word" "meeting_word" s_q2 ad.q2 fd) (T:Txt K mg ad){fd_q11:FuncData}(B_q11:Binds K fd_q11 ["way","time"] []) (G_q11:FnOk P w K mg base CX0 2 ad.q11 fd_q11 ["way","time"] (z466)):FnOk P w K mg base CX0 3 ad.q2 fd ["one","other","time"] (spWord):=by
 refine F.ok sc_q2 (fun vs H Q E h=>?_) (fun cdv A outer s H vs Q E HR h=>?_)
 ·obtain⟨v,b,c,v',b',c',t,rfl,_⟩:=h
  rfl
 ·obtain⟨v,b,c,v',b',c',t,rfl,hw,hw',hc,hc',hq⟩:=h
  have ND:=sc_q2.nd
  have HU0:=HR.units0
  have HU:=HR.units
  have hA:=HR.hd
  have hz:(100000:Nat)≤sizeLine:=by rw [sizeLine_eq];decide
  refine⟨_,(pss_cons (ps_set (i:=3) ND rfl (loc_of (Or.inl z309)) (pe_call G_q11 (HR.mono (by decide)) (gl_of z300) T.mg_q11 T.k_q11 B_q11 .nil pass0 (pa_cons (pe_var (i:=0) (x:="one") rfl (vis_of z486) d_one e_one) (pa_cons (pe_var (i:=2) (x:="time") rfl (vis_of z205) d_time e_time) pa_nil (stp rfl)) (stp rfl)) (hdb:=d_q11) (he:=stp rfl) (hpl:=anp rfl)))
 (pss_cons (ps_set (i:=4) ND rfl (loc_of (Or.inl z456)) (pe_call G_q11 (HR.mono (by decide)) (gl_of z300) T.mg_q11 T.k_q11 B_q11 .nil pass0 (pa_cons (pe_var (i:=1) (x:="other") rfl (vis_of z319) z112 z122) (pa_cons (pe_var (i:=2) (x:="time") rfl (vis_of z205) d_time e_time) pa_nil (stp rfl)) (stp rfl)) (hdb:=d_q11) (he:=stp rfl) (hpl:=anp rfl)))
 (pss_cons (ps_if (pt_cmpR op_eq (pe_var (i:=3) (x:="place") rfl (vis_of z327) z567 z568) (pe_var (i:=4) (x:="far") rfl (vis_of z429) d_far e_far) (nomark _))
 (pss_one (ps_ret pe_str))
 pss_nil)
 (pss_cons (ps_if (PW.pt (pw_and (pt_cmpR op_eq (pe_call G_q11 (HR.mono (by decide)) (gl_of z300) T.mg_q11 T.k_q11 B_q11 .nil pass0 (pa_cons (pe_var (i:=0) (x:="one") rfl (vis_of z486) d_one e_one) (pa_cons (pe_op op_add (pe_var (i:=2) (x:="time") rfl (vis_of z205) d_time e_time) pe_int) pa_nil (stp rfl)) (stp rfl)) (hdb:=d_q11) (he:=stp rfl) (hpl:=anp rfl)) (pe_var (i:=4) (x:="far") rfl (vis_of z429) d_far e_far) (nomark _)) (pw_and1 (pt_cmpR op_eq (pe_call G_q11 (HR.mono (by decide)) (gl_of z300) T.mg_q11 T.k_q11 B_q11 .nil pass0 (pa_cons (pe_var (i:=1) (x:="other") rfl (vis_of z319) z112 z122) (pa_cons (pe_op op_add (pe_var (i:=2) (x:="time") rfl (vis_of z205) d_time e_time) pe_int) pa_nil (stp rfl)) (stp rfl)) (hdb:=d_q11) (he:=stp rfl) (hpl:=anp rfl)) (pe_var (i:=3) (x:="place") rfl (vis_of z327) z567 z568) (nomark _)))))
 (pss_one (ps_ret pe_str))
 pss_nil)
 (pss_one (ps_ret pe_non)))))),?_⟩
  have o1:=plc_or b c t
  have o2:=plc_or b' c' t
  have o3:=plc_or b c (t + 1)
  have o4:=plc_or b' c' (t + 1)
  unfold mtAt mw at hq
  walk_at "RD"
  refine⟨v,b,c,t,rfl,hw,hc,v',b',c',t,rfl,hw',hc',sc_plc o1 o2,?_⟩
  by_cases h:plc b c t=plc b' c' t
  ·rw [if_pos h] at hq ⊢
   exact hq
  ·rw [if_neg h] at hq ⊢
   refine⟨v,b,c,t + 1,rfl,hw,hc,sc_plc o3 o2,?_⟩
   by_cases h2:plc b c (t + 1)=plc b' c' t
   ·rw [if_pos h2]
    refine⟨v',b',c',t + 1,rfl,hw',hc',sc_plc o4 o1,?_⟩
    by_cases h3:plc b' c' (t + 1)=plc b c t
    ·rw [if_pos ⟨h2,h3⟩] at hq
     rw [if_pos h3]
     exact hq
    ·rw [if_neg (fun z=>h3 z.2)] at hq
     rw [if_neg h3]
     exact hq
   ·rw [if_neg (fun z=>h2 z.1)] at hq
    rw [if_neg h2]
    exact hq
theorem sc_q1:FnScope ["one","other","begin","end","time","word"] ["one","other"] (defScope s_q1):=⟨rfl,rfl,rfl,by decide +kernel,rfl,by decide +kernel,by decide +kernel⟩
set_option maxHeartbeats 4000000 in
theorem ok_q1 {fd:FuncData}(F:Fun K "first_meeting" "first_meeting" s_q1 ad.q1 fd) (T:Txt K mg ad){fd_q6:FuncData}(B_q6:Binds K fd_q6 ["way"] []) (G_q6:FnOk P w K mg base CX0 1 ad.q6 fd_q6 ["way"] (spLast)){fd_q2:FuncData}(B_q2:Binds K fd_q2 ["one","other","time"] []) (G_q2:FnOk P w K mg base CX0 3 ad.q2 fd_q2 ["one","other","time"] (spWord)):FnOk P w K mg base CX0 4 ad.q1 fd ["one","other"] (z369):=by
 refine F.ok sc_q1 (fun vs H Q E h=>?_) (fun cdv A outer s H vs Q E HR h=>?_)
 ·obtain⟨v,b,c,v',b',c',rfl,_⟩:=h
  rfl
 ·obtain⟨v,b,c,v',b',c',rfl,hw,hw',g,g',hq⟩:=h
  have ND:=sc_q1.nd
  have HU0:=HR.units0
  have HU:=HR.units
  have hA:=HR.hd
  have hz:(100000:Nat)≤sizeLine:=by rw [sizeLine_eq];decide
  refine⟨_,(pss_cons (ps_set (i:=2) ND rfl (loc_of (Or.inl z332)) (pe_callB (call_max2 rfl) (gl_of z472) T.b_max PyProof.Rows.Boot.«max» (pa_cons (pe_ix ix_tup (pe_var (i:=0) (x:="one") rfl (vis_of z344) d_one e_one) pe_int (fun _ _=>rfl)) (pa_cons (pe_ix ix_tup (pe_var (i:=1) (x:="other") rfl (vis_of z243) z112 z122) pe_int (fun _ _=>rfl)) pa_nil (stp rfl)) (stp rfl)) (hn:=n_max) (hdb:=d_max) (he:=stp rfl) (hpl:=anp rfl)))
 (pss_cons (ps_set (i:=3) ND rfl (loc_of (Or.inl z453)) (pe_callB (call_max2 rfl) (gl_of z472) T.b_max PyProof.Rows.Boot.«max» (pa_cons (pe_call G_q6 (HR.mono (by decide)) (gl_of z555) T.mg_q6 T.k_q6 B_q6 .nil pass0 (pa_cons (pe_var (i:=0) (x:="one") rfl (vis_of z344) d_one e_one) pa_nil (stp rfl)) (hdb:=d_q6) (he:=stp rfl) (hpl:=anp rfl)) (pa_cons (pe_call G_q6 (HR.mono (by decide)) (gl_of z555) T.mg_q6 T.k_q6 B_q6 .nil pass0 (pa_cons (pe_var (i:=1) (x:="other") rfl (vis_of z243) z112 z122) pa_nil (stp rfl)) (hdb:=d_q6) (he:=stp rfl) (hpl:=anp rfl)) pa_nil (stp rfl)) (stp rfl)) (hn:=n_max) (hdb:=d_max) (he:=stp rfl) (hpl:=anp rfl)))
 (pss_cons (ps_for PassesOwn.never (calm0 rfl) (pi_range2 (gl_of z445) T.b_range (pa_cons (pe_var (i:=2) (x:="begin") rfl (vis_of z457) z621 z614) (pa_cons (pe_op op_add (pe_var (i:=3) (x:="end") rfl (vis_of z601) d_end e_end) pe_int) pa_nil (stp rfl)) (stp rfl)) (st2 rfl rfl) (st1 rfl)) (pg_name (i:=4) ND rfl (loc_of (Or.inl z390)))
 (pss_cons (ps_set (i:=5) ND rfl (loc_of (Or.inl z386)) (pe_call G_q2 (HR.mono (by decide)) (gl_of z638) T.mg_q2 T.k_q2 B_q2 .nil pass0 (pa_cons (pe_var (i:=0) (x:="one") rfl (vis_of z344) d_one e_one) (pa_cons (pe_var (i:=1) (x:="other") rfl (vis_of z243) z112 z122) (pa_cons (pe_var (i:=4) (x:="time") rfl (vis_of z368) d_time e_time) pa_nil (stp rfl)) (stp rfl)) (stp rfl)) (hdb:=d_q2) (he:=stp rfl) (hpl:=anp rfl)))
 (pss_one (ps_if (pt_cmpR op_notN (pe_var (i:=5) (x:="word") rfl (vis_of z370) d_word e_word) pe_non (nomark _))
 (pss_one (ps_ret (pe_tup (pa_cons (pe_var (i:=4) (x:="time") rfl (vis_of z368) d_time e_time) (pa_cons (pe_var (i:=5) (x:="word") rfl (vis_of z370) d_word e_word) pa_nil (stp rfl)) (stp rfl)))))
 pss_nil))))
 (pss_one (ps_ret pe_non))))),?_⟩
  obtain⟨p,q,rfl,h1,h2⟩:=id hw
  obtain⟨p',q',rfl,h1',h2'⟩:=id hw'
  obtain⟨hc,hl,b0,b1⟩:=g
  obtain⟨hc',hl',b0',b1'⟩:=g'
  have lp:0 < c.length:=List.length_pos_iff.mpr hc
  have lp':0 < c'.length:=List.length_pos_iff.mpr hc'
  walk_at "RD"
  refine⟨_,SqT.of h1,_,rfl,_,SqT.of h1',_,rfl,_,rfl,_,rfl,_,b,c,rfl,hw,_,b',c',rfl,hw',_,rfl,_,rfl,?_⟩
  obtain⟨B,hB⟩:∃ B,B=(if b' > b then b' else b):=⟨_,rfl⟩
  obtain⟨e,he⟩:∃ e,e=(if b' + (c'.length:Int) - 1 > b + (c.length:Int) - 1 then b' + (c'.length:Int) - 1 else b + (c.length:Int) - 1):=⟨_,rfl⟩
  rw [← hB,← he]
  have B1:b≤B∧b'≤B∧B≤10 ^ 15∧(B=b∨B=b'):=by rw [hB];split <;> omega
  have e1:b + (c.length:Int) - 1≤e∧b' + (c'.length:Int) - 1≤e∧e≤10 ^ 15 + 1000:=by rw [he];split <;> omega
  refine⟨by omega,by omega,by omega,by omega,for_range (fun i σ H'=>∃ x y,H'=H∧σ=[some (V.ref p),some (V.ref p'),some (V.int B),some (V.int e),x,y]∧∀ j:Nat,j < i→mtAt b c b' c' (B + (j:Int))=none) ⟨none,none,rfl,rfl,fun j hj=>absurd hj (Nat.not_lt_zero j)⟩ ?_ ?_⟩
  ·rintro i σ H' hi ⟨x,y,rfl,rfl,hn⟩
   walk_at "RD"
   refine⟨_,b,c,_,b',c',B + (i:Int),rfl,hw,hw',hc,hc',?_⟩
   dsimp only
   cases hm:mtAt b c b' c' (B + (i:Int)) with
   | none=>
    rw [if_neg (by simp [wordV])]
    refine⟨rfl,fun j hj=>?_⟩
    rcases Nat.lt_succ_iff_lt_or_eq.mp hj with z | z
    ·exact hn j z
    ·rw [z];exact hm
   | some w=>
    rw [if_pos (by simp [wordV])]
    refine⟨by omega,fun r nr=>hq _ _ (some (B + (i:Int),w)) (z0 nr) ⟨r,rfl,upd_same⟩ ⟨by omega,by omega,hm,fun t' g1 g2 g3=>?_⟩⟩
    have:=hn (t' - B).toNat (by omega)
    rw [show B + ((t' - B).toNat:Int)=t' by omega] at this
    exact this
  ·rintro σ H' ⟨x,y,rfl,rfl,hn⟩
   walk_at "RD"
   refine hq _ _ none (Same.refl _) rfl (First.none_of hc hc' (e:=e) e1.1 e1.2.1 fun t' g1 g2 g3=>?_)
   have:=hn (t' - B).toNat (by omega)
   rw [show B + ((t' - B).toNat:Int)=t' by omega] at this
   exact this
theorem sc_q12:FnScope ["ways","found","numbers","index","one","other","meeting"] ["ways"] (defScope s_q12):=⟨rfl,rfl,rfl,by decide +kernel,rfl,by decide +kernel,by decide +kernel⟩
set_option maxHeartbeats 4000000 in
local macro_rules | `(tactic| walk_at "RDS")=>`(tactic| simp only [z545,iRng1,iRng2,gTup,gCons,gNil,rCat,rRep,cxKm,cxKs,cxKt,tTryAs,z378,tDNotIn,tDNewK,sDPut,tDGet,tDPop1,tXGetO,tXGet,z418,sXFld,tStepL,iVals,tMaxD,tThawK,tThawE,iDictK,Ends.thawK,iEnumL,tMinD,z464,rInD,tMethX,tRaise,noW,tAsg,tOp,tUn,tVar,tC,rI0,rI,rU,tTest,tIfS,tNext,tRet,tDrop,gName,tCB,tCons,tNil,tAndV,tNotV,tAnd,tOr,tNot,tB,tCall,tBM,tLst,tTup,tNoPart,tPart,tSl,tCont,rSlA,rSlL,rIn,rIxL,rIxT,rEq,rNe,scal,rAppend,tFld,sFld,tMeth,tMake,tDNewK,tComp,sComp,capσ,iList,iTup,rEqD,cxK,cxA,cxKc,cxAc,L2.start,List.map_cons,List.map_nil,List.length_cons,List.length_nil,List.replicate_succ,List.replicate_zero,List.cons_append,List.nil_append,List.append_nil,Nat.reduceAdd,Nat.reduceSub,List.set_cons_zero,List.set_cons_succ,List.getElem?_cons_zero,List.getElem?_cons_succ,Option.getD_some,Option.getD_none,Option.some.injEq,V.int.injEq,V.ref.injEq,V.bl.injEq,V.str.injEq,V.ty.injEq,exists_eq_left',exists_eq_left,exists_and_left,and_assoc,List.cons.injEq,and_true,true_and,decide_eq_true_eq,Bool.not_eq_true',decide_eq_false_iff_not,Bool.false_eq_true,if_false,if_true,reduceIte,Bool.not_true,Bool.not_false,beq_self_eq_true])
theorem ok_q12 {fd:FuncData}(F:Fun K "meetings" "meetings" s_q12 ad.q12 fd) (T:Txt K mg ad){fd_q1:FuncData}(B_q1:Binds K fd_q1 ["one","other"] []) (G_q1:FnOk P w K mg base CX0 4 ad.q1 fd_q1 ["one","other"] (z369)):FnOk P w K mg base CX0 5 ad.q12 fd ["ways"] (z72):=by
 refine F.ok sc_q12 (fun vs H Q E h=>?_) (fun cdv A outer s H vs Q E HR h=>?_)
 ·obtain⟨d,es,rfl,_⟩:=h
  rfl
 ·obtain⟨d,es,rfl,hd,en,lz,hq⟩:=h
  have ND:=sc_q12.nd
  have HU0:=HR.units0
  have HU:=HR.units
  have hA:=HR.hd
  have hz:(100000:Nat)≤sizeLine:=by rw [sizeLine_eq];decide
  refine⟨_,(pss_cons (ps_set (i:=1) ND rfl (loc_of (Or.inl z279)) (pe_lst pa_nil))
 (pss_cons (ps_set (i:=2) ND rfl (loc_of (Or.inl z194)) (pe_callB (z83 rfl) (gl_of z218) T.b_sorted PyProof.Rows.Boot.«sorted» (pa_cons (pe_var (i:=0) (x:="ways") rfl (vis_of z242) d_ways e_ways) pa_nil (stp rfl)) (hn:=z176) (hdb:=z184) (he:=stp rfl) (hpl:=anp rfl)))
 (pss_cons (ps_for PassesOwn.never (calm0 rfl) (z611 (gl_of z253) T.b_enumerate (pa_cons (pe_var (i:=2) (x:="numbers") rfl (vis_of z195) z391 z375) pa_nil (stp rfl)) (st1 rfl)) (pg_tup (n:=2) (calm0 rfl) (pgs_cons (pg_name (i:=3) ND rfl (loc_of (Or.inl z282))) (pgs_cons (pg_name (i:=4) ND rfl (loc_of (Or.inl z382))) pgs_nil)))
 (pss_one (ps_for PassesOwn.never (calm0 rfl) (pi_list (pe_slice sl_list (pe_var (i:=2) (x:="numbers") rfl (vis_of z195) z391 z375) (po_some (pe_op op_add (pe_var (i:=3) (x:="index") rfl (vis_of z404) z620 z648) pe_int)) po_none)) (pg_name (i:=5) ND rfl (loc_of (Or.inl z265)))
 (pss_cons (ps_set (i:=6) ND rfl (loc_of (Or.inl z192)) (pe_call G_q1 (HR.mono (by decide)) (gl_of z573) T.mg_q1 T.k_q1 B_q1 .nil pass0 (pa_cons (pe_dget (hu1 HU) (pe_var (i:=0) (x:="ways") rfl (vis_of z242) d_ways e_ways) (pe_var (i:=4) (x:="one") rfl (vis_of z373) d_one e_one) (fun _ _=>rfl)) (pa_cons (pe_dget (hu1 HU) (pe_var (i:=0) (x:="ways") rfl (vis_of z242) d_ways e_ways) (pe_var (i:=5) (x:="other") rfl (vis_of z277) z112 z122) (fun _ _=>rfl)) pa_nil (stp rfl)) (stp rfl)) (hdb:=d_q1) (he:=stp rfl) (hpl:=anp rfl)))
 (pss_one (ps_if (pt_cmpR op_notN (pe_var (i:=6) (x:="meeting") rfl (vis_of z116) z298 z295) pe_non (nomark _))
 (pss_one (ps_expr (pe_bm PySem.F.plainAttrs_list PySem.F.slot_list_append PySem.F.type_list_append mt_append (pe_var (i:=1) (x:="found") rfl (vis_of z262) z569 z552) (pa_cons (pe_tup (pa_cons (pe_ix ix_tup (pe_var (i:=6) (x:="meeting") rfl (vis_of z116) z298 z295) pe_int (fun _ _=>rfl)) (pa_cons (pe_var (i:=4) (x:="one") rfl (vis_of z373) d_one e_one) (pa_cons (pe_var (i:=5) (x:="other") rfl (vis_of z277) z112 z122) (pa_cons (pe_ix ix_tup (pe_var (i:=6) (x:="meeting") rfl (vis_of z116) z298 z295) pe_int (fun _ _=>rfl)) pa_nil (stp rfl)) (stp rfl)) (stp rfl)) (stp rfl))) pa_nil (stp rfl)))))
 pss_nil))))))
 (pss_one (ps_ret (pe_callB z216 (gl_of z218) T.b_sorted PyProof.Rows.Boot.«sorted» (pa_cons (pe_var (i:=1) (x:="found") rfl (vis_of z262) z569 z552) pa_nil (stp rfl)) (hn:=z176) (hdb:=z184) (he:=stp rfl) (hpl:=anp rfl))))))),?_⟩
  have good:∀ {b:Int}{c:List Int},Tiny b c→Good b c:=fun h=>⟨h.1,by have:=h.2.1;omega,h.2.2.1,by have:=h.2.2.2;omega⟩
  refine zz1 (fun σ H'=>∃ fo,H fo=none∧H'=upd H fo (.lst [])∧σ=[some (V.ref d),some (V.ref fo),none,none,none,none,none]) (fun nx hk=>?_) ?_
  ·walk_at "RD"
   exact⟨Nat.zero_le _,fun fo nf=>hk _ _ ⟨fo,nf,rfl,rfl⟩⟩
  rintro σ _ ⟨fo,nf,rfl,rfl⟩
  refine zz1 (fun σ H'=>∃ (nu:Addr) (ms:List Int),Same H H'∧H' fo=some (.lst [])∧H' nu=some (.lst (ms.map V.int))∧ms.Perm (es.map (·.k))∧ms.Pairwise (·≤·)∧nu≠fo∧σ=[some (V.ref d),some (V.ref fo),some (V.ref nu),none,none,none,none]) (fun nx hk=>?_) ?_
  ·walk_at "RD"
   refine⟨kv es,.inl ((z0 nf) _ _ hd),by rw [kv_len];omega,fun ms hp hs l nl=>hk _ _ ⟨l,ms,(z0 nf).trans (z0 nl),(z0 nl) _ _ upd_same,upd_same,by rw [z374] at hp;exact hp,hs,(fun e=>by rw [e,upd_same] at nl;cases nl),rfl⟩⟩
  rintro σ H1 ⟨nu,ms,s1,hf1,hn1,pm,so,nf1,rfl⟩
  have ndm:ms.Nodup:=pm.nodup_iff.mpr en.nd
  have lm:ms.length=es.length:=by rw [pm.length_eq,List.length_map]
  have st:=z540 so ndm
  refine zz1 (fun σ H'=>∃ (rs:List (Addr × Q4)) (x3 x4 x5 x6:Option V),Same H H'∧RowsAt H' fo rs∧RowsOk es (fun _ _=>True) (rs.map (·.2))∧rs.length≤400∧σ=[some (V.ref d),some (V.ref fo),some (V.ref nu),x3,x4,x5,x6]) (fun nx hk=>?_) ?_
  ·walk_at "RDS"
   refine⟨_,SqL.of hn1,z519 (xs:=ms.map V.int) (fun i σ H'=>∃ (rs:List (Addr × Q4)) (x3 x4 x5 x6:Option V),Same H H'∧H' nu=some (.lst (ms.map V.int))∧RowsAt H' fo rs∧RowsOk es (fun a b=>a∈ms.take i) (rs.map (·.2))∧rs.length≤20 * i∧σ=[some (V.ref d),some (V.ref fo),some (V.ref nu),x3,x4,x5,x6]) ⟨[],none,none,none,none,s1,hn1,⟨hf1,fun r hr=>by cases hr⟩,⟨fun q=>by simp,List.nodup_nil⟩,Nat.le_refl _,rfl⟩ (fun i σ H' ⟨_,_,_,_,_,_,h,_⟩=>SqL.of h) ?_ ?_⟩
   ·rintro i x σ H2 T' hx ⟨rs,x3,x4,x5,x6,s2,hn2,hr2,ok2,ln2,rfl⟩ nT
    rw [List.getElem?_map] at hx
    obtain⟨a,ha,rfl⟩:=Option.map_eq_some_iff.mp hx
    have hi:i < ms.length:=(List.getElem?_eq_some_iff.mp ha).1
    walk_at "RDS"
    refine⟨_,SqT.of upd_same,rfl,_,_,rfl,_,_,rfl,rfl,_,rfl,_,SqL.of ((z0 nT) _ _ hn2),fun p np=>?_⟩
    have S:=(z0 (o:=HO.tup [V.int (i:Nat),V.int a]) nT).trans (z0 (o:=HO.lst (cutV (ms.map V.int) (some ((i:Int) + 1)) none)) np)
    have hp3:=upd_same (H:=upd H2 T' (HO.tup [V.int (i:Nat),V.int a])) (a:=p) (o:=HO.lst (cutV (ms.map V.int) (some ((i:Int) + 1)) none))
    have pf:p≠fo:=fun e=>by rw [e,(z0 nT) _ _ hr2.1] at np;cases np
    refine⟨⟨_,SqL.of upd_same⟩,?_⟩
    generalize upd (upd H2 T' (HO.tup [V.int (i:Nat),V.int a])) p (HO.lst (cutV (ms.map V.int) (some ((i:Int) + 1)) none))=H3 at S hp3 ⊢
    rw [z593 (by rw [List.length_map];exact hi),← List.map_drop] at hp3
    refine for_list (K:=K) (a:=p) (xs:=(ms.drop (i + 1)).map V.int) (fun j σ H'=>∃ (rs:List (Addr × Q4)) (x5 x6:Option V),Same H H'∧H' nu=some (.lst (ms.map V.int))∧H' p=some (.lst ((ms.drop (i + 1)).map V.int))∧RowsAt H' fo rs∧RowsOk es (Pij ms i (ms.drop (i + 1)) j) (rs.map (·.2))∧rs.length≤20 * i + j∧σ=[some (V.ref d),some (V.ref fo),some (V.ref nu),some (V.int (i:Nat)),some (V.int a),x5,x6]) ⟨rs,_,_,s2.trans S,S _ _ hn2,hp3,hr2.same S,ok2.congr fun q m=>⟨.inl,fun z=>z.resolve_right fun y=>by simp at y⟩,ln2,rfl⟩ ?_ ?_ ?_
    ·rintro j σ H' _ ⟨_,_,_,_,_,h,_⟩
     exact SqL.of h
    ·rintro j y σ H4 hy ⟨rs,x5,x6,s4,hn4,hp4,hr4,ok4,ln4,rfl⟩
     rw [List.getElem?_map] at hy
     obtain⟨b,hb,rfl⟩:=Option.map_eq_some_iff.mp hy
     have hj:j < 20:=by
      have:=(List.getElem?_eq_some_iff.mp hb).1
      rw [List.length_drop] at this
      omega
     have hb':ms[i + 1 + j]?=some b:=by rw [List.getElem?_drop] at hb;exact hb
     obtain⟨e,he,rfl⟩:=List.mem_map.mp (pm.mem_iff.mp (List.mem_of_getElem? ha))
     obtain⟨f,hf,rfl⟩:=List.mem_map.mp (pm.mem_iff.mp (List.mem_of_getElem? hb'))
     have lt:e.k < f.k:=by
      obtain⟨l1,q1⟩:=List.getElem?_eq_some_iff.mp ha
      obtain⟨l2,q2⟩:=List.getElem?_eq_some_iff.mp hb'
      rw [← q1,← q2]
      exact List.pairwise_iff_getElem.mp st i (i + 1 + j) l1 l2 (by omega)
     obtain⟨we,te,_⟩:=en.ok e he
     obtain⟨wf,tf,_⟩:=en.ok f hf
     walk_at "RD"
     refine⟨e.v,by rw [← z134 en.nd he];exact DGet.k (k:=.inl e.k) (s4 _ _ hd),f.v,by rw [← z134 en.nd hf];exact DGet.k (k:=.inl f.k) (s4 _ _ hd),e.v,e.b,e.c,f.v,f.b,f.c,rfl,we.same s4,wf.same s4,good te,good tf,fun r H5 o s5 hr F=>?_⟩
     show (if ¬ r=V.non then _ else _)
     cases o with
     | none=>
      rw [if_neg (by simp [show r=V.non from hr])]
      exact⟨s4.trans s5,s5 _ _ hn4,s5 _ _ hp4,rs,hr4.same s5,(ok4.none en.nd he hf F).congr fun q _=>z207 ha hb,by omega,_,rfl⟩
     | some tw=>
      obtain⟨t,w'⟩:=tw
      obtain⟨r',rfl,hr'⟩:=hr
      rw [if_pos (by simp)]
      refine⟨.inl ⟨rfl,_,SqL.of (s5 _ _ hr4.1)⟩,r',rfl,_,SqT.of hr',_,rfl,r',rfl,_,SqT.of hr',_,rfl,by omega,fun x nx=>?_⟩
      have S6:=z0 (o:=HO.tup [V.int t,V.int e.k,V.int f.k,V.str w']) nx
      refine⟨_,S6 _ _ (s5 _ _ hr4.1),by rw [List.length_map];omega,z232 ((s4.trans s5).trans S6) nf,by rw [upd_ne nf1];exact S6 _ _ (s5 _ _ hn4),by rw [upd_ne pf];exact S6 _ _ (s5 _ _ hp4),rs++[(x,(t,e.k,f.k,w'))],z460 ((hr4.same s5).same S6) upd_same,?_,by rw [List.length_append];simp only [List.length_cons,List.length_nil];omega,_,rfl⟩
      rw [z419]
      exact(ok4.add en.nd he hf lt F (z548 ndm ((List.drop_sublist _ _).nodup ndm) ha hb)).congr fun q _=>z207 ha hb
    ·rintro σ H' ⟨rs,x5,x6,s4,hn4,hp4,hr4,ok4,ln4,rfl⟩
     have hl:((ms.drop (i + 1)).map V.int).length≤20:=by rw [List.length_map,List.length_drop];omega
     refine⟨s4,hn4,rs,hr4,ok4.congr fun q m=>?_,by omega,_,_,_,_,rfl⟩
     rw [z166 ha,List.length_map]
     unfold Pij
     rw [List.take_length,ha]
     refine⟨fun z=>z.imp id fun y=>(Option.some.inj y.1).symm,fun z=>z.imp id fun y=>⟨by rw [y],?_⟩⟩
     obtain⟨e,he,f,hf,a1,a2,lt,_⟩:=m
     have mf:q.2.2.1∈ms:=pm.mem_iff.mpr (List.mem_map.mpr ⟨f,hf,a2⟩)
     obtain⟨g,hg,eg⟩:=List.getElem_of_mem mf
     rw [List.mem_iff_getElem?]
     by_cases gi:i < g
     ·exact⟨g - (i + 1),by rw [List.getElem?_drop,show i + 1 + (g - (i + 1))=g by omega,List.getElem?_eq_getElem hg,eg]⟩
     ·obtain⟨l1,q1⟩:=List.getElem?_eq_some_iff.mp ha
      rcases Nat.lt_or_eq_of_le (Nat.le_of_not_lt gi) with g1 | g1
      ·have:=List.pairwise_iff_getElem.mp st g i hg l1 g1
       omega
      ·subst g1
       omega
   ·rintro σ H' ⟨rs,x3,x4,x5,x6,s2,hn2,hr2,ok2,ln2,rfl⟩
    refine hk _ _ ⟨rs,x3,x4,x5,x6,s2,hr2,ok2.congr fun q m=>⟨fun _=>trivial,fun _=>?_⟩,by rw [List.length_map] at ln2;omega,rfl⟩
    rw [List.length_map,List.take_length]
    obtain⟨e,he,_,_,a1,_⟩:=m
    exact pm.mem_iff.mpr (List.mem_map.mpr ⟨e,he,a1⟩)
  rintro σ H2 ⟨rs,x3,x4,x5,x6,s2,hr2,ok2,ln2,rfl⟩
  walk_at "RD"
  obtain⟨ts,k,z,t1,t2,t3,t4,t5,t6⟩:=z264 en.nd hr2 ok2 (by omega)
  refine⟨ts,SqL.of t1,t2,k,z,t3,t4,t5,fun us pu su l nl=>?_⟩
  obtain⟨rs',r1,r2,r3⟩:=t6 us pu su l nl
  exact hq l rs' _ (s2.free nl) (s2.trans (z0 nl)) r1 r2 r3
theorem sc_q4:FnScope ["self","other"] ["self","other"] (defScope s_q4):=⟨rfl,rfl,rfl,by decide +kernel,rfl,by decide +kernel,by decide +kernel⟩
set_option maxHeartbeats 4000000 in
theorem ok_q4 {fd:FuncData}(F:Fun K "__init__" "Meets.__init__" s_q4 ad.q4 fd) (T:Txt K mg ad):FnOk P w K mg base (CXE P w) 1 ad.q4 fd ["self","other"] (z485 ad):=by
 refine F.okR sc_q4 (fun vs H Q E h=>?_) (fun cdv A outer s H vs Q E HR h=>?_)
 ·obtain⟨x,k,fs,sl,rfl,_⟩:=h
  rfl
 ·obtain⟨x,k,fs,sl,rfl,hx,hq⟩:=h
  have ND:=sc_q4.nd
  have HU0:=HR.units0
  have HU:=HR.units
  have hA:=HR.hd
  have hz:(100000:Nat)≤sizeLine:=by rw [sizeLine_eq];decide
  refine⟨_,(pss_one (z628 (pe_var (i:=0) (x:="self") rfl (vis_of z525) d_self e_self) (pe_var (i:=1) (x:="other") rfl (vis_of z470) z112 z122) rfl)),?_⟩
  walk_at "RD"
  exact⟨_,_,_,hx,⟨T.xt_sa,T.xt_mro,T.xt_dict⟩,T.xt_no,fun dx n1 n2=>hq dx n1 n2⟩
theorem sc_q7:FnScope ["self"] ["self"] (defScope s_q7):=⟨rfl,rfl,rfl,by decide +kernel,rfl,by decide +kernel,by decide +kernel⟩
set_option maxHeartbeats 4000000 in
theorem ok_q7 {fd:FuncData}(F:Fun K "__init__" "Book.__init__" s_q7 ad.q7 fd) (T:Txt K mg ad):FnOk P w K mg base CX0 1 ad.q7 fd ["self"] (z462 ad):=by
 refine F.ok sc_q7 (fun vs H Q E h=>?_) (fun cdv A outer s H vs Q E HR h=>?_)
 ·obtain⟨p,dx,rfl,_⟩:=h
  rfl
 ·obtain⟨p,dx,rfl,hp,hq⟩:=h
  have ND:=sc_q7.nd
  have HU0:=HR.units0
  have HU:=HR.units
  have hA:=HR.hd
  have hz:(100000:Nat)≤sizeLine:=by rw [sizeLine_eq];decide
  refine⟨_,(pss_one (ps_fld (pe_var (i:=0) (x:="self") rfl (vis_of z524) d_self e_self) pe_dnewK rfl)),?_⟩
  walk_at "RD"
  exact fun d nd=>⟨_,_,_,(z0 nd) _ _ hp,T.cl_Book,T.n_Book_ways,by show 0 < 1000;decide,hq d nd⟩
theorem sc_q0:FnScope ["self","number"] ["self","number"] (defScope s_q0):=⟨rfl,rfl,rfl,by decide +kernel,rfl,by decide +kernel,by decide +kernel⟩
set_option maxHeartbeats 4000000 in
theorem ok_q0 {fd:FuncData}(F:Fun K "check_number" "Book.check_number" s_q0 ad.q0 fd) (T:Txt K mg ad){fd_q9:FuncData}(B_q9:Binds K fd_q9 ["thing"] []) (G_q9:FnOk P w K mg base CX0 1 ad.q9 fd_q9 ["thing"] (z268 K)):FnOk P w K mg base (CXE P w) 2 ad.q0 fd ["self","number"] (z384 ad):=by
 refine F.okR sc_q0 (fun vs H Q E h=>?_) (fun cdv A outer s H vs Q E HR h=>?_)
 ·obtain⟨p,d,es,n,rfl,_⟩:=h
  rfl
 ·obtain⟨p,d,es,n,rfl,hb,hq,he⟩:=h
  have ND:=sc_q0.nd
  have HU0:=HR.units0
  have HU:=HR.units
  have hA:=HR.hd
  have hz:(100000:Nat)≤sizeLine:=by rw [sizeLine_eq];decide
  refine⟨_,(pss_one (ps_if (PW.pt (pw_or (pt_not (pt_val (pe_call G_q9 (HR.mono (by decide)) (gl_of z654) T.mg_q9 T.k_q9 B_q9 .nil pass0 (pa_cons (pe_var (i:=1) (x:="number") rfl (vis_of z269) z115 z117) pa_nil (stp rfl)) (hdb:=d_q9) (he:=stp rfl) (hpl:=anp rfl)))) (pw_or1 (pt_cmp (pc_dnotin (hu1 HU) (pe_var (i:=1) (x:="number") rfl (vis_of z269) z115 z117) (pe_fld (pe_var (i:=0) (x:="self") rfl (vis_of z533) d_self e_self) (by rfl))) (by with_unfolding_all rfl)))))
 (pss_one (z594 xw_fn rfl (gl_of z296) T.mg_NoCarrier T.er_NoCarrier (pa_cons pe_str pa_nil (stp rfl)) (hdb:=z397) (he:=stp rfl) (hpl:=anp rfl)))
 pss_nil)),?_⟩
  obtain⟨⟨dx,h1⟩,h2⟩:=id hb
  walk_at "RD"
  refine⟨_,rfl,⟨_,.int n⟩,_,rfl,?_⟩
  rw [if_neg (by simp [isI])]
  refine⟨_,_,_,h1,T.cl_Book,T.n_Book_ways,_,w_ways d,d,rfl,_,DGet.k (k:=.inl n) h2,?_⟩
  by_cases z:∃ e∈es,e.k=n
  ·cases q:valV (dw es) (.inl n) with
   | none=>exact absurd (List.mem_map.mpr ⟨_,List.mem_map.mpr ⟨_,List.mem_map.mpr ⟨z.choose,z.choose_spec.1,rfl⟩,rfl⟩,by rw [z.choose_spec.2]⟩) (valV_not q)
   | some v=>
    rw [if_neg (by simp)]
    exact hq z
  ·have z':∀ e∈es,e.k≠n:=fun e he y=>z ⟨e,he,y⟩
   rw [z427 z',if_pos (by rfl)]
   exact⟨by omega,he z'⟩
theorem sc_q3:FnScope ["self"] ["self"] (defScope s_q3):=⟨rfl,rfl,rfl,by decide +kernel,rfl,by decide +kernel,by decide +kernel⟩
set_option maxHeartbeats 4000000 in
theorem ok_q3 {fd:FuncData}(F:Fun K "numbers" "Book.numbers" s_q3 ad.q3 fd) (T:Txt K mg ad):FnOk P w K mg base CX0 1 ad.q3 fd ["self"] (z162 ad):=by
 refine F.ok sc_q3 (fun vs H Q E h=>?_) (fun cdv A outer s H vs Q E HR h=>?_)
 ·obtain⟨p,d,es,rfl,_⟩:=h
  rfl
 ·obtain⟨p,d,es,rfl,hb,hl,hq⟩:=h
  have ND:=sc_q3.nd
  have HU0:=HR.units0
  have HU:=HR.units
  have hA:=HR.hd
  have hz:(100000:Nat)≤sizeLine:=by rw [sizeLine_eq];decide
  refine⟨_,(pss_one (ps_ret (pe_callB (z83 rfl) (gl_of z409) T.b_sorted PyProof.Rows.Boot.«sorted» (pa_cons (pe_fld (pe_var (i:=0) (x:="self") rfl (vis_of z542) d_self e_self) (by rfl)) pa_nil (stp rfl)) (hn:=z176) (hdb:=z184) (he:=stp rfl) (hpl:=anp rfl)))),?_⟩
  obtain⟨⟨dx,h1⟩,h2⟩:=id hb
  walk_at "RD"
  exact⟨_,_,_,h1,T.cl_Book,T.n_Book_ways,_,w_ways d,d,rfl,kv es,.inl h2,by rw [kv_len];exact hl,fun ms hp hs l nl=>hq l ms nl (by rw [z374] at hp;exact hp) hs⟩
theorem sc_q13:FnScope ["self","number","way","other"] ["self","number","way"] (defScope s_q13):=⟨rfl,rfl,rfl,by decide +kernel,rfl,by decide +kernel,by decide +kernel⟩
set_option maxHeartbeats 4000000 in
theorem ok_q13 {fd:FuncData}(F:Fun K "put" "Book.put" s_q13 ad.q13 fd) (T:Txt K mg ad){fd_q3:FuncData}(B_q3:Binds K fd_q3 ["self"] []) (G_q3:FnOk P w K mg base CX0 1 ad.q3 fd_q3 ["self"] (z162 ad)){fd_q1:FuncData}(B_q1:Binds K fd_q1 ["one","other"] []) (G_q1:FnOk P w K mg base CX0 4 ad.q1 fd_q1 ["one","other"] (z369)){fd_q4:FuncData}(B_q4:Binds K fd_q4 ["self","other"] []) (G_q4:FnOk P w K mg base (CXE P w) 1 ad.q4 fd_q4 ["self","other"] (z485 ad)):FnOk P w K mg base (CXE P w) 5 ad.q13 fd ["self","number","way"] (spPut ad):=by
 refine F.okR sc_q13 (fun vs H Q E h=>?_) (fun cdv A outer s H vs Q E HR h=>?_)
 ·obtain⟨p,d,es,n,v,b,c,rfl,_⟩:=h
  rfl
 ·obtain⟨p,d,es,n,v,b,c,rfl,hb,en,hw,ty,hq⟩:=h
  have ND:=sc_q13.nd
  have HU0:=HR.units0
  have HU:=HR.units
  have hA:=HR.hd
  have hz:(100000:Nat)≤sizeLine:=by rw [sizeLine_eq];decide
  refine⟨_,(pss_cons (ps_for PassesOwn.leaving (calm0 rfl) (pi_list (pe_meth0 (pe_var (i:=0) (x:="self") rfl (vis_of z233) d_self e_self) T.cl_Book T.m_q3 G_q3 (HR.mono (by decide)) B_q3 .nil pass0)) (pg_name (i:=3) ND rfl (loc_of (Or.inl z276)))
 (pss_one (ps_if (PW.pt (pw_and (pt_cmpR op_ne (pe_var (i:=3) (x:="other") rfl (vis_of z174) z112 z122) (pe_var (i:=1) (x:="number") rfl (vis_of z235) z115 z117) (nomark _)) (pw_and1 (pt_cmpR op_notN (pe_call G_q1 (HR.mono (by decide)) (gl_of z582) T.mg_q1 T.k_q1 B_q1 .nil pass0 (pa_cons (pe_var (i:=2) (x:="way") rfl (vis_of z381) d_way e_way) (pa_cons (pe_dget (hu1 HU) (pe_fld (pe_var (i:=0) (x:="self") rfl (vis_of z233) d_self e_self) (by rfl)) (pe_var (i:=3) (x:="other") rfl (vis_of z174) z112 z122) (fun _ _=>rfl)) pa_nil (stp rfl)) (stp rfl)) (hdb:=d_q1) (he:=stp rfl) (hpl:=anp rfl)) pe_non (nomark _)))))
 (pss_one (z528 xd_fn rfl (gl_of z405) T.mg_Meets T.xi_Meets T.xf_Meets G_q4 (HR.mono (by decide)) B_q4 .nil (pa_cons (pe_var (i:=3) (x:="other") rfl (vis_of z174) z112 z122) pa_nil (stp rfl)) (hdb:=z550) (he:=stp rfl) (hpl:=anp rfl)))
 pss_nil)))
 (pss_one (ps_dput (hu1 HU) (pe_fld (pe_var (i:=0) (x:="self") rfl (vis_of z233) d_self e_self) (by rfl)) (pe_var (i:=1) (x:="number") rfl (vis_of z235) z115 z117) (pe_var (i:=2) (x:="way") rfl (vis_of z381) d_way e_way) rfl))),?_⟩
  obtain⟨⟨dx,h1⟩,h2⟩:=id hb
  have el:=en.len
  have good:∀ {b:Int}{c:List Int},Tiny b c→Good b c:=fun h=>⟨h.1,by have:=h.2.1;omega,h.2.2.1,by have:=h.2.2.2;omega⟩
  walk_at "RD"
  refine⟨_,_,h1,w_no d (by decide +kernel),p,d,es,rfl,hb,by omega,fun l ms nl hp hs=>⟨l,rfl,⟨_,SqL.of upd_same⟩,for_list (xs:=ms.map V.int) (fun i σ H'=>∃ x,Same (upd H l (.lst (ms.map V.int))) H'∧σ=[some (V.ref p),some (V.int n),some v,x]∧∀ e∈es,e.k∈ms.take i→e.k≠n→¬ Mt b c e.b e.c) ⟨none,Same.refl _,rfl,fun e _ h=>by simp at h⟩ ?_ ?_ ?_⟩⟩
  ·rintro i σ H' hi ⟨x,s1,rfl,hn⟩
   exact SqL.of (s1 _ _ upd_same)
  ·rintro i x σ H' hi ⟨x0,s1,rfl,hn⟩
   obtain⟨k,hk,rfl⟩:∃ k,ms[i]?=some k∧V.int k=x:=by rw [List.getElem?_map] at hi;exact Option.map_eq_some_iff.mp hi
   obtain⟨e,he,ek⟩:=List.mem_map.mp (hp.mem_iff.mp (List.mem_iff_getElem?.mpr ⟨i,hk⟩))
   subst ek
   have s2:Same H H':=(z0 nl).trans s1
   obtain⟨we,te,_⟩:=en.ok e he
   walk_at "RD"
   by_cases z:e.k=n
   ·rw [if_neg (by simp [z])]
    exact⟨s1,z376 hk hn fun e' _ y1 y2=>absurd (y1.trans z) y2⟩
   ·rw [if_pos z]
    refine⟨_,_,_,s2 _ _ h1,T.cl_Book,T.n_Book_ways,_,w_ways d,d,rfl,e.v,by rw [← z134 en.nd he];exact DGet.k (k:=.inl e.k) (s2 _ _ h2),v,b,c,e.v,e.b,e.c,rfl,hw.same s2,we.same s2,good ty,good te,fun r H2 o s3 hr hf=>?_⟩
    have s4:=s2.trans s3
    show (if ¬ r=V.non then _ else _)
    have uq:∀ e'∈es,e'.k=e.k→e'=e:=fun e' he' y=>z107 en.nd he he' y
    cases o with
    | none=>
     rw [if_neg (by simp [show r=V.non from hr])]
     refine⟨s1.trans s3,z376 hk hn fun e' he' y _ hm=>?_⟩
     rw [uq e' he' y] at hm
     exact absurd ((mt_iff hf).mp hm) (by simp)
    | some w=>
     obtain⟨t,w⟩:=w
     obtain⟨r',rfl,hr'⟩:=hr
     rw [if_pos (by simp)]
     have PI:=z630 hp hs hk he z ((mt_iff hf).mpr rfl) hn
     refine⟨by show 1≤sizeLine;omega,fun a fs sl na=>⟨a,e.k,fs,sl,rfl,upd_same,fun dx n1 n2=>⟨rfl,dx,upd_same,?_⟩⟩⟩
     have sd:Same H (del (upd (upd (upd H2 a (HO.ext (XObj a ad.C_Meets none fs sl))) dx (HO.xd (putF "other" (V.int e.k) []))) a (HO.ext (XObj a ad.C_Meets (some dx) fs sl))) a):=fun b' o' hb'=>by
      have q1:=s4 _ _ hb'
      have na':b'≠a:=ne_of_none q1 na
      have nd':b'≠dx:=fun y=>by rw [← y,upd_ne na',q1] at n1;cases n1
      rw [del_ne na',upd_ne na',upd_ne nd',upd_ne na']
      exact q1
     exact(hq _ sd).2 e.k dx PI (by rw [del_ne n2,upd_ne n2];exact upd_same)
  ·rintro σ H' ⟨x,s1,rfl,hn⟩
   have s2:Same H H':=(z0 nl).trans s1
   rw [List.length_map] at hn
   walk_at "RD"
   refine⟨_,_,_,s2 _ _ h1,T.cl_Book,T.n_Book_ways,_,w_ways d,d,rfl,_,DPut.k (k:=.inl n) (s2 _ _ h2) (by rw [dw_len];omega),?_⟩
   rw [dw_put es ⟨n,v,b,c⟩]
   exact(hq H' s2).1 (z617 hp hn)
theorem sc_q8:FnScope ["self","number"] ["self","number"] (defScope s_q8):=⟨rfl,rfl,rfl,by decide +kernel,rfl,by decide +kernel,by decide +kernel⟩
set_option maxHeartbeats 4000000 in
theorem ok_q8 {fd:FuncData}(F:Fun K "drop" "Book.drop" s_q8 ad.q8 fd) (T:Txt K mg ad){fd_q0:FuncData}(B_q0:Binds K fd_q0 ["self","number"] []) (G_q0:FnOk P w K mg base (CXE P w) 2 ad.q0 fd_q0 ["self","number"] (z384 ad)):FnOk P w K mg base (CXE P w) 3 ad.q8 fd ["self","number"] (spDrop ad):=by
 refine F.okR sc_q8 (fun vs H Q E h=>?_) (fun cdv A outer s H vs Q E HR h=>?_)
 ·obtain⟨p,d,es,n,rfl,_⟩:=h
  rfl
 ·obtain⟨p,d,es,n,rfl,hb,nd,hq,he⟩:=h
  have ND:=sc_q8.nd
  have HU0:=HR.units0
  have HU:=HR.units
  have hA:=HR.hd
  have hz:(100000:Nat)≤sizeLine:=by rw [sizeLine_eq];decide
  refine⟨_,(pss_cons (ps_expr (z178 (pe_var (i:=0) (x:="self") rfl (vis_of z366) d_self e_self) T.cl_Book T.m_q0 G_q0 (HR.mono (by decide)) B_q0 .nil xw_fn.toXC (pa_cons (pe_var (i:=1) (x:="number") rfl (vis_of z278) z115 z117) pa_nil (stp rfl)) (hst:=stp rfl) (hpl:=anp rfl)))
 (pss_one (ps_expr (pe_dpop1 (pe_fld (pe_var (i:=0) (x:="self") rfl (vis_of z366) d_self e_self) (by rfl)) (pe_var (i:=1) (x:="number") rfl (vis_of z278) z115 z117) ⟨rfl,rfl,rfl,rfl⟩)))),?_⟩
  obtain⟨⟨dx,h1⟩,h2⟩:=id hb
  walk_at "RD"
  refine⟨_,_,h1,w_no d (by decide +kernel),p,d,es,n,rfl,hb,fun⟨e,he,ek⟩=>⟨_,_,_,h1,T.cl_Book,T.n_Book_ways,_,w_ways d,d,rfl,.inl ⟨_,.inl h2⟩,_,h2,.inl n,rfl,e.v,by rw [← ek];exact z134 nd he,?_⟩,he⟩
  rw [z651]
  exact hq ⟨e,he,ek⟩
theorem sc_q14:FnScope ["self","number"] ["self","number"] (defScope s_q14):=⟨rfl,rfl,rfl,by decide +kernel,rfl,by decide +kernel,by decide +kernel⟩
set_option maxHeartbeats 4000000 in
theorem ok_q14 {fd:FuncData}(F:Fun K "way" "Book.way" s_q14 ad.q14 fd) (T:Txt K mg ad){fd_q0:FuncData}(B_q0:Binds K fd_q0 ["self","number"] []) (G_q0:FnOk P w K mg base (CXE P w) 2 ad.q0 fd_q0 ["self","number"] (z384 ad)):FnOk P w K mg base (CXE P w) 3 ad.q14 fd ["self","number"] (spWayM ad):=by
 refine F.okR sc_q14 (fun vs H Q E h=>?_) (fun cdv A outer s H vs Q E HR h=>?_)
 ·obtain⟨p,d,es,n,rfl,_⟩:=h
  rfl
 ·obtain⟨p,d,es,n,rfl,hb,nd,hq,he⟩:=h
  have ND:=sc_q14.nd
  have HU0:=HR.units0
  have HU:=HR.units
  have hA:=HR.hd
  have hz:(100000:Nat)≤sizeLine:=by rw [sizeLine_eq];decide
  refine⟨_,(pss_cons (ps_expr (z178 (pe_var (i:=0) (x:="self") rfl (vis_of z321) d_self e_self) T.cl_Book T.m_q0 G_q0 (HR.mono (by decide)) B_q0 .nil xw_fn.toXC (pa_cons (pe_var (i:=1) (x:="number") rfl (vis_of z212) z115 z117) pa_nil (stp rfl)) (hst:=stp rfl) (hpl:=anp rfl)))
 (pss_one (ps_ret (pe_dget (hu1 HU) (pe_fld (pe_var (i:=0) (x:="self") rfl (vis_of z321) d_self e_self) (by rfl)) (pe_var (i:=1) (x:="number") rfl (vis_of z212) z115 z117) (fun _ _=>rfl))))),?_⟩
  obtain⟨⟨dx,h1⟩,h2⟩:=id hb
  walk_at "RD"
  exact⟨_,_,h1,w_no d (by decide +kernel),p,d,es,n,rfl,hb,fun⟨e,he,ek⟩=>⟨_,_,_,h1,T.cl_Book,T.n_Book_ways,_,w_ways d,d,rfl,e.v,by rw [← z134 nd he,← ek];exact DGet.k (k:=.inl e.k) h2,hq e he ek⟩,he⟩
theorem sc_q15:FnScope ["_law_script","_law_k"] ["_law_script","_law_k"] (defScope s_q15):=⟨rfl,rfl,rfl,by decide +kernel,rfl,by decide +kernel,by decide +kernel⟩
set_option maxHeartbeats 4000000 in
theorem ok_q15 {fd:FuncData}(F:Fun K "_law_cell_at" "_law_cell_at" s_q15 ad.q15 fd) (T:Txt K mg ad):FnOk P w K mg base CX0 1 ad.q15 fd ["_law_script","_law_k"] (spCell K):=by
 refine F.ok sc_q15 (fun vs H Q E h=>?_) (fun cdv A outer s H vs Q E HR h=>?_)
 ·obtain⟨a,ns,k,rfl,_⟩:=h
  rfl
 ·obtain⟨a,ns,k,rfl,hS,hb,h0,hq⟩:=h
  have ND:=sc_q15.nd
  have HU0:=HR.units0
  have HU:=HR.units
  have hA:=HR.hd
  have hz:(100000:Nat)≤sizeLine:=by rw [sizeLine_eq];decide
  refine⟨_,(pss_cons (ps_if (pt_cmpR op_lt (pe_var (i:=1) (x:="_law_k") rfl (vis_of z210) z102 z98) (pe_callB call_len_seq (gl_of z497) T.b_len PyProof.Rows.Boot.«len» (pa_cons (pe_var (i:=0) (x:="_law_script") rfl (vis_of z89) z13 z9) pa_nil (stp rfl)) (hn:=n_len) (hdb:=d_len) (he:=stp rfl) (hpl:=anp rfl)) (nomark _))
 (pss_one (ps_ret (pe_ix ix_list (pe_var (i:=0) (x:="_law_script") rfl (vis_of z89) z13 z9) (pe_var (i:=1) (x:="_law_k") rfl (vis_of z210) z102 z98) (fun _ _=>rfl))))
 pss_nil)
 (pss_one (ps_ret pe_int))),?_⟩
  walk_at "RD"
  refine⟨_,.inl hS,?_⟩
  split
  ·rename_i h
   rw [List.length_map] at h
   exact⟨_,hS,_,z468 h0 h,hq _ (hb _ (getD_in (by omega)))⟩
  ·exact hq 0 z500
theorem sc_q20:FnScope ["_law_cell","_law_k","_law_number"] ["_law_cell","_law_k"] (defScope s_q20):=⟨rfl,rfl,rfl,by decide +kernel,rfl,by decide +kernel,by decide +kernel⟩
set_option maxHeartbeats 4000000 in
theorem ok_q20 {fd:FuncData}(F:Fun K "_law_mixed" "_law_mixed" s_q20 ad.q20 fd) (T:Txt K mg ad):FnOk P w K mg base CX0 1 ad.q20 fd ["_law_cell","_law_k"] (z388):=by
 refine F.ok sc_q20 (fun vs H Q E h=>?_) (fun cdv A outer s H vs Q E HR h=>?_)
 ·obtain⟨c,k,rfl,_⟩:=h
  rfl
 ·obtain⟨c,k,rfl,hc,h0,h1,hq⟩:=h
  have ND:=sc_q20.nd
  have HU0:=HR.units0
  have HU:=HR.units
  have hA:=HR.hd
  have hz:(100000:Nat)≤sizeLine:=by rw [sizeLine_eq];decide
  refine⟨_,(pss_cons (ps_set (i:=2) ND rfl (loc_of (Or.inl z91)) (pe_op op_add (pe_op op_add (pe_var (i:=0) (x:="_law_cell") rfl (vis_of z247) z37 z41) (pe_op z474 pe_int (pe_var (i:=1) (x:="_law_k") rfl (vis_of z354) z102 z98))) pe_int))
 (pss_one (ps_ret (pe_op op_mod (pe_op z474 (pe_op op_mod (pe_op z474 (pe_var (i:=2) (x:="_law_number") rfl (vis_of z93) z17 z18) (pe_var (i:=2) (x:="_law_number") rfl (vis_of z93) z17 z18)) pe_int) pe_int) pe_int)))),?_⟩
  walk_at "RD"
  exact⟨CMul.ok (.inl ⟨by decide,by decide⟩),z421 hc hc (by omega) (by omega),by decide,CMul.ok (.inr ⟨by decide,by decide⟩),by decide,hq _ (Int.emod_nonneg _ (by decide)) (Int.emod_lt_of_pos _ (by decide))⟩
theorem sc_q21:FnScope ["_law_found"] ["_law_found"] (defScope s_q21):=⟨rfl,rfl,rfl,by decide +kernel,rfl,by decide +kernel,by decide +kernel⟩
set_option maxHeartbeats 4000000 in
theorem ok_q21 {fd:FuncData}(F:Fun K "_law_whole" "_law_whole" s_q21 ad.q21 fd) (T:Txt K mg ad):FnOk P w K mg base CX0 1 ad.q21 fd ["_law_found"] (z268 K):=by
 refine F.ok sc_q21 (fun vs H Q E h=>?_) (fun cdv A outer s H vs Q E HR h=>?_)
 ·obtain⟨x,rfl,_⟩:=h
  rfl
 ·obtain⟨x,rfl,ty,hq⟩:=h
  have ND:=sc_q21.nd
  have HU0:=HR.units0
  have HU:=HR.units
  have hA:=HR.hd
  have hz:(100000:Nat)≤sizeLine:=by rw [sizeLine_eq];decide
  refine⟨_,(pss_one (ps_ret (pe_and (pe_callB z56 (gl_of z101) T.b_isinstance PyProof.Rows.Boot.«isinstance» (pa_cons (pe_var (i:=0) (x:="_law_found") rfl (vis_of z123) z15 z14) (pa_cons (pe_bltn (v:=.ty "int") (gl_of z514) T.b_int PyProof.Rows.Boot.«int» rfl (hn:=n_int) (hd:=d_int)) pa_nil (stp rfl)) (stp rfl)) (hn:=z39) (hdb:=z36) (he:=stp rfl) (hpl:=anp rfl)) (pe_one (pe_not (pe_callB z56 (gl_of z101) T.b_isinstance PyProof.Rows.Boot.«isinstance» (pa_cons (pe_var (i:=0) (x:="_law_found") rfl (vis_of z123) z15 z14) (pa_cons (pe_bltn (v:=.ty "bool") (gl_of z461) T.b_bool PyProof.Rows.Boot.«bool» rfl (hn:=n_bool) (hd:=d_bool)) pa_nil (stp rfl)) (stp rfl)) (hn:=z39) (hdb:=z36) (he:=stp rfl) (hpl:=anp rfl))))))),?_⟩
  obtain⟨n,ty⟩:=ty
  have e1:=z554 ty
  have e2:=z480 ty
  walk_at "RD"
  refine⟨_,ty,_,e1,?_⟩
  cases hb:isIB x with
  | true=>
   rw [if_pos rfl]
   refine⟨_,ty,_,e2,?_⟩
   cases x <;> simp_all [isI,isB,isIB]
  | false=>
   rw [if_neg (by decide)]
   cases x <;> simp_all [isI,isB,isIB]
theorem z465:FnScope ["_law_way","_law_end","_law_found"] ["_law_way","_law_end"] (defScope z67):=⟨rfl,rfl,rfl,by decide +kernel,rfl,by decide +kernel,by decide +kernel⟩
set_option maxHeartbeats 4000000 in
theorem z603 {fd:FuncData}(F:Fun K "_law_rows" "_law_rows" z67 ad.Lrows fd) (T:Txt K mg ad):FnOk P w K mg base CX0 1 ad.Lrows fd ["_law_way","_law_end"] (spRows):=by
 refine F.ok z465 (fun vs H Q E h=>?_) (fun cdv A outer s H vs Q E HR h=>?_)
 ·obtain⟨v,b,c,e,rfl,_⟩:=h
  rfl
 ·obtain⟨v,b,c,e,rfl,hw,hc,hl,b0,b1,e0,e1,hq⟩:=h
  have ND:=z465.nd
  have HU0:=HR.units0
  have HU:=HR.units
  have hA:=HR.hd
  have hz:(100000:Nat)≤sizeLine:=by rw [sizeLine_eq];decide
  refine⟨_,(pss_cons (ps_set (i:=2) ND rfl (loc_of (Or.inl z75)) (pe_op op_cat (pe_op op_rep (pe_lst (pa_cons pe_non pa_nil (stp rfl))) (pe_ix ix_tup (pe_var (i:=0) (x:="_law_way") rfl (vis_of z121) z226 z208) pe_int (fun _ _=>rfl))) (pe_callTy call_list_of (gl_of z349) T.b_list PyProof.Rows.Boot.«list» (pa_cons (pe_ix ix_tup (pe_var (i:=0) (x:="_law_way") rfl (vis_of z121) z226 z208) pe_int (fun _ _=>rfl)) pa_nil (stp rfl)) (hn:=n_list) (hdb:=d_list) (he:=stp rfl) (hpl:=anp rfl))))
 (pss_cons (ps_while PassesOwn.never (pt_cmpR op_le (pe_callB call_len_seq (gl_of z414) T.b_len PyProof.Rows.Boot.«len» (pa_cons (pe_var (i:=2) (x:="_law_found") rfl (vis_of z26) z15 z14) pa_nil (stp rfl)) (hn:=n_len) (hdb:=d_len) (he:=stp rfl) (hpl:=anp rfl)) (pe_var (i:=1) (x:="_law_end") rfl (vis_of z215) z103 z110) (nomark _))
 (pss_one (ps_expr (pe_bm PySem.F.plainAttrs_list PySem.F.slot_list_append PySem.F.type_list_append mt_append (pe_var (i:=2) (x:="_law_found") rfl (vis_of z26) z15 z14) (pa_cons (pe_ix ix_list (pe_var (i:=2) (x:="_law_found") rfl (vis_of z26) z15 z14) (pe_un un_neg pe_int) (fun _ _=>rfl)) pa_nil (stp rfl))))))
 (pss_one (ps_ret (pe_var (i:=2) (x:="_law_found") rfl (vis_of z26) z15 z14))))),?_⟩
  obtain⟨p,q,rfl,h1,h2⟩:=id hw
  have lp:0 < c.length:=List.length_pos_iff.mpr hc
  walk_at "RD"
  refine⟨by omega,fun p1 n1=>?_⟩
  have s1:Same H (upd H p1 (HO.lst [V.non])):=z0 n1
  refine⟨_,SqT.of (s1 _ _ h1),_,rfl,_,rfl,_,upd_same,by omega,by omega,by simp only [List.length_cons,List.length_nil];omega,fun p2 n2=>?_⟩
  have s2:=s1.trans (z0 (o:=HO.lst (List.replicate b.toNat [V.non]).flatten) n2)
  refine⟨_,SqT.of (s2 _ _ h1),_,rfl,_,rfl,_,.inr (SqT.of (s2 _ _ h2)),fun l n3=>?_⟩
  have s3:=s2.trans (z0 (o:=HO.lst (c.map V.int)) n3)
  refine⟨_,by rw [upd_ne (fun z=>by rw [← z,upd_same] at n3;cases n3)];exact upd_same,_,upd_same,?_,fun p4 n4=>?_⟩
  ·rw [z598,List.length_map];omega
  have s4:=s3.trans (z0 (o:=HO.lst ((List.replicate b.toNat [V.non]).flatten++c.map V.int)) n4)
  have n40:H p4=none:=s3.free n4
  refine⟨fun m σ H'=>∃ i:Nat,b + (c.length:Int)≤i∧(i:Int)≤e + 1∧σ=[some (V.ref p),some (V.int e),some (V.ref p4)]∧H' p4=some (.lst ((List.range i).map fun j=>plc b c ((j:Nat):Int)))∧Same H H'∧m=e.toNat + 1 - i,⟨_,b.toNat + c.length,by omega,by omega,rfl,by rw [upd_same,z425 b0],s4,rfl⟩,?_⟩
  rintro m σ H' ⟨i,i0,i1,rfl,hp,sm,rfl⟩
  walk_at "RD"
  refine⟨_,.inl (SqL.of hp),?_⟩
  rw [List.length_map,List.length_range]
  split
  ·refine⟨fun σ' H''=>σ'=[some (V.ref p),some (V.int e),some (V.ref p4)]∧H''=upd H' p4 (HO.lst ((List.range i).map (fun j=>plc b c ((j:Nat):Int))++[plc b c (i:Int)])),?_,.inl ⟨rfl,_,SqL.of hp⟩,_,SqL.of hp,plc b c (i:Int),?_,_,hp,by rw [List.length_map,List.length_range];omega,rfl,rfl⟩
   ·rintro _ _ ⟨rfl,rfl⟩
    refine⟨_,?_,i + 1,by omega,by omega,rfl,?_,z232 sm n40,rfl⟩
    ·omega
    ·rw [upd_same,List.range_succ,List.map_append]
     rfl
   ·obtain⟨k,rfl⟩:∃ k,i=k + 1:=⟨i - 1,by omega⟩
    rw [List.range_succ,List.map_append,← z495 hc i0]
    exact atI_last _ _
  ·have hi:i=e.toNat + 1:=by omega
   rw [hi] at hp
   exact hq _ _ n40 sm hp
theorem sc_q16:FnScope ["_law_one","_law_other","_law_end","_law_mine","_law_yours","_law_time"] ["_law_one","_law_other"] (defScope s_q16):=⟨rfl,rfl,rfl,by decide +kernel,rfl,by decide +kernel,by decide +kernel⟩
set_option maxHeartbeats 4000000 in
theorem ok_q16 {fd:FuncData}(F:Fun K "_law_meeting" "_law_meeting" s_q16 ad.q16 fd) (T:Txt K mg ad){fd_Lrows:FuncData}(B_Lrows:Binds K fd_Lrows ["_law_way","_law_end"] []) (G_Lrows:FnOk P w K mg base CX0 1 ad.Lrows fd_Lrows ["_law_way","_law_end"] (spRows)):FnOk P w K mg base CX0 2 ad.q16 fd ["_law_one","_law_other"] (z301):=by
 refine F.ok sc_q16 (fun vs H Q E h=>?_) (fun cdv A outer s H vs Q E HR h=>?_)
 ·obtain⟨v,b,c,v',b',c',rfl,_⟩:=h
  rfl
 ·obtain⟨v,b,c,v',b',c',rfl,hw,hw',g,g',hq⟩:=h
  have ND:=sc_q16.nd
  have HU0:=HR.units0
  have HU:=HR.units
  have hA:=HR.hd
  have hz:(100000:Nat)≤sizeLine:=by rw [sizeLine_eq];decide
  refine⟨_,(pss_cons (ps_set (i:=2) ND rfl (loc_of (Or.inl z172)) (pe_op op_add pe_int (pe_callB (call_max2 rfl) (gl_of z520) T.b_max PyProof.Rows.Boot.«max» (pa_cons (pe_op op_add (pe_ix ix_tup (pe_var (i:=0) (x:="_law_one") rfl (vis_of z78) z74 z73) pe_int (fun _ _=>rfl)) (pe_callB call_len_seq (gl_of z365) T.b_len PyProof.Rows.Boot.«len» (pa_cons (pe_ix ix_tup (pe_var (i:=0) (x:="_law_one") rfl (vis_of z78) z74 z73) pe_int (fun _ _=>rfl)) pa_nil (stp rfl)) (hn:=n_len) (hdb:=d_len) (he:=stp rfl) (hpl:=anp rfl))) (pa_cons (pe_op op_add (pe_ix ix_tup (pe_var (i:=1) (x:="_law_other") rfl (vis_of z60) z43 z44) pe_int (fun _ _=>rfl)) (pe_callB call_len_seq (gl_of z365) T.b_len PyProof.Rows.Boot.«len» (pa_cons (pe_ix ix_tup (pe_var (i:=1) (x:="_law_other") rfl (vis_of z60) z43 z44) pe_int (fun _ _=>rfl)) pa_nil (stp rfl)) (hn:=n_len) (hdb:=d_len) (he:=stp rfl) (hpl:=anp rfl))) pa_nil (stp rfl)) (stp rfl)) (hn:=n_max) (hdb:=d_max) (he:=stp rfl) (hpl:=anp rfl))))
 (pss_cons (ps_set (i:=3) ND rfl (loc_of (Or.inl z147)) (pe_call G_Lrows (HR.mono (by decide)) (gl_of z144) T.mg_Lrows T.k_Lrows B_Lrows .nil pass0 (pa_cons (pe_var (i:=0) (x:="_law_one") rfl (vis_of z78) z74 z73) (pa_cons (pe_var (i:=2) (x:="_law_end") rfl (vis_of z79) z103 z110) pa_nil (stp rfl)) (stp rfl)) (hdb:=z181) (he:=stp rfl) (hpl:=anp rfl)))
 (pss_cons (ps_set (i:=4) ND rfl (loc_of (Or.inl z105)) (pe_call G_Lrows (HR.mono (by decide)) (gl_of z144) T.mg_Lrows T.k_Lrows B_Lrows .nil pass0 (pa_cons (pe_var (i:=1) (x:="_law_other") rfl (vis_of z60) z43 z44) (pa_cons (pe_var (i:=2) (x:="_law_end") rfl (vis_of z79) z103 z110) pa_nil (stp rfl)) (stp rfl)) (hdb:=z181) (he:=stp rfl) (hpl:=anp rfl)))
 (pss_cons (ps_for PassesOwn.never (calm0 rfl) (pi_range1 (gl_of z398) T.b_range (pa_cons (pe_var (i:=2) (x:="_law_end") rfl (vis_of z79) z103 z110) pa_nil (stp rfl)) (st1 rfl)) (pg_name (i:=5) ND rfl (loc_of (Or.inl z145)))
 (pss_cons (ps_if (PW.pt (pw_or (pt_cmpR op_isN (pe_ix ix_list (pe_var (i:=3) (x:="_law_mine") rfl (vis_of z45) z126 z124) (pe_var (i:=5) (x:="_law_time") rfl (vis_of v2) z24 z23) (fun _ _=>rfl)) pe_non (nomark _)) (pw_or1 (pt_cmpR op_isN (pe_ix ix_list (pe_var (i:=4) (x:="_law_yours") rfl (vis_of z34) z82 z85) (pe_var (i:=5) (x:="_law_time") rfl (vis_of v2) z24 z23) (fun _ _=>rfl)) pe_non (nomark _)))))
 (pss_one ps_continue)
 pss_nil)
 (pss_cons (ps_if (pt_cmpR op_eq (pe_ix ix_list (pe_var (i:=3) (x:="_law_mine") rfl (vis_of z45) z126 z124) (pe_var (i:=5) (x:="_law_time") rfl (vis_of v2) z24 z23) (fun _ _=>rfl)) (pe_ix ix_list (pe_var (i:=4) (x:="_law_yours") rfl (vis_of z34) z82 z85) (pe_var (i:=5) (x:="_law_time") rfl (vis_of v2) z24 z23) (fun _ _=>rfl)) (nomark _))
 (pss_one (ps_ret (pe_tup (pa_cons (pe_var (i:=5) (x:="_law_time") rfl (vis_of v2) z24 z23) (pa_cons pe_str pa_nil (stp rfl)) (stp rfl)))))
 pss_nil)
 (pss_one (ps_if (PW.pt (pw_and (pt_cmpR op_eq (pe_ix ix_list (pe_var (i:=3) (x:="_law_mine") rfl (vis_of z45) z126 z124) (pe_var (i:=5) (x:="_law_time") rfl (vis_of v2) z24 z23) (fun _ _=>rfl)) (pe_ix ix_list (pe_var (i:=4) (x:="_law_yours") rfl (vis_of z34) z82 z85) (pe_op op_add (pe_var (i:=5) (x:="_law_time") rfl (vis_of v2) z24 z23) pe_int) (fun _ _=>rfl)) (nomark _)) (pw_and1 (pt_cmpR op_eq (pe_ix ix_list (pe_var (i:=4) (x:="_law_yours") rfl (vis_of z34) z82 z85) (pe_var (i:=5) (x:="_law_time") rfl (vis_of v2) z24 z23) (fun _ _=>rfl)) (pe_ix ix_list (pe_var (i:=3) (x:="_law_mine") rfl (vis_of z45) z126 z124) (pe_op op_add (pe_var (i:=5) (x:="_law_time") rfl (vis_of v2) z24 z23) pe_int) (fun _ _=>rfl)) (nomark _)))))
 (pss_one (ps_ret (pe_tup (pa_cons (pe_var (i:=5) (x:="_law_time") rfl (vis_of v2) z24 z23) (pa_cons pe_str pa_nil (stp rfl)) (stp rfl)))))
 pss_nil)))))
 (pss_one (ps_ret pe_non)))))),?_⟩
  obtain⟨p,q,rfl,h1,h2⟩:=id hw
  obtain⟨p',q',rfl,h1',h2'⟩:=id hw'
  obtain⟨hc,hl,b0,b1⟩:=g
  obtain⟨hc',hl',b0',b1'⟩:=g'
  have lp:0 < c.length:=List.length_pos_iff.mpr hc
  have lp':0 < c'.length:=List.length_pos_iff.mpr hc'
  refine zz1 (fun σ H'=>∃ e:Int,b + (c.length:Int) + 4≤e∧b' + (c'.length:Int) + 4≤e∧e≤1000∧H'=H∧σ=[some (V.ref p),some (V.ref p'),some (V.int e),none,none,none]) (fun nx hk=>?_) ?_
  ·walk_at "RD"
   refine⟨_,SqT.of h1,_,rfl,_,SqT.of h1,_,rfl,_,rfl,_,.inr (SqT.of h2),_,rfl,_,SqT.of h1',_,rfl,_,SqT.of h1',_,rfl,_,rfl,_,.inr (SqT.of h2'),_,rfl,?_⟩
   rw [List.length_map,List.length_map]
   refine hk _ _ ⟨_,?_,?_,?_,rfl,rfl⟩ <;> split <;> omega
  rintro σ H1 ⟨e,e0,e0',e1,rfl,rfl⟩
  refine zz1 (fun σ H'=>∃ l,Same H1 H'∧H' l=some (.lst ((List.range (e.toNat + 1)).map fun i=>plc b c (i:Nat)))∧σ=[some (V.ref p),some (V.ref p'),some (V.int e),some (V.ref l),none,none]) (fun nx hk=>?_) ?_
  ·walk_at "RD"
   exact⟨_,b,c,e,rfl,hw,hc,hl,b0,b1,by omega,e1,fun l H' nl sm hl=>hk _ _ ⟨l,sm,hl,rfl⟩⟩
  rintro σ H2 ⟨l,s2,hl2,rfl⟩
  refine zz1 (fun σ H'=>∃ r,Same H2 H'∧H' r=some (.lst ((List.range (e.toNat + 1)).map fun i=>plc b' c' (i:Nat)))∧σ=[some (V.ref p),some (V.ref p'),some (V.int e),some (V.ref l),some (V.ref r),none]) (fun nx hk=>?_) ?_
  ·walk_at "RD"
   exact⟨_,b',c',e,rfl,hw'.same s2,hc',hl',b0',b1',by omega,e1,fun r H' nr sm hr=>hk _ _ ⟨r,sm,hr,rfl⟩⟩
  rintro σ H3 ⟨r,s3,hr3,rfl⟩
  have hl3:=s3 _ _ hl2
  have at1:∀ t:Int,0≤t→t≤e→atI ((List.range (e.toNat + 1)).map fun i=>plc b c (i:Nat)) t=some (plc b c t):=fun t h0 h1=>by
   obtain⟨j,rfl⟩:=Int.eq_ofNat_of_zero_le h0
   exact atI_nat (by rw [List.getElem?_map,List.getElem?_range (by omega)];rfl)
  have at2:∀ t:Int,0≤t→t≤e→atI ((List.range (e.toNat + 1)).map fun i=>plc b' c' (i:Nat)) t=some (plc b' c' t):=fun t h0 h1=>by
   obtain⟨j,rfl⟩:=Int.eq_ofNat_of_zero_le h0
   exact atI_nat (by rw [List.getElem?_map,List.getElem?_range (by omega)];rfl)
  walk_at "RD"
  refine⟨by omega,by omega,for_range (fun i σ H'=>∃ x,H'=H3∧σ=[some (V.ref p),some (V.ref p'),some (V.int e),some (V.ref l),some (V.ref r),x]∧∀ j:Nat,j < i→b≤j→b'≤j→mtAt b c b' c' (j:Int)=none) ⟨none,rfl,rfl,fun j hj=>absurd hj (Nat.not_lt_zero j)⟩ ?_ ?_⟩
  ·rintro i σ H' hi ⟨x,rfl,rfl,hn⟩
   have hie:(i:Int) + 1≤e:=by omega
   rw [Int.zero_add]
   walk_at "RD"
   have prev:∀ t',b≤t'→b'≤t'→t' < (i:Int)→mtAt b c b' c' t'=none:=fun t' y1 y2 y3=>by
    have:=hn t'.toNat (by omega) (by omega) (by omega)
    rw [show ((t'.toNat:Nat):Int)=t' by omega] at this
    exact this
   have more:(b≤(i:Int)→b'≤(i:Int)→mtAt b c b' c' (i:Int)=none)→∀ (j:Nat),j < i + 1→b≤(j:Int)→b'≤(j:Int)→mtAt b c b' c' (j:Int)=none:=fun y j hj y1 y2=>by
    rcases Nat.lt_succ_iff_lt_or_eq.mp hj with z | z
    ·exact hn j z y1 y2
    ·subst z
     exact y y1 y2
   have o1:=plc_or b c (i:Int)
   have o2:=plc_or b' c' (i:Int)
   have o3:=plc_or b c ((i:Int) + 1)
   have o4:=plc_or b' c' ((i:Int) + 1)
   have f1:=at1 (i:Int) (by omega) (by omega)
   have f2:=at2 (i:Int) (by omega) (by omega)
   have f3:=at1 ((i:Int) + 1) (by omega) (by omega)
   have f4:=at2 ((i:Int) + 1) (by omega) (by omega)
   refine⟨_,SqL.of hl3,_,f1,?_⟩
   by_cases g1:(i:Int) < b
   ·rw [if_pos (z114.mpr g1)]
    exact more fun y1 y2=>by omega
   rw [if_neg (fun z=>g1 (z114.mp z))]
   refine⟨_,SqL.of hr3,_,f2,?_⟩
   by_cases g2:(i:Int) < b'
   ·rw [if_pos (z114.mpr g2)]
    exact more fun y1 y2=>by omega
   rw [if_neg (fun z=>g2 (z114.mp z))]
   refine⟨_,SqL.of hl3,_,f1,_,SqL.of hr3,_,f2,sc_plc o1 o2,?_⟩
   by_cases e5:plc b c (i:Int)=plc b' c' (i:Int)
   ·rw [if_pos e5]
    exact⟨by omega,fun r' nr=>hq _ _ (some ((i:Int),sAt)) ((s2.trans s3).trans (z0 nr)) ⟨r',rfl,upd_same⟩ ⟨by omega,by omega,by unfold mtAt mw;rw [if_pos e5],prev⟩⟩
   rw [if_neg e5]
   refine⟨_,SqL.of hl3,_,f1,_,SqL.of hr3,_,f4,sc_plc o1 o4,?_⟩
   by_cases e6:plc b c (i:Int)=plc b' c' ((i:Int) + 1)
   ·rw [if_pos e6]
    refine⟨_,SqL.of hr3,_,f2,_,SqL.of hl3,_,f3,sc_plc o2 o3,?_⟩
    by_cases e7:plc b' c' (i:Int)=plc b c ((i:Int) + 1)
    ·rw [if_pos e7]
     exact⟨by omega,fun r' nr=>hq _ _ (some ((i:Int),z338)) ((s2.trans s3).trans (z0 nr)) ⟨r',rfl,upd_same⟩ ⟨by omega,by omega,by unfold mtAt mw;rw [if_neg e5,if_pos ⟨e7.symm,e6.symm⟩],prev⟩⟩
    ·rw [if_neg e7]
     exact more fun _ _=>by unfold mtAt mw;rw [if_neg e5,if_neg (fun z=>e7 z.1.symm)]
   ·rw [if_neg e6]
    exact more fun _ _=>by unfold mtAt mw;rw [if_neg e5,if_neg (fun z=>e6 z.2.symm)]
  ·rintro σ H' ⟨x,rfl,rfl,hn⟩
   walk_at "RD"
   refine hq _ _ none (s2.trans s3) rfl (First.none_of hc hc' (e:=e - 1) (by omega) (by omega) fun t' g1 g2 g3=>?_)
   have:=hn t'.toNat (by omega) (by omega) (by omega)
   rw [show ((t'.toNat:Nat):Int)=t' by omega] at this
   exact this
theorem sc_q5:FnScope ["_law_cell","_law_most","_law_size","_law_spot","_law_cells","_law_k","_law_number"] ["_law_cell","_law_most"] (defScope s_q5):=⟨rfl,rfl,rfl,by decide +kernel,rfl,by decide +kernel,by decide +kernel⟩
set_option maxHeartbeats 4000000 in
theorem ok_q5 {fd:FuncData}(F:Fun K "_law_drawn_way" "_law_drawn_way" s_q5 ad.q5 fd) (T:Txt K mg ad){fd_q20:FuncData}(B_q20:Binds K fd_q20 ["_law_cell","_law_k"] []) (G_q20:FnOk P w K mg base CX0 1 ad.q20 fd_q20 ["_law_cell","_law_k"] (z388)):FnOk P w K mg base CX0 2 ad.q5 fd ["_law_cell","_law_most"] (z459):=by
 refine F.ok sc_q5 (fun vs H Q E h=>?_) (fun cdv A outer s H vs Q E HR h=>?_)
 ·obtain⟨x,m,rfl,_⟩:=h
  rfl
 ·obtain⟨x,m,rfl,x0,x1,m0,m1,hq⟩:=h
  have ND:=sc_q5.nd
  have HU0:=HR.units0
  have HU:=HR.units
  have hA:=HR.hd
  have hz:(100000:Nat)≤sizeLine:=by rw [sizeLine_eq];decide
  refine⟨_,(pss_cons (ps_set (i:=2) ND rfl (loc_of (Or.inl z167)) (pe_op op_add pe_int (pe_op op_mod (pe_var (i:=0) (x:="_law_cell") rfl (vis_of z53) z37 z41) pe_int)))
 (pss_cons (ps_set (i:=3) ND rfl (loc_of (Or.inl z52)) (pe_op op_mod (pe_op op_fdiv (pe_var (i:=0) (x:="_law_cell") rfl (vis_of z53) z37 z41) pe_int) (pe_var (i:=1) (x:="_law_most") rfl (vis_of z33) z55 z54)))
 (pss_cons (ps_set (i:=4) ND rfl (loc_of (Or.inl z138)) (pe_lst pa_nil))
 (pss_cons (ps_for PassesOwn.never (calm0 rfl) (pi_range1 (gl_of z483) T.b_range (pa_cons (pe_var (i:=2) (x:="_law_size") rfl (vis_of z288) z399 z402) pa_nil (stp rfl)) (st1 rfl)) (pg_name (i:=5) ND rfl (loc_of (Or.inl z266)))
 (pss_cons (ps_expr (pe_bm PySem.F.plainAttrs_list PySem.F.slot_list_append PySem.F.type_list_append mt_append (pe_var (i:=4) (x:="_law_cells") rfl (vis_of z150) z211 z224) (pa_cons (pe_var (i:=3) (x:="_law_spot") rfl (vis_of z173) z270 z272) pa_nil (stp rfl))))
 (pss_cons (ps_set (i:=6) ND rfl (loc_of (Or.inl z120)) (pe_call G_q20 (HR.mono (by decide)) (gl_of z258) T.mg_q20 T.k_q20 B_q20 .nil pass0 (pa_cons (pe_var (i:=0) (x:="_law_cell") rfl (vis_of z53) z37 z41) (pa_cons (pe_var (i:=5) (x:="_law_k") rfl (vis_of z403) z102 z98) pa_nil (stp rfl)) (stp rfl)) (hdb:=z222) (he:=stp rfl) (hpl:=anp rfl)))
 (pss_one (ps_if (pt_cmpR op_eq (pe_op op_mod (pe_var (i:=6) (x:="_law_number") rfl (vis_of z35) z17 z18) pe_int) pe_int (nomark _))
 (pss_one (ps_set (i:=3) ND rfl (loc_of (Or.inl z52)) (pe_op op_mod (pe_op op_add (pe_var (i:=3) (x:="_law_spot") rfl (vis_of z173) z270 z272) (pe_ix ix_list (pe_lst (pa_cons pe_int (pa_cons (pe_op op_sub (pe_var (i:=1) (x:="_law_most") rfl (vis_of z33) z55 z54) pe_int) pa_nil (stp rfl)) (stp rfl))) (pe_op op_mod (pe_op op_fdiv (pe_var (i:=6) (x:="_law_number") rfl (vis_of z35) z17 z18) pe_int) pe_int) (fun _ _=>rfl))) (pe_var (i:=1) (x:="_law_most") rfl (vis_of z33) z55 z54))))
 (pss_one (ps_if (pt_cmpR op_eq (pe_op op_mod (pe_var (i:=6) (x:="_law_number") rfl (vis_of z35) z17 z18) pe_int) pe_int (nomark _))
 (pss_one (ps_set (i:=3) ND rfl (loc_of (Or.inl z52)) (pe_op op_mod (pe_op op_fdiv (pe_var (i:=6) (x:="_law_number") rfl (vis_of z35) z17 z18) pe_int) (pe_var (i:=1) (x:="_law_most") rfl (vis_of z33) z55 z54))))
 pss_nil)))))))
 (pss_one (ps_ret (pe_tup (pa_cons (pe_op op_mod (pe_op op_fdiv (pe_op op_fdiv (pe_var (i:=0) (x:="_law_cell") rfl (vis_of z53) z37 z41) pe_int) (pe_var (i:=1) (x:="_law_most") rfl (vis_of z33) z55 z54)) pe_int) (pa_cons (pe_callTy call_tuple_of (gl_of z467) T.b_tuple PyProof.Rows.Boot.«tuple» (pa_cons (pe_var (i:=4) (x:="_law_cells") rfl (vis_of z150) z211 z224) pa_nil (stp rfl)) (hn:=z544) (hdb:=z566) (he:=stp rfl) (hpl:=anp rfl)) pa_nil (stp rfl)) (stp rfl))))))))),?_⟩
  have hx:=z434 x0 (by omega)
  walk_at "RD"
  refine⟨by decide,⟨by decide,by decide⟩,by omega,Nat.zero_le _,fun l hl=>⟨by omega,by omega,for_range (fun i σ H'=>∃ (cs:List Int) (s:Int) (k n:Option V),σ=[some (V.int x),some (V.int m),some (V.int (1 + x % 7)),some (V.int s),some (V.ref l),k,n]∧H' l=some (.lst (cs.map V.int))∧cs.length=i∧Same H H') ⟨[],_,none,none,rfl,upd_same,rfl,z0 hl⟩ ?_ ?_⟩⟩
  ·rintro i σ H' hi ⟨cs,s,k,n,rfl,hl',hcs,sm⟩
   walk_at "RD"
   refine⟨.inl ⟨rfl,_,SqL.of hl'⟩,_,hl',by rw [List.length_map];omega,_,_,rfl,hx,by omega,by omega,fun r r0 r1=>⟨_,rfl,by decide,?_⟩⟩
   have sm2:Same H (upd H' l (HO.lst (cs.map V.int++[V.int s]))):=z232 sm hl
   have e2:upd H' l (HO.lst (cs.map V.int++[V.int s])) l=some (.lst ((cs++[s]).map V.int)):=by rw [upd_same];simp
   split
   ·refine⟨by omega,fun p np=>⟨_,rfl,⟨by decide,by decide⟩,by decide,_,SqL.of upd_same,?_⟩⟩
    have fin:∃ cs':List Int,upd (upd H' l (HO.lst (cs.map V.int++[V.int s]))) p (HO.lst [V.int 1,V.int (m - 1)]) l=some (HO.lst (cs'.map V.int))∧cs'.length=i + 1∧Same H (upd (upd H' l (HO.lst (cs.map V.int++[V.int s]))) p (HO.lst [V.int 1,V.int (m - 1)])):=
     ⟨_,(z0 np) _ _ e2,by simp;omega,sm2.trans (z0 np)⟩
    rcases (show r / 2 % 2=0∨r / 2 % 2=1 by omega) with z | z
    ·rw [z];exact⟨_,rfl,_,rfl,by omega,fin⟩
    ·rw [z];exact⟨_,rfl,_,rfl,by omega,fin⟩
   ·refine⟨_,rfl,by decide,?_⟩
    split
    ·exact⟨_,rfl,⟨by decide,by decide⟩,by omega,_,e2,by simp;omega,sm2⟩
    ·exact⟨_,e2,by simp;omega,sm2⟩
  ·rintro σ H' ⟨cs,s,k,n,rfl,hl',hcs,sm⟩
   walk_at "RD"
   refine⟨⟨by decide,by decide⟩,⟨by omega,by omega⟩,by decide,_,.inl ⟨SqL.of hl',fun q nq=>⟨by omega,fun p np=>hq _ _ cs _ ((sm.trans (z0 nq)).trans (z0 np)) ⟨p,q,rfl,upd_same,?_⟩ ⟨?_,by omega,by omega,by omega⟩⟩⟩⟩
   ·have n:q≠p:=fun z=>by rw [← z,upd_same] at np;cases np
    rw [upd_ne n,upd_same]
   ·intro z
    rw [z] at hcs
    simp at hcs
    omega
theorem sc_q17:FnScope ["_law_script","_law_many","_law_most","_law_ways","_law_k","_law_cell"] ["_law_script"] (defScope s_q17):=⟨rfl,rfl,rfl,by decide +kernel,rfl,by decide +kernel,by decide +kernel⟩
set_option maxHeartbeats 4000000 in
theorem ok_q17 {fd:FuncData}(F:Fun K "_law_ways_by" "_law_ways_by" s_q17 ad.q17 fd) (T:Txt K mg ad){fd_q15:FuncData}(B_q15:Binds K fd_q15 ["_law_script","_law_k"] []) (G_q15:FnOk P w K mg base CX0 1 ad.q15 fd_q15 ["_law_script","_law_k"] (spCell K)){fd_q20:FuncData}(B_q20:Binds K fd_q20 ["_law_cell","_law_k"] []) (G_q20:FnOk P w K mg base CX0 1 ad.q20 fd_q20 ["_law_cell","_law_k"] (z388)){fd_q5:FuncData}(B_q5:Binds K fd_q5 ["_law_cell","_law_most"] []) (G_q5:FnOk P w K mg base CX0 2 ad.q5 fd_q5 ["_law_cell","_law_most"] (z459)):FnOk P w K mg base CX0 3 ad.q17 fd ["_law_script"] (z337 K):=by
 refine F.ok sc_q17 (fun vs H Q E h=>?_) (fun cdv A outer s H vs Q E HR h=>?_)
 ·obtain⟨a,ns,rfl,_⟩:=h
  rfl
 ·obtain⟨a,ns,rfl,hS,hl,hbt,hq⟩:=h
  have ND:=sc_q17.nd
  have HU0:=HR.units0
  have HU:=HR.units
  have hA:=HR.hd
  have hz:(100000:Nat)≤sizeLine:=by rw [sizeLine_eq];decide
  refine⟨_,(pss_cons (ps_set (i:=1) ND rfl (loc_of (Or.inl z70)) (pe_op op_mod (pe_call G_q15 (HR.mono (by decide)) (gl_of z19) T.mg_q15 T.k_q15 B_q15 .nil pass0 (pa_cons (pe_var (i:=0) (x:="_law_script") rfl (vis_of z21) z13 z9) (pa_cons pe_int pa_nil (stp rfl)) (stp rfl)) (hdb:=z20) (he:=stp rfl) (hpl:=anp rfl)) pe_int))
 (pss_cons (ps_if (pt_cmpR op_eq (pe_op op_mod (pe_op op_fdiv (pe_call G_q15 (HR.mono (by decide)) (gl_of z19) T.mg_q15 T.k_q15 B_q15 .nil pass0 (pa_cons (pe_var (i:=0) (x:="_law_script") rfl (vis_of z21) z13 z9) (pa_cons pe_int pa_nil (stp rfl)) (stp rfl)) (hdb:=z20) (he:=stp rfl) (hpl:=anp rfl)) pe_int) pe_int) pe_int (nomark _))
 (pss_one (ps_set (i:=1) ND rfl (loc_of (Or.inl z70)) (pe_op op_add pe_int (pe_op op_mod (pe_op op_fdiv (pe_call G_q15 (HR.mono (by decide)) (gl_of z19) T.mg_q15 T.k_q15 B_q15 .nil pass0 (pa_cons (pe_var (i:=0) (x:="_law_script") rfl (vis_of z21) z13 z9) (pa_cons pe_int pa_nil (stp rfl)) (stp rfl)) (hdb:=z20) (he:=stp rfl) (hpl:=anp rfl)) pe_int) pe_int))))
 pss_nil)
 (pss_cons (ps_set (i:=2) ND rfl (loc_of (Or.inl z148)) (pe_ix ix_list (pe_lst (pa_cons pe_int (pa_cons pe_int (pa_cons pe_int pa_nil (stp rfl)) (stp rfl)) (stp rfl))) (pe_op op_mod (pe_call G_q15 (HR.mono (by decide)) (gl_of z19) T.mg_q15 T.k_q15 B_q15 .nil pass0 (pa_cons (pe_var (i:=0) (x:="_law_script") rfl (vis_of z21) z13 z9) (pa_cons pe_int pa_nil (stp rfl)) (stp rfl)) (hdb:=z20) (he:=stp rfl) (hpl:=anp rfl)) pe_int) (fun _ _=>rfl)))
 (pss_cons (ps_set (i:=3) ND rfl (loc_of (Or.inl z140)) pe_dnewK)
 (pss_cons (ps_for PassesOwn.never (calm0 rfl) (pi_range1 (gl_of z410) T.b_range (pa_cons (pe_var (i:=1) (x:="_law_many") rfl (vis_of z256) z413 z407) pa_nil (stp rfl)) (st1 rfl)) (pg_name (i:=4) ND rfl (loc_of (Or.inl z237)))
 (pss_cons (ps_set (i:=5) ND rfl (loc_of (Or.inl z139)) (pe_call G_q20 (HR.mono (by decide)) (gl_of z221) T.mg_q20 T.k_q20 B_q20 .nil pass0 (pa_cons (pe_call G_q15 (HR.mono (by decide)) (gl_of z19) T.mg_q15 T.k_q15 B_q15 .nil pass0 (pa_cons (pe_var (i:=0) (x:="_law_script") rfl (vis_of z21) z13 z9) (pa_cons (pe_op op_add pe_int (pe_op op_mod (pe_var (i:=4) (x:="_law_k") rfl (vis_of z84) z102 z98) pe_int)) pa_nil (stp rfl)) (stp rfl)) (hdb:=z20) (he:=stp rfl) (hpl:=anp rfl)) (pa_cons (pe_var (i:=4) (x:="_law_k") rfl (vis_of z84) z102 z98) pa_nil (stp rfl)) (stp rfl)) (hdb:=z222) (he:=stp rfl) (hpl:=anp rfl)))
 (pss_one (ps_dput (hu1 HU) (pe_var (i:=3) (x:="_law_ways") rfl (vis_of z136) v5 z6) (pe_ix ix_list (pe_lst (pa_cons (pe_op op_mul pe_int (pe_var (i:=4) (x:="_law_k") rfl (vis_of z84) z102 z98)) (pa_cons (pe_op op_sub (pe_op op_pow pe_int pe_int) (pe_var (i:=4) (x:="_law_k") rfl (vis_of z84) z102 z98)) pa_nil (stp rfl)) (stp rfl))) (pe_op op_mod (pe_var (i:=5) (x:="_law_cell") rfl (vis_of z142) z37 z41) pe_int) (fun _ _=>rfl)) (pe_call G_q5 (HR.mono (by decide)) (gl_of z154) T.mg_q5 T.k_q5 B_q5 .nil pass0 (pa_cons (pe_op op_fdiv (pe_var (i:=5) (x:="_law_cell") rfl (vis_of z142) z37 z41) pe_int) (pa_cons (pe_var (i:=2) (x:="_law_most") rfl (vis_of z252) z55 z54) pa_nil (stp rfl)) (stp rfl)) (hdb:=z229) (he:=stp rfl) (hpl:=anp rfl)) rfl))))
 (pss_one (ps_ret (pe_var (i:=3) (x:="_law_ways") rfl (vis_of z136) v5 z6)))))))),?_⟩
  refine zz1 (fun σ H'=>∃ m:Int,H'=H∧0≤m∧m≤7∧σ=[some (V.ref a),some (V.int m),none,none,none,none]) (fun nx hk=>?_) ?_
  ·walk_at "RD"
   exact⟨a,ns,_,rfl,hS,hbt,by decide,fun c cb=>⟨c,rfl,by decide,hk _ _ ⟨_,rfl,by omega,by omega,rfl⟩⟩⟩
  rintro σ H ⟨m,rfl,m0,m1,rfl⟩
  refine zz1 (fun σ H'=>∃ m:Int,H'=H∧0≤m∧m≤20∧σ=[some (V.ref a),some (V.int m),none,none,none,none]) (fun nx hk=>?_) ?_
  ·walk_at "RD"
   refine⟨a,ns,_,rfl,hS,hbt,by decide,fun c cb=>⟨c,rfl,⟨by decide,by decide⟩,by decide,?_⟩⟩
   split
   ·exact⟨a,ns,_,rfl,hS,hbt,by decide,fun c cb=>⟨c,rfl,⟨by decide,by decide⟩,by decide,hk _ _ ⟨_,rfl,by omega,by omega,rfl⟩⟩⟩
   ·exact hk _ _ ⟨_,rfl,m0,by omega,rfl⟩
  clear m0 m1
  rintro σ H ⟨m,rfl,m0,m1,rfl⟩
  refine zz1 (fun σ H'=>∃ mo:Int,1≤mo∧mo≤100∧Same H H'∧σ=[some (V.ref a),some (V.int m),some (V.int mo),none,none,none]) (fun nx hk=>?_) ?_
  ·walk_at "RD"
   refine⟨by omega,fun p np=>⟨a,ns,_,rfl,(z0 np).seq hS,hbt,by decide,fun c cb=>⟨c,rfl,by decide,_,SqL.of upd_same,?_⟩⟩⟩
   rcases (show c % 3=0∨c % 3=1∨c % 3=2 by omega) with z | z | z <;> rw [z]
   ·exact⟨_,rfl,hk _ _ ⟨4,by decide,by decide,z0 np,rfl⟩⟩
   ·exact⟨_,rfl,hk _ _ ⟨7,by decide,by decide,z0 np,rfl⟩⟩
   ·exact⟨_,rfl,hk _ _ ⟨14,by decide,by decide,z0 np,rfl⟩⟩
  rintro σ H1 ⟨mo,q0,q1,s1,rfl⟩
  refine zz1 (fun σ H'=>∃ wd,H wd=none∧Same H H'∧H' wd=some (.dK [])∧σ=[some (V.ref a),some (V.int m),some (V.int mo),some (V.ref wd),none,none]) (fun nx hk=>?_) ?_
  ·walk_at "RD"
   exact fun wd nw=>hk _ _ ⟨wd,s1.free nw,s1.trans (z0 nw),upd_same,rfl⟩
  rintro σ H2 ⟨wd,nw,s2,hw2,rfl⟩
  refine zz1 (fun σ H'=>∃ (es:List Ent) (x4 x5:Option V),Same H H'∧H' wd=some (.dK (dw es))∧Ents H' es∧es.length≤20∧σ=[some (V.ref a),some (V.int m),some (V.int mo),some (V.ref wd),x4,x5]) (fun nx hk=>?_) ?_
  ·walk_at "RDS"
   refine⟨by omega,by omega,for_range (n:=m.toNat) (fun j σ H'=>∃ (es:List Ent) (x4 x5:Option V),Same H H'∧H' wd=some (.dK (dw es))∧Ents H' es∧es.length≤j∧σ=[some (V.ref a),some (V.int m),some (V.int mo),some (V.ref wd),x4,x5]) ⟨[],none,none,s2,hw2,⟨(fun e he=>by cases he),List.nodup_nil⟩,Nat.le_refl _,rfl⟩ ?_ ?_⟩
   ·rintro j σ H3 hj ⟨es,x4,x5,s3,hw3,en3,ln3,rfl⟩
    walk_at "RD"
    refine⟨by decide,a,ns,_,rfl,Same.seq s3 hS,hbt,by omega,fun c cb=>⟨c,_,rfl,cb,by omega,by omega,fun x x0 x1=>?_⟩⟩
    refine⟨x,rfl,⟨by decide,by decide⟩,x / 2,mo,rfl,by omega,by omega,q0,q1,fun v b c' H4 s4 wy ty=>⟨.inl ⟨by decide,by decide⟩,⟨by decide,by decide,by decide⟩,by omega,fun p np=>⟨x,rfl,by decide,_,SqL.of upd_same,?_⟩⟩⟩
    have S5:=s4.trans (z0 (o:=HO.lst [V.int (3 * (0 + (j:Int))),V.int (10 ^ Int.toNat 6 - (0 + (j:Int)))]) np)
    have hat:∃ n:Int,atI [V.int (3 * (0 + (j:Int))),V.int (10 ^ Int.toNat 6 - (0 + (j:Int)))] (x % 2)=some (V.int n)∧KeyOk n:=by
     rcases (show x % 2=0∨x % 2=1 by omega) with z | z <;> rw [z]
     ·exact⟨_,rfl,j,by omega,.inl (by omega)⟩
     ·exact⟨_,rfl,j,by omega,.inr (by rw [show (10:Int) ^ Int.toNat 6=1000000 by decide];omega)⟩
    obtain⟨n,en',kn⟩:=hat
    have wy5:WayAt (upd H4 p (HO.lst [V.int (3 * (0 + (j:Int))),V.int (10 ^ Int.toNat 6 - (0 + (j:Int)))])) v b c':=wy.same (z0 np)
    have h5:=S5 _ _ hw3
    have en5:=en3.tups (z132 S5)
    have s5:=s3.trans S5
    generalize upd H4 p (HO.lst [V.int (3 * (0 + (j:Int))),V.int (10 ^ Int.toNat 6 - (0 + (j:Int)))])=H5 at S5 wy5 h5 en5 s5 ⊢
    refine⟨_,en',_,DPut.k (k:=.inl n) h5 (by rw [dw_len];omega),?_⟩
    rw [dw_put es ⟨n,v,b,c'⟩]
    have tp:Tups H5 (upd H5 wd (.dK (dw (putE es ⟨n,v,b,c'⟩)))):=(z81 (same_b (Same.refl _))).tups (k:=wd) fun xs z=>by rw [h5] at z;cases z
    refine⟨z232 s5 nw,_,upd_same,(en5.put ⟨wy5,ty,kn⟩).tups tp,?_,_,rfl⟩
    unfold putE
    split
    ·rw [List.length_map];omega
    ·rw [List.length_append];simp only [List.length_cons,List.length_nil];omega
   ·rintro σ H' ⟨es,x4,x5,s3,hw3,en3,ln3,rfl⟩
    exact hk _ _ ⟨es,x4,x5,s3,hw3,en3,by omega,rfl⟩
  rintro σ H3 ⟨es,x4,x5,s3,hw3,en3,ln3,rfl⟩
  walk_at "RD"
  exact hq wd es H3 nw s3 hw3 en3 ln3
theorem z549:FnScope ["_law_ways","_law_due_here","_law_one","_law_other","_law_pair"] ["_law_ways"] (defScope s_Ldue):=⟨rfl,rfl,rfl,by decide +kernel,rfl,by decide +kernel,by decide +kernel⟩
set_option maxHeartbeats 4000000 in
theorem z649 {fd:FuncData}(F:Fun K "_law_due" "_law_due" s_Ldue ad.Ldue fd) (T:Txt K mg ad){fd_q16:FuncData}(B_q16:Binds K fd_q16 ["_law_one","_law_other"] []) (G_q16:FnOk P w K mg base CX0 2 ad.q16 fd_q16 ["_law_one","_law_other"] (z301)):FnOk P w K mg base CX0 3 ad.Ldue fd ["_law_ways"] (z72):=by
 refine F.ok z549 (fun vs H Q E h=>?_) (fun cdv A outer s H vs Q E HR h=>?_)
 ·obtain⟨d,es,rfl,_⟩:=h
  rfl
 ·obtain⟨d,es,rfl,hd,en,lz,hq⟩:=h
  have ND:=z549.nd
  have HU0:=HR.units0
  have HU:=HR.units
  have hA:=HR.hd
  have hz:(100000:Nat)≤sizeLine:=by rw [sizeLine_eq];decide
  refine⟨_,(pss_cons (ps_set (i:=1) ND rfl (loc_of (Or.inl z57)) (pe_lst pa_nil))
 (pss_cons (z342 (ps_for PassesOwn.never (calm0 rfl) (z352 (pe_var (i:=0) (x:="_law_ways") rfl (vis_of z31) v5 z6)) (pg_name (i:=2) ND rfl (loc_of (Or.inl z153)))
 (pss_one (z342 (ps_for PassesOwn.never (calm0 rfl) (z352 (pe_var (i:=0) (x:="_law_ways") rfl (vis_of z31) v5 z6)) (pg_name (i:=3) ND rfl (loc_of (Or.inl z94)))
 (pss_cons (ps_set (i:=4) ND rfl (loc_of (Or.inl z63)) pe_non)
 (pss_cons (ps_if (pt_cmpR op_lt (pe_var (i:=2) (x:="_law_one") rfl (vis_of z71) z74 z73) (pe_var (i:=3) (x:="_law_other") rfl (vis_of z46) z43 z44) (nomark _))
 (pss_one (ps_set (i:=4) ND rfl (loc_of (Or.inl z63)) (pe_call G_q16 (HR.mono (by decide)) (gl_of z168) T.mg_q16 T.k_q16 B_q16 .nil pass0 (pa_cons (pe_dget (hu1 HU) (pe_var (i:=0) (x:="_law_ways") rfl (vis_of z31) v5 z6) (pe_var (i:=2) (x:="_law_one") rfl (vis_of z71) z74 z73) (fun _ _=>rfl)) (pa_cons (pe_dget (hu1 HU) (pe_var (i:=0) (x:="_law_ways") rfl (vis_of z31) v5 z6) (pe_var (i:=3) (x:="_law_other") rfl (vis_of z46) z43 z44) (fun _ _=>rfl)) pa_nil (stp rfl)) (stp rfl)) (hdb:=z290) (he:=stp rfl) (hpl:=anp rfl))))
 pss_nil)
 (pss_one (ps_if (pt_cmpR op_notN (pe_var (i:=4) (x:="_law_pair") rfl (vis_of z62) z186 z182) pe_non (nomark _))
 (pss_one (ps_expr (pe_bm PySem.F.plainAttrs_list PySem.F.slot_list_append PySem.F.type_list_append mt_append (pe_var (i:=1) (x:="_law_due_here") rfl (vis_of z61) z12 z10) (pa_cons (pe_tup (pa_cons (pe_ix ix_tup (pe_var (i:=4) (x:="_law_pair") rfl (vis_of z62) z186 z182) pe_int (fun _ _=>rfl)) (pa_cons (pe_var (i:=2) (x:="_law_one") rfl (vis_of z71) z74 z73) (pa_cons (pe_var (i:=3) (x:="_law_other") rfl (vis_of z46) z43 z44) (pa_cons (pe_ix ix_tup (pe_var (i:=4) (x:="_law_pair") rfl (vis_of z62) z186 z182) pe_int (fun _ _=>rfl)) pa_nil (stp rfl)) (stp rfl)) (stp rfl)) (stp rfl))) pa_nil (stp rfl)))))
 pss_nil)))))))))
 (pss_one (ps_ret (pe_callB z216 (gl_of z326) T.b_sorted PyProof.Rows.Boot.«sorted» (pa_cons (pe_var (i:=1) (x:="_law_due_here") rfl (vis_of z61) z12 z10) pa_nil (stp rfl)) (hn:=z176) (hdb:=z184) (he:=stp rfl) (hpl:=anp rfl)))))),?_⟩
  have nt:∀ xs,H d≠some (.tup xs):=fun xs z=>by rw [hd] at z;cases z
  refine zz1 (fun σ H'=>∃ fo,H fo=none∧H'=upd H fo (.lst [])∧σ=[some (V.ref d),some (V.ref fo),none,none,none]) (fun nx hk=>?_) ?_
  ·walk_at "RD"
   exact⟨Nat.zero_le _,fun fo nf=>hk _ _ ⟨fo,nf,rfl,rfl⟩⟩
  rintro σ _ ⟨fo,nf,rfl,rfl⟩
  have fd:fo≠d:=fun e=>by rw [e,hd] at nf;cases nf
  have hd1:=(z0 (o:=HO.lst []) nf) _ _ hd
  refine zz1 (fun σ H'=>∃ (rs:List (Addr × Q4)) (x2 x3 x4:Option V),Same H H'∧RowsAt H' fo rs∧RowsOk es (fun _ _=>True) (rs.map (·.2))∧rs.length≤400∧σ=[some (V.ref d),some (V.ref fo),x2,x3,x4]) (fun nx hk=>?_) ?_
  ·walk_at "RDS"
   refine .inl ⟨d,dw es,hd1,dw es,.inl ⟨hd1,fun o=>z367 (fun i σ H'=>∃ (rs:List (Addr × Q4)) (x2 x3 x4:Option V),SameB d H H'∧H' d=some (.frz o (.dK (dw es)))∧RowsAt H' fo rs∧RowsOk es (fun a b=>a∈(es.map (·.k)).take i) (rs.map (·.2))∧rs.length≤20 * i∧σ=[some (V.ref d),some (V.ref fo),x2,x3,x4]) ⟨[],none,none,none,z81 (same_b (z0 nf)),upd_same,⟨by rw [upd_ne fd];exact upd_same,fun r hr=>by cases hr⟩,⟨fun q=>by simp,List.nodup_nil⟩,Nat.le_refl _,rfl⟩ (fun i σ H' _ ⟨_,_,_,_,_,hf,_⟩=>hf) ?_ ?_⟩⟩
   ·rintro i k v' σ H2 hi ⟨rs,x2,x3,x4,sB,hf2,hr2,ok2,ln2,rfl⟩
    obtain⟨e,he,rfl,rfl⟩:=dw_at hi
    have hm:=List.mem_of_getElem? he
    have ha:(es.map (·.k))[i]?=some e.k:=by rw [List.getElem?_map,he];rfl
    have hi':i < es.length:=(List.getElem?_eq_some_iff.mp he).1
    walk_at "RDS"
    refine .inr ⟨dw es,.inr ⟨o,hf2,z367 (fun j σ H'=>∃ (rs:List (Addr × Q4)) (x3 x4:Option V),SameB d H H'∧H' d=some (.frz o (.dK (dw es)))∧RowsAt H' fo rs∧RowsOk es (Pij (es.map (·.k)) i (es.map (·.k)) j) (rs.map (·.2))∧rs.length≤20 * i + j∧σ=[some (V.ref d),some (V.ref fo),some (V.int e.k),x3,x4]) ⟨rs,_,_,sB,hf2,hr2,ok2.congr fun q m=>⟨.inl,fun z=>z.resolve_right fun y=>by simp at y⟩,ln2,rfl⟩ (fun i σ H' _ ⟨_,_,_,_,hf,_⟩=>hf) ?_ ?_⟩⟩
    ·rintro j k v' σ H4 hj ⟨rs,x3,x4,sB4,hf4,hr4,ok4,ln4,rfl⟩
     obtain⟨f,hf,rfl,rfl⟩:=dw_at hj
     have mf:=List.mem_of_getElem? hf
     have hb:(es.map (·.k))[j]?=some f.k:=by rw [List.getElem?_map,hf];rfl
     have hj':j < es.length:=(List.getElem?_eq_some_iff.mp hf).1
     have tp:=sB4.tups nt
     obtain⟨we,te,_⟩:=en.ok e hm
     obtain⟨wf,tf,_⟩:=en.ok f mf
     walk_at "RD"
     refine⟨f.k,rfl,?_⟩
     split
     ·rename_i lt
      refine⟨e.v,fz_get hf4 en.nd hm,f.v,fz_get hf4 en.nd mf,e.v,e.b,e.c,f.v,f.b,f.c,rfl,WayAt.tups tp we,WayAt.tups tp wf,te,tf,fun r H5 o2 s5 hr F=>?_⟩
      have sB5:SameB d H H5:=fun b o hb n=>s5 _ _ (sB4 b o hb n)
      show (if ¬ r=V.non then _ else _)
      cases o2 with
      | none=>
       rw [if_neg (by simp [show r=V.non from hr])]
       exact⟨sB5,s5 _ _ hf4,rs,hr4.same s5,(ok4.none en.nd hm mf F).congr fun q _=>z207 ha hb,by omega,_,rfl⟩
      | some tw=>
       obtain⟨t,w'⟩:=tw
       obtain⟨r',rfl,hr'⟩:=hr
       rw [if_pos (by simp)]
       refine⟨.inl ⟨rfl,_,SqL.of (s5 _ _ hr4.1)⟩,r',rfl,_,SqT.of hr',_,rfl,r',rfl,_,SqT.of hr',_,rfl,by omega,fun x nx=>?_⟩
       have S6:=z0 (o:=HO.tup [V.int t,V.int e.k,V.int f.k,V.str w']) nx
       refine⟨_,S6 _ _ (s5 _ _ hr4.1),by rw [List.length_map];omega,fun b o hb n=>by rw [upd_ne (ne_of_none hb nf)];exact S6 _ _ (sB5 b o hb n),by rw [upd_ne fd.symm];exact S6 _ _ (s5 _ _ hf4),rs++[(x,(t,e.k,f.k,w'))],z460 ((hr4.same s5).same S6) upd_same,?_,by rw [List.length_append];simp only [List.length_cons,List.length_nil];omega,_,rfl⟩
       rw [z419]
       exact(ok4.add en.nd hm mf lt F (z548 en.nd en.nd ha hb)).congr fun q _=>z207 ha hb
     ·rename_i nlt
      rw [if_neg (by simp)]
      exact⟨sB4,hf4,rs,hr4,(ok4.skip (a:=e.k) (b:=f.k) fun q ⟨e',_,f',_,a1,a2,a3,_⟩ z=>by omega).congr fun q _=>z207 ha hb,by omega,_,rfl⟩
    ·rintro σ H' ⟨rs,x3,x4,sB4,hf4,hr4,ok4,ln4,rfl⟩
     refine⟨sB4,hf4,rs,hr4,ok4.congr fun q m=>?_,by rw [dw_len] at ln4;omega,_,_,_,rfl⟩
     rw [z166 ha,dw_len]
     unfold Pij
     rw [List.take_of_length_le (i:=es.length) (by simp),ha]
     refine⟨fun z=>z.imp id fun y=>(Option.some.inj y.1).symm,fun z=>z.imp id fun y=>⟨by rw [y],?_⟩⟩
     obtain⟨_,_,f,hf,_,a2,_⟩:=m
     exact List.mem_map.mpr ⟨f,hf,a2⟩
   ·rintro σ H' ⟨rs,x2,x3,x4,sB,hf2,hr2,ok2,ln2,rfl⟩
    refine⟨⟨o,hf2⟩,hk _ _ ⟨rs,x2,x3,x4,z203 hd sB,⟨by rw [upd_ne fd];exact hr2.1,fun r hr=>?_⟩,ok2.congr fun q m=>⟨fun _=>trivial,fun _=>?_⟩,by rw [dw_len] at ln2;omega,rfl⟩⟩
    ·rw [upd_ne (fun e=>by have:=hr2.2 r hr;rw [e,hf2] at this;cases this)]
     exact hr2.2 r hr
    ·rw [dw_len,List.take_of_length_le (by simp)]
     obtain⟨e,he,_,_,a1,_⟩:=m
     exact List.mem_map.mpr ⟨e,he,a1⟩
  rintro σ H2 ⟨rs,x2,x3,x4,s2,hr2,ok2,ln2,rfl⟩
  walk_at "RD"
  obtain⟨ts,k,z,t1,t2,t3,t4,t5,t6⟩:=z264 en.nd hr2 ok2 (by omega)
  refine⟨ts,SqL.of t1,t2,k,z,t3,t4,t5,fun us pu su l nl=>?_⟩
  obtain⟨rs',r1,r2,r3⟩:=t6 us pu su l nl
  exact hq l rs' _ (s2.free nl) (s2.trans (z0 nl)) r1 r2 r3
theorem z553:FnScope ["_law_found","_law_due_here","_law_row"] ["_law_found","_law_due_here"] (defScope s_Lare):=⟨rfl,rfl,rfl,by decide +kernel,rfl,by decide +kernel,by decide +kernel⟩
set_option maxHeartbeats 4000000 in
theorem z613 {fd:FuncData}(F:Fun K "_law_are" "_law_are" s_Lare ad.Lare fd) (T:Txt K mg ad){fd_q21:FuncData}(B_q21:Binds K fd_q21 ["_law_found"] []) (G_q21:FnOk P w K mg base CX0 1 ad.q21 fd_q21 ["_law_found"] (z268 K)):FnOk P w K mg base CX0 2 ad.Lare fd ["_law_found","_law_due_here"] (spAre):=by
 refine F.ok z553 (fun vs H Q E h=>?_) (fun cdv A outer s H vs Q E HR h=>?_)
 ·obtain⟨f,g,rs,us,rfl,_⟩:=h
  rfl
 ·obtain⟨f,g,rs,us,rfl,hf,hg,er,lr,so,hq⟩:=h
  have ND:=z553.nd
  have HU0:=HR.units0
  have HU:=HR.units
  have hA:=HR.hd
  have hz:(100000:Nat)≤sizeLine:=by rw [sizeLine_eq];decide
  refine⟨_,(pss_cons (ps_if (PW.pt (pw_or (pt_not (pt_val (pe_callB z56 (gl_of z86) T.b_isinstance PyProof.Rows.Boot.«isinstance» (pa_cons (pe_var (i:=0) (x:="_law_found") rfl (vis_of z49) z15 z14) (pa_cons (pe_bltn (v:=.ty "list") (gl_of z416) T.b_list PyProof.Rows.Boot.«list» rfl (hn:=n_list) (hd:=d_list)) pa_nil (stp rfl)) (stp rfl)) (hn:=z39) (hdb:=z36) (he:=stp rfl) (hpl:=anp rfl)))) (pw_or1 (pt_cmpR (op_neD HU) (pe_var (i:=0) (x:="_law_found") rfl (vis_of z49) z15 z14) (pe_var (i:=1) (x:="_law_due_here") rfl (vis_of z158) z12 z10) (nomark _)))))
 (pss_one (ps_ret pe_bl))
 pss_nil)
 (pss_cons (ps_for PassesOwn.never (calm0 rfl) (pi_list (pe_var (i:=0) (x:="_law_found") rfl (vis_of z49) z15 z14)) (pg_name (i:=2) ND rfl (loc_of (Or.inl z129)))
 (pss_one (ps_if (PW.pt (pw_or (pt_not (pt_val (pe_callB z56 (gl_of z86) T.b_isinstance PyProof.Rows.Boot.«isinstance» (pa_cons (pe_var (i:=2) (x:="_law_row") rfl (vis_of z137) z315 z308) (pa_cons (pe_bltn (v:=.ty "tuple") (gl_of z351) T.b_tuple PyProof.Rows.Boot.«tuple» rfl (hn:=z544) (hd:=z566)) pa_nil (stp rfl)) (stp rfl)) (hn:=z39) (hdb:=z36) (he:=stp rfl) (hpl:=anp rfl)))) (pw_or1 (pt_not (pt_val (pe_callB z322 (gl_of z440) T.b_all PyProof.Rows.Boot.«all» (pa_cons (z228 (z8.of (osc:=defScope s_Lare) (tn:=["_law_part"]) (cn:=[]) (caps:=[]) rfl rfl (by decide +kernel) (by decide +kernel) (by decide +kernel) (by decide +kernel) rfl) (calm0 rfl)  (pi_tup (pe_slice z565 (pe_var (i:=2) (x:="_law_row") rfl (vis_of z137) z315 z308) po_none (po_some pe_int)))
 (fun _ _ _ _ _=>(pg_name (i:=0) (show (["_law_part"]:List Str).Nodup by decide +kernel) rfl (Or.inl rfl))) (fun _ _ _ _ _=>z333) (fun _ _ _ _ _=>(pe_call G_q21 (HR.mono (by decide)) (by rfl) T.mg_q21 T.k_q21 B_q21 .nil pass0 (pa_cons (pv 0) pa_nil (stp rfl)) (hdb:=z358) (he:=stp rfl) (hpl:=anp rfl)))) pa_nil (stp rfl)) (hn:=n_all) (hdb:=d_all) (he:=stp rfl) (hpl:=anp rfl)))))))
 (pss_one (ps_ret pe_bl))
 pss_nil)))
 (pss_one (ps_ret pe_bl)))),?_⟩
  have sh:=z357 so
  refine zz1 (fun σ H'=>H'=H∧σ=[some (V.ref f),some (V.ref g),none]) (fun nx hk=>?_) ?_
  ·walk_at "RD"
   refine⟨_,.lst hf.1,true,rfl,?_⟩
   rw [if_neg (by decide)]
   refine⟨_,z396 hf,_,z396 hg,sh,by rw [← er];exact sh,?_⟩
   rw [← er,z353 sh,if_neg (by decide)]
   exact hk _ _ ⟨rfl,rfl⟩
  rintro σ H ⟨rfl,rfl⟩
  refine zz1 (fun σ H'=>Same H H') (fun nx hk=>?_) (fun σ H' z=>hq _ z)
  walk_at "RDS"
  refine⟨⟨_,SqL.of hf.1⟩,for_list (K:=K) (a:=f) (xs:=rs.map fun r=>V.ref r.1) (fun j σ H'=>∃ x2:Option V,Same H H'∧σ=[some (V.ref f),some (V.ref g),x2]) ⟨none,Same.refl _,rfl⟩ ?_ ?_ ?_⟩
  ·rintro j σ H' _ ⟨_,s,_⟩
   exact SqL.of (s _ _ hf.1)
  ·rintro j y σ H' hy ⟨x2,s,rfl⟩
   rw [List.getElem?_map] at hy
   obtain⟨r,hr,rfl⟩:=Option.map_eq_some_iff.mp hy
   have ht:=s _ _ (hf.2 r (List.mem_of_getElem? hr))
   walk_at "RD"
   refine⟨_,.tup ht,true,rfl,?_⟩
   rw [if_neg (by decide)]
   refine⟨_,SqT.of ht,fun z=>absurd z.2 (show ¬ HT.sIx 4 4 (some 3)=4 by decide),fun _ p np=>?_⟩
   rw [show cutV (qv r.2) none (some 3)=[V.int r.2.1,V.int r.2.2.1,V.int r.2.2.2.1] from rfl] at *
   refine⟨⟨_,SqT.of upd_same⟩,z380 (z642 (SqT.of upd_same)) (fun _=>true) (fun _=>V.bl true) (fun y hy Q' hh=>hh) (fun y hy _ Q' hh=>?_) (by simp only [List.length_cons,List.length_nil];omega) ?_⟩
   ·have:∃ i,y=V.int i:=by
     simp only [List.mem_cons,List.not_mem_nil,or_false] at hy
     rcases hy with rfl | rfl | rfl <;> exact⟨_,rfl⟩
    obtain⟨i,rfl⟩:=this
    walk_at "RD"
    exact⟨_,rfl,⟨_,.int i⟩,hh⟩
   ·intro D nD
    refine⟨hA,[true,true,true],SqL.of upd_same,?_⟩
    rw [if_neg (by decide)]
    exact⟨s.trans ((z0 np).trans (z0 nD)),_,rfl⟩
  ·rintro σ H' ⟨x2,s,rfl⟩
   exact hk _ _ s
theorem sc_q22:FnScope ["_law_ways","_law_end","_law_rows_here","_law_time","_law_here","_law_steps"] ["_law_ways"] (defScope s_q22):=⟨rfl,rfl,rfl,by decide +kernel,rfl,by decide +kernel,by decide +kernel⟩
set_option maxHeartbeats 4000000 in
theorem ok_q22 {fd:FuncData}(F:Fun K "_law_never" "_law_never" s_q22 ad.q22 fd) (T:Txt K mg ad){fd_Lrows:FuncData}(B_Lrows:Binds K fd_Lrows ["_law_way","_law_end"] []) (G_Lrows:FnOk P w K mg base CX0 1 ad.Lrows fd_Lrows ["_law_way","_law_end"] (spRows)):FnOk P w K mg base CX0 2 ad.q22 fd ["_law_ways"] (z492):=by
 refine F.ok sc_q22 (fun vs H Q E h=>?_) (fun cdv A outer s H vs Q E HR h=>?_)
 ·obtain⟨d,es,rfl,_⟩:=h
  rfl
 ·obtain⟨d,es,rfl,hd,en,ap,lz,hq⟩:=h
  have ND:=sc_q22.nd
  have HU0:=HR.units0
  have HU:=HR.units
  have hA:=HR.hd
  have hz:(100000:Nat)≤sizeLine:=by rw [sizeLine_eq];decide
  refine⟨_,(pss_cons (ps_set (i:=1) ND rfl (loc_of (Or.inr z160)) (pe_op op_add pe_int (z622 rfl (gl_of z505) T.b_max (pa_cons (z487 (z228 (z8.of (osc:=defScope s_q22) (tn:=["_law_way"]) (cn:=[]) (caps:=[]) rfl rfl (by decide +kernel) (by decide +kernel) (by decide +kernel) (by decide +kernel) rfl) (calm0 rfl)  (z559 (pe_var (i:=0) (x:="_law_ways") rfl (vis_of z130) v5 z6))
 (fun _ _ _ _ _=>(pg_name (i:=0) (show (["_law_way"]:List Str).Nodup by decide +kernel) rfl (Or.inl rfl))) (fun _ _ _ _ _=>z333) (fun _ _ _ _ _=>(pe_op op_add (pe_ix (z267 (K:=K) rfl) (pv 0) pe_int (fun _ _=>rfl)) (pe_callB (z304 (K:=K) rfl) (by rfl) T.b_len PyProof.Rows.Boot.«len» (pa_cons (pe_ix (z267 (K:=K) rfl) (pv 0) pe_int (fun _ _=>rfl)) pa_nil (stp rfl)) (hn:=n_len) (hdb:=d_len) (he:=stp rfl) (hpl:=anp rfl)))))) pa_nil (stp rfl)) pe_int (st1 rfl))))
 (pss_cons (z342 (z324 (i:=2) (z8.of (osc:=defScope s_q22) (tn:=["_law_way"]) (cn:=["_law_end"]) (caps:=[1]) rfl rfl (by decide +kernel) (by decide +kernel) (by decide +kernel) (by decide +kernel) rfl) (calm0 rfl) ND rfl z59 (z559 (pe_var (i:=0) (x:="_law_ways") rfl (vis_of z130) v5 z6))
 (fun _ _ _ _ _=>(pg_name (i:=0) (show (["_law_way","_law_end"]:List Str).Nodup by decide +kernel) rfl (Or.inl rfl))) (fun _ _ _ _ _=>z333) (fun _ _ _ _ _=>(pe_call G_Lrows (HR.mono (by decide)) (by rfl) T.mg_Lrows T.k_Lrows B_Lrows .nil pass0 (pa_cons (pv 0) (pa_cons (pv 1) pa_nil (stp rfl)) (stp rfl)) (hdb:=z181) (he:=stp rfl) (hpl:=anp rfl))) (hsw:=by rfl)))
 (pss_cons (ps_for PassesOwn.never (calm0 rfl) (pi_range1 (gl_of z400) T.b_range (pa_cons (pe_var (i:=1) (x:="_law_end") rfl (vis_of z302) z103 z110) pa_nil (stp rfl)) (st1 rfl)) (pg_name (i:=3) ND rfl (loc_of (Or.inr z251)))
 (pss_cons (z324 (i:=4) (z8.of (osc:=defScope s_q22) (tn:=["_law_row"]) (cn:=["_law_time"]) (caps:=[3]) rfl rfl (by decide +kernel) (by decide +kernel) (by decide +kernel) (by decide +kernel) rfl) (calm0 rfl) ND rfl z135 (pi_list (pe_var (i:=2) (x:="_law_rows_here") rfl (vis_of z58) z108 z111))
 (fun _ _ _ _ _=>(pg_name (i:=0) (show (["_law_row","_law_time"]:List Str).Nodup by decide +kernel) rfl (Or.inl rfl))) (fun _ _ _ _ _=>(z240 (pt_cmpR op_notN (pe_ix (z189 (K:=K) rfl) (pv 0) (pv 1) (fun _ _=>rfl)) pe_non (nomark _)))) (fun _ _ _ _ _=>(pe_ix (z189 (K:=K) rfl) (pv 0) (pv 1) (fun _ _=>rfl))) (hsw:=by rfl))
 (pss_cons (ps_set (i:=5) ND rfl (loc_of (Or.inr z97)) (z228 (z8.of (osc:=defScope s_q22) (tn:=["_law_row"]) (cn:=["_law_time"]) (caps:=[3]) rfl rfl (by decide +kernel) (by decide +kernel) (by decide +kernel) (by decide +kernel) rfl) (calm0 rfl)  (pi_list (pe_var (i:=2) (x:="_law_rows_here") rfl (vis_of z58) z108 z111))
 (fun _ _ _ _ _=>(pg_name (i:=0) (show (["_law_row","_law_time"]:List Str).Nodup by decide +kernel) rfl (Or.inl rfl))) (fun _ _ _ _ _=>(z240 (pt_cmpR op_ne (pe_ix (z189 (K:=K) rfl) (pv 0) (pv 1) (fun _ _=>rfl)) (pe_ix (z189 (K:=K) rfl) (pv 0) (pe_op op_add (pv 1) pe_int) (fun _ _=>rfl)) (nomark _)))) (fun _ _ _ _ _=>(pe_tup (pa_cons (pe_ix (z189 (K:=K) rfl) (pv 0) (pv 1) (fun _ _=>rfl)) (pa_cons (pe_ix (z189 (K:=K) rfl) (pv 0) (pe_op op_add (pv 1) pe_int) (fun _ _=>rfl)) pa_nil (stp rfl)) (stp rfl))))))
 (pss_one (ps_if (PW.pt (pw_or (pt_cmpR op_lt (z531 rfl (gl_of z383) T.b_len (gl_of z501) T.b_set (pa_cons (pe_var (i:=4) (x:="_law_here") rfl (vis_of z131) z261 z271) pa_nil (stp rfl)) (st1 rfl) (st1 rfl)) (pe_callB call_len_seq (gl_of z383) T.b_len PyProof.Rows.Boot.«len» (pa_cons (pe_var (i:=4) (x:="_law_here") rfl (vis_of z131) z261 z271) pa_nil (stp rfl)) (hn:=n_len) (hdb:=d_len) (he:=stp rfl) (hpl:=anp rfl)) (nomark _)) (pw_or1 (pt_cmpR (op_neD HU) (z228 (z8.of (osc:=defScope s_q22) (tn:=["_law_step"]) (cn:=["_law_steps"]) (caps:=[5]) rfl rfl (by decide +kernel) (by decide +kernel) (by decide +kernel) (by decide +kernel) rfl) (calm0 rfl)  (pi_list (pe_var (i:=5) (x:="_law_steps") rfl (vis_of z244) z336 z335))
 (fun _ _ _ _ _=>(pg_name (i:=0) (show (["_law_step","_law_steps"]:List Str).Nodup by decide +kernel) rfl (Or.inl rfl))) (fun _ _ _ _ _=>(z240 (pt_cmpR (z634 (K:=K) rfl (hu65 HR)) (pe_tup (pa_cons (pe_ix (z267 (K:=K) rfl) (pv 0) pe_int (fun _ _=>rfl)) (pa_cons (pe_ix (z267 (K:=K) rfl) (pv 0) pe_int (fun _ _=>rfl)) pa_nil (stp rfl)) (stp rfl))) (pv 1) (by with_unfolding_all rfl)))) (fun _ _ _ _ _=>(pv 0))) (pe_lst pa_nil) (nomark _)))))
 (pss_one (ps_ret pe_bl))
 pss_nil)))))
 (pss_one (ps_ret pe_bl))))),?_⟩
  have nt:∀ xs,H d≠some (.tup xs):=fun xs z=>by rw [hd] at z;cases z
  refine zz1 (fun σ H'=>∃ E:Int,Same H H'∧EndIs es E∧σ=[some (V.ref d),some (V.int E),none,none,none,none]) (fun nx hk=>?_) ?_
  ·walk_at "RD"
   refine .inl ⟨d,dw es,hd,dw es,hd,fun o=>?_⟩
   have S:SrcIs (Itv d o (dw es)) (upd H d (.frz o (.dK (dw es)))) (es.map (·.v)):=by
    have:=z576 (a:=d) (o:=o) (kvs:=dw es) (H:=upd H d (.frz o (.dK (dw es)))) upd_same
    rw [z623] at this
    exact this
   have sf:SameB d H (upd H d (.frz o (.dK (dw es)))):=z81 (same_b (Same.refl _))
   refine z444 (g:=fun e=>.int (endT e)) S (fun _=>true) (fun y hy Q' hh=>hh) (fun e he _ Q' hh=>?_) (by omega) (fun D nD=>?_)
   ·obtain⟨q,w,ev,h3,h4⟩:=WayAt.tups (sf.tups nt) (en.ok e he).1
    walk_at "RD"
    exact⟨q,ev,_,SqT.of h3,_,rfl,q,ev,_,SqT.of h3,_,rfl,w,rfl,_,.inr (SqT.of h4),_,rfl,by rw [List.length_map];exact hh⟩
   ·have Dd:D≠d:=fun z=>by rw [z,upd_same] at nD;cases nD
    rw [List.filter_eq_self.mpr (fun _ _=>rfl)]
    exact⟨⟨o,by rw [upd_ne Dd.symm,upd_same]⟩,es.map endT,SqL.of (by rw [upd_ne Dd,upd_same,List.map_map];rfl),fun m hm=>hk _ _ ⟨_,z203 hd (sf.new nD),end_of en hm,rfl⟩⟩
  rintro σ H1 ⟨E,s1,⟨e3,e303,hE⟩,rfl⟩
  have hd1:=s1 _ _ hd
  refine zz1 (fun σ H'=>∃ (rh:Addr) (rs:List (Addr × Ent)),Same H H'∧H' rh=some (.lst (rs.map fun r=>.ref r.1))∧rs.map (·.2)=es∧(∀ r∈rs,H' r.1=some (.lst ((List.range (E.toNat + 1)).map fun i=>plE r.2 (i:Nat))))∧σ=[some (V.ref d),some (V.int E),some (V.ref rh),none,none,none]) (fun nx hk=>?_) ?_
  ·walk_at "RD"
   refine .inl ⟨d,dw es,hd1,dw es,hd1,fun o=>z635 (n:=es.length) (x:=fun i=>(es.map (·.v)).getD i .non) (fun i ys H'=>SameB d H1 H'∧H' d=some (.frz o (.dK (dw es)))∧∃ rs:List (Addr × Ent),ys=(rs.map fun r=>V.ref r.1)∧rs.map (·.2)=es.take i∧∀ r∈rs,H' r.1=some (.lst ((List.range (E.toNat + 1)).map fun i=>plE r.2 (i:Nat)))) ⟨z81 (same_b (Same.refl _)),upd_same,[],rfl,by simp,(fun r hr=>by cases hr)⟩ ?_ ?_ ?_ ?_⟩
   ·rintro i ys H' hi ⟨sB,hf,_⟩
    refine⟨⟨hf,by rw [dw_len];exact hi⟩,fun y H'' ⟨e1,k,e2⟩=>⟨e1,?_⟩⟩
    obtain⟨e,he,_,rfl⟩:=dw_at e2
    simp [he]
   ·rintro ys H' ⟨sB,hf,_⟩
    exact⟨hf,by rw [dw_len];exact Nat.le_refl _⟩
   ·rintro i ys H' hi ⟨sB,hf,rs,rfl,er,hrs⟩
    obtain⟨e,he⟩:∃ e,es[i]?=some e:=⟨_,List.getElem?_eq_getElem hi⟩
    have hm:=List.mem_of_getElem? he
    have ev:(es.map (·.v)).getD i .non=e.v:=by simp [he]
    obtain⟨t1,t2,t3,t4⟩:=(en.ok e hm).2.1
    have hEe:=hE e hm
    have li:rs.length=i:=by
     have:=congrArg List.length er
     rw [List.length_map,List.length_take] at this
     omega
    walk_at "RD"
    dsimp only [tYes]
    rw [if_pos rfl,ev]
    refine⟨e.v,e.b,e.c,E,rfl,WayAt.tups (sB.tups fun xs z=>by rw [hd1] at z;cases z) ((en.tups (z132 s1)).ok e hm).1,t1,t2,t3,t4,by omega,by omega,fun l H5 nl s5 hl=>⟨by rw [List.length_map];omega,fun b o hb n=>s5 _ _ (sB b o hb n),s5 _ _ hf,rs++[(l,e)],by rw [List.map_append];rfl,by rw [List.map_append,er,List.take_succ,he];rfl,fun r hr=>?_⟩⟩
    rcases List.mem_append.mp hr with hr | hr
    ·exact s5 _ _ (hrs r hr)
    ·rw [List.mem_singleton.mp hr]
     exact hl
   ·rintro ys H' ⟨sB,hf,rs,rfl,er,hrs⟩
    rw [List.take_length] at er
    have lr:rs.length=es.length:=by rw [← er,List.length_map]
    refine⟨by rw [List.length_map];omega,fun p np=>⟨⟨o,(z0 np) _ _ hf⟩,hk _ _ ⟨p,rs,s1.trans (z203 hd1 (sB.new np)),?_,er,fun r hr=>?_,rfl⟩⟩⟩
    ·have:p≠d:=fun e=>by rw [e,hf] at np;cases np
     rw [upd_ne this,upd_same]
    ·have h:=(z0 (o:=HO.lst (rs.map fun r=>V.ref r.1)) np) _ _ (hrs r hr)
     rw [upd_ne (fun e=>by rw [e,(z0 np) _ _ hf] at h;cases h)]
     exact h
  rintro σ H2 ⟨rh,rs,s2,hr2,er,hrs,rfl⟩
  have lr:rs.length=es.length:=by rw [← er,List.length_map]
  refine zz1 (fun σ H'=>Same H H') (fun nx hk=>?_) (fun σ H' z=>hq _ z)
  walk_at "RDS"
  refine⟨by omega,by omega,for_range (n:=E.toNat) (fun t σ H'=>∃ x3 x4 x5:Option V,Same H2 H'∧σ=[some (V.ref d),some (V.int E),some (V.ref rh),x3,x4,x5]) ⟨none,none,none,Same.refl _,rfl⟩ ?_ ?_⟩
  ·rintro t σ H3 ht ⟨x3,x4,x5,s3,rfl⟩
   have hrs3:∀ r∈rs,H3 r.1=some (.lst ((List.range (E.toNat + 1)).map fun i=>plE r.2 (i:Nat))):=fun r hr=>s3 _ _ (hrs r hr)
   have at0:∀ e:Ent,atI ((List.range (E.toNat + 1)).map fun i=>plE e (i:Nat)) (0 + (t:Int))=some (plE e (t:Int)):=fun e=>by
    rw [Int.zero_add]
    refine atI_nat ?_
    rw [List.getElem?_map,List.getElem?_range (by omega)]
    rfl
   have at1:∀ e:Ent,atI ((List.range (E.toNat + 1)).map fun i=>plE e (i:Nat)) (0 + (t:Int) + 1)=some (plE e ((t:Int) + 1)):=fun e=>by
    rw [show (0:Int) + (t:Int) + 1=((t + 1:Nat):Int) by omega]
    refine atI_nat ?_
    rw [List.getElem?_map,List.getElem?_range (by omega)]
    show some (plE e ((t + 1:Nat):Int))=_
    rw [show ((t + 1:Nat):Int)=(t:Int) + 1 by omega]
   simp only [gName,List.set_cons_succ,List.set_cons_zero]
   refine zz1 (fun σ H'=>∃ ha,Same H2 H'∧H' ha=some (.lst (((rs.filter fun r=>decide (plE r.2 (t:Int)≠.non)).map fun r=>zI r.2 (t:Int)).map V.int))∧σ=[some (V.ref d),some (V.int E),some (V.ref rh),some (V.int (0 + (t:Int))),some (V.ref ha),x5]) (fun nx hk=>?_) ?_
   ·walk_at "RD"
    refine⟨⟨_,SqL.of (s3 _ _ hr2)⟩,z444 (as:=rs) (u:=fun r=>.ref r.1) (g:=fun r=>.int (zI r.2 (t:Int))) (src_list (SqL.of (s3 _ _ hr2))) (fun r=>decide (plE r.2 (t:Int)≠.non)) (fun r hr Q' hh=>?_) (fun r hr hp Q' hh=>?_) (by omega) (fun D nD=>?_)⟩
    ·walk_at "RD"
     refine⟨_,SqL.of (hrs3 r hr),_,at0 r.2,?_⟩
     simpa using hh
    ·walk_at "RD"
     have hp:=z458 (of_decide_eq_true hp)
     exact⟨_,SqL.of (hrs3 r hr),_,at0 r.2,by rw [hp];exact hh⟩
    ·exact hk _ _ ⟨D,s3.trans (z0 nD),by rw [upd_same,List.map_map];rfl,rfl⟩
   rintro σ H4 ⟨ha,s4,hh4,rfl⟩
   have hrs4:∀ r∈rs,H4 r.1=some (.lst ((List.range (E.toNat + 1)).map fun i=>plE r.2 (i:Nat))):=fun r hr=>s4 _ _ (hrs r hr)
   refine zz1 (fun σ H'=>∃ (sa:Addr) (ts:List (Addr × Ent)),Same H4 H'∧H' sa=some (.lst (ts.map fun r=>.ref r.1))∧(∀ x∈ts,H' x.1=some (.tup [plE x.2 (t:Int),plE x.2 ((t:Int) + 1)])∧x.2∈es∧plE x.2 (t:Int)≠plE x.2 ((t:Int) + 1))∧ts.length≤20∧σ=[some (V.ref d),some (V.int E),some (V.ref rh),some (V.int (0 + (t:Int))),some (V.ref ha),some (V.ref sa)]) (fun nx hk=>?_) ?_
   ·walk_at "RD"
    refine⟨⟨_,SqL.of (s4 _ _ hr2)⟩,z127 (K:=K) (a:=rh) (xs:=rs.map fun r=>.ref r.1) (fun i ys H'=>Same H4 H'∧∃ ts:List (Addr × Ent),ys=(ts.map fun r=>V.ref r.1)∧(∀ x∈ts,H' x.1=some (.tup [plE x.2 (t:Int),plE x.2 ((t:Int) + 1)])∧x.2∈es∧plE x.2 (t:Int)≠plE x.2 ((t:Int) + 1))∧ts.length≤i) ⟨Same.refl _,[],rfl,(fun x hx=>by cases hx),Nat.le_refl _⟩ ?_ ?_ ?_⟩
    ·rintro i ys H' _ ⟨s5,_⟩
     exact SqL.of ((s4.trans s5) _ _ hr2)
    ·rintro i y ys H' hy ⟨s5,ts,rfl,hts,lt⟩
     rw [List.getElem?_map] at hy
     obtain⟨r,hr,rfl⟩:=Option.map_eq_some_iff.mp hy
     have mr:=List.mem_of_getElem? hr
     have hl:=s5 _ _ (hrs4 r mr)
     have me:r.2∈es:=by rw [← er];exact List.mem_map.mpr ⟨r,mr,rfl⟩
     have li:i < rs.length:=(List.getElem?_eq_some_iff.mp hr).1
     walk_at "RD"
     refine⟨_,SqL.of hl,_,at0 r.2,_,SqL.of hl,_,at1 r.2,by rcases plc_or r.2.b r.2.c (t:Int) with h1 | ⟨z1,h1⟩ <;> rcases plc_or r.2.b r.2.c ((t:Int) + 1) with h2 | ⟨z2,h2⟩ <;> simp only [plE,h1,h2],?_⟩
     by_cases n:plE r.2 (t:Int)=plE r.2 ((t:Int) + 1)
     ·rw [if_neg (by simp [n])]
      exact⟨s5,ts,rfl,hts,by omega⟩
     ·rw [if_pos n]
      refine⟨_,SqL.of hl,_,at0 r.2,_,SqL.of hl,_,at1 r.2,by omega,fun p np=>⟨by rw [List.length_map];omega,s5.trans (z0 np),ts++[(p,r.2)],by rw [List.map_append];rfl,fun x hx=>?_,by rw [List.length_append];simp only [List.length_cons,List.length_nil];omega⟩⟩
      rcases List.mem_append.mp hx with hx | hx
      ·exact⟨(z0 np) _ _ (hts x hx).1,(hts x hx).2⟩
      ·rw [List.mem_singleton.mp hx]
       exact⟨upd_same,me,n⟩
    ·rintro ys H' ⟨s5,ts,rfl,hts,lt⟩
     rw [List.length_map] at lt
     exact⟨by rw [List.length_map];omega,fun D nD=>hk _ _ ⟨D,ts,s5.trans (z0 nD),upd_same,fun x hx=>⟨(z0 nD) _ _ (hts x hx).1,(hts x hx).2⟩,by omega,rfl⟩⟩
   rintro σ H5 ⟨sa,ts,s5,hs5,hts,lt,rfl⟩
   walk_at "RD"
   refine⟨_,SqL.of (s5 _ _ hh4),by rw [List.length_map];exact Nat.le_trans (List.length_filter_le _ _) (by omega),z420 ap en.nd er,_,.inl (SqL.of (s5 _ _ hh4)),?_⟩
   rw [if_neg (by simp)]
   refine⟨⟨_,SqL.of hs5⟩,z127 (K:=K) (a:=sa) (xs:=ts.map fun r=>.ref r.1) (fun i ys H'=>Same H5 H'∧ys=[]) ⟨Same.refl _,rfl⟩ ?_ ?_ ?_⟩
   ·rintro i ys H' _ ⟨s6,_⟩
    exact SqL.of (s6 _ _ hs5)
   ·rintro i y ys H' hy ⟨s6,rfl⟩
    rw [List.getElem?_map] at hy
    obtain⟨r,hr,rfl⟩:=Option.map_eq_some_iff.mp hy
    obtain⟨r1,r2,r3⟩:=hts r (List.mem_of_getElem? hr)
    have r1:=s6 _ _ r1
    walk_at "RD"
    refine⟨_,SqT.of r1,_,rfl,_,SqT.of r1,_,rfl,by omega,fun p np=>?_⟩
    have S7:=s6.trans (z0 (o:=HO.tup [plE r.2 ((t:Int) + 1),plE r.2 (t:Int)]) np)
    have hp7:=upd_same (H:=H') (a:=p) (o:=HO.tup [plE r.2 ((t:Int) + 1),plE r.2 (t:Int)])
    generalize upd H' p (HO.tup [plE r.2 ((t:Int) + 1),plE r.2 (t:Int)])=H7 at S7 hp7 ⊢
    refine⟨ts.map (·.1),by rw [List.map_map];exact SqL.of (S7 _ _ hs5),fun a=>dT (H7 a),fun a ha=>?_,?_⟩
    ·rcases ha with rfl | ha
     ·dsimp only
      rw [hp7]
      exact⟨.tup (SqT.of hp7) (.cons (den_pl _ _) (.cons (den_pl _ _) .nil)),z330 _ _⟩
     ·obtain⟨x,hx,rfl⟩:=List.mem_map.mp ha
      have e:=S7 _ _ (hts x hx).1
      dsimp only
      rw [e]
      exact⟨.tup (SqT.of e) (.cons (den_pl _ _) (.cons (den_pl _ _) .nil)),z330 _ _⟩
    ·rw [if_neg]
     ·exact S7
     ·intro h
      obtain⟨a,ha,e⟩:=List.any_eq_true.mp h
      obtain⟨x,hx,rfl⟩:=List.mem_map.mp ha
      obtain⟨x1,x2,x3⟩:=hts x hx
      dsimp only at e
      rw [S7 _ _ x1,hp7] at e
      simp only [dT,PyData.eqv,PyData.eqvAll,Bool.and_true,Bool.and_eq_true] at e
      exact z615 ap en.nd x2 r2 (eqv_pl e.1) (eqv_pl e.2) x3
   ·rintro ys H' ⟨s6,rfl⟩
    refine⟨by simp,fun D nD=>⟨by omega,fun q nq=>?_⟩⟩
    have qD:D≠q:=fun e=>by rw [e,upd_same] at nq;cases nq
    refine⟨_,.lst (SqL.of (by rw [upd_ne qD,upd_same])) .nil,_,.lst (SqL.of upd_same) .nil,rfl,rfl,?_⟩
    rw [if_neg (by decide)]
    exact⟨s4.trans (s5.trans (s6.trans ((z0 nD).trans (z0 nq)))),_,rfl⟩
  ·rintro σ H' ⟨x3,x4,x5,s3,rfl⟩
   exact hk _ _ (s2.trans s3)
theorem sc_q18:FnScope ["_law_book","_law_number","_law_way","error"] ["_law_book","_law_number","_law_way"] (defScope s_q18):=⟨rfl,rfl,rfl,by decide +kernel,rfl,by decide +kernel,by decide +kernel⟩
set_option maxHeartbeats 4000000 in
theorem ok_q18 {fd:FuncData}(F:Fun K "_law_refused" "_law_refused" s_q18 ad.q18 fd) (T:Txt K mg ad){fd_q13:FuncData}(B_q13:Binds K fd_q13 ["self","number","way"] []) (G_q13:FnOk P w K mg base (CXE P w) 5 ad.q13 fd_q13 ["self","number","way"] (spPut ad)):FnOk P w K mg base CX0 6 ad.q18 fd ["_law_book","_law_number","_law_way"] (z297 ad):=by
 refine F.ok sc_q18 (fun vs H Q E h=>?_) (fun cdv A outer s H vs Q E HR h=>?_)
 ·obtain⟨p,d,es,n,v,b,c,rfl,_⟩:=h
  rfl
 ·obtain⟨p,d,es,n,v,b,c,rfl,hb,en,hw,ty,hq⟩:=h
  have ND:=sc_q18.nd
  have HU0:=HR.units0
  have HU:=HR.units
  have hA:=HR.hd
  have hz:(100000:Nat)≤sizeLine:=by rw [sizeLine_eq];decide
  refine⟨_,(pss_cons (z584 (i:=3) ND rfl z260 rfl rfl (gl_of z401) T.mg_Meets z550 (fun pins EE WE XB=>(pss_one (ps_expr (z178 (pe_var (i:=0) (x:="_law_book") rfl (vis_of z254) z42 z38) T.cl_Book T.m_q13 G_q13 (HR.mono (by decide)) B_q13 .nil XB (pa_cons (pe_var (i:=1) (x:="_law_number") rfl (vis_of z199) z17 z18) (pa_cons (pe_var (i:=2) (x:="_law_way") rfl (vis_of z299) z226 z208) pa_nil (stp rfl)) (stp rfl)) (hst:=stp rfl) (hpl:=anp rfl)))))
 (fun pins ea C' dx ob mk=>(pss_one (ps_ret (z607 mk (pe_var (i:=3) (x:="error") rfl (vis_of z411) z629 z640) (by rfl))))))
 (pss_one (ps_ret pe_non))),?_⟩
  obtain⟨⟨dx,h1⟩,h2⟩:=id hb
  walk_at "RD"
  refine⟨fun σ cls dx H'=>σ=[some (V.ref p),some (V.int n),some v,none]∧cls=.ref ad.C_Meets∧∃ x k,dx=some x∧Same H H'∧PutIs es n b c (some k)∧H' x=some (.xd (putF "other" (.int k) [])),⟨_,_,h1,w_no d (by decide +kernel),p,d,es,n,v,b,c,rfl,hb,en,hw,ty,fun H' s=>⟨fun PI=>hq _ none PI (z81 (same_b s)) upd_same,fun k x PI hx=>⟨rfl,rfl,x,k,rfl,s,PI,hx⟩⟩⟩,?_⟩
  rintro σ cls dx' H' ⟨rfl,rfl,x,k,rfl,s,PI,hx⟩
  have lo:(putF "other" (V.int k) []).lookup ("other":Str)=some (V.int k):=by rw [lookup_putF,if_pos rfl]
  exact⟨_,rfl,T.xm_Meets_Meets,fun ea _=>⟨x,rfl,_,rfl,rfl,_,hx,_,lo,⟨T.xt_ga,T.xt_gn,T.xt_bx⟩,T.xt_hd,T.xt_no,hq _ (some k) PI (same_b s) (s _ _ h2)⟩⟩
theorem sc_q19:FnScope ["_law_book","_law_ways","_law_order","_law_due_here","_law_number","_law_met"] ["_law_book","_law_ways","_law_order","_law_due_here"] (defScope s_q19):=⟨rfl,rfl,rfl,by decide +kernel,rfl,by decide +kernel,by decide +kernel⟩
set_option maxHeartbeats 4000000 in
theorem ok_q19 {fd:FuncData}(F:Fun K "_law_put_in" "_law_put_in" s_q19 ad.q19 fd) (T:Txt K mg ad){fd_q3:FuncData}(B_q3:Binds K fd_q3 ["self"] []) (G_q3:FnOk P w K mg base CX0 1 ad.q3 fd_q3 ["self"] (z162 ad)){fd_q18:FuncData}(B_q18:Binds K fd_q18 ["_law_book","_law_number","_law_way"] []) (G_q18:FnOk P w K mg base CX0 6 ad.q18 fd_q18 ["_law_book","_law_number","_law_way"] (z297 ad)):FnOk P w K mg base CX0 7 ad.q19 fd ["_law_book","_law_ways","_law_order","_law_due_here"] (z481 ad K):=by
 refine F.ok sc_q19 (fun vs H Q E h=>?_) (fun cdv A outer s H vs Q E HR h=>?_)
 ·obtain⟨p,d,w,o,r,bs,es,ns,rs,rfl,_⟩:=h
  rfl
 ·obtain⟨p,d,w,o,r,bs,es,ns,rs,rfl,hb,hw,en,ho,hr,mo,lrs,sb,nd,ap,kn,ln,dw_,do_,dr_,hq⟩:=h
  have ND:=sc_q19.nd
  have HU0:=HR.units0
  have HU:=HR.units
  have hA:=HR.hd
  have hz:(100000:Nat)≤sizeLine:=by rw [sizeLine_eq];decide
  refine⟨_,(pss_cons (ps_for PassesOwn.never (calm0 rfl) (pi_list (pe_var (i:=2) (x:="_law_order") rfl (vis_of z239) z157 z155)) (pg_name (i:=4) ND rfl (loc_of (Or.inr z87)))
 (pss_cons (z324 (i:=5) (z8.of (osc:=defScope s_q19) (tn:=["_law_row"]) (cn:=["_law_number"]) (caps:=[4]) rfl rfl (by decide +kernel) (by decide +kernel) (by decide +kernel) (by decide +kernel) rfl) (calm0 rfl) ND rfl z77 (pi_list (pe_var (i:=3) (x:="_law_due_here") rfl (vis_of z164) z12 z10))
 (fun _ _ _ _ _=>(pg_name (i:=0) (show (["_law_row","_law_number"]:List Str).Nodup by decide +kernel) rfl (Or.inl rfl))) (fun _ _ _ _ _=>(z240 (pt_cmpR (z320 (K:=K) rfl) (pv 1) (pe_slice (z581 (K:=K) rfl) (pv 0) (po_some pe_int) (po_some pe_int)) (by with_unfolding_all rfl)))) (fun _ _ _ _ _=>(pe_op op_sub (pe_op op_add (pe_ix (z267 (K:=K) rfl) (pv 0) pe_int (fun _ _=>rfl)) (pe_ix (z267 (K:=K) rfl) (pv 0) pe_int (fun _ _=>rfl))) (pv 1))) (hsw:=by rfl))
 (pss_cons (z324 (i:=5) (z8.of (osc:=defScope s_q19) (tn:=["_law_other"]) (cn:=["_law_book"]) (caps:=[0]) rfl rfl (by decide +kernel) (by decide +kernel) (by decide +kernel) (by decide +kernel) rfl) (calm0 rfl) ND rfl z77 (pi_list (pe_var (i:=5) (x:="_law_met") rfl (vis_of z165) z306 z312))
 (fun _ _ _ _ _=>(pg_name (i:=0) (show (["_law_other","_law_book"]:List Str).Nodup by decide +kernel) rfl (Or.inl rfl))) (fun _ _ _ _ _=>(z240 (pt_cmpR (z320 (K:=K) rfl) (pv 0) (pe_meth0 (pv 1) T.cl_Book T.m_q3 G_q3 (HR.mono (by decide)) B_q3 .nil pass0) (by with_unfolding_all rfl)))) (fun _ _ _ _ _=>(pv 0)) (hsw:=by rfl))
 (pss_one (ps_if (pt_cmpR op_ne (pe_call G_q18 (HR.mono (by decide)) (gl_of z180) T.mg_q18 T.k_q18 B_q18 .nil pass0 (pa_cons (pe_var (i:=0) (x:="_law_book") rfl (vis_of z249) z42 z38) (pa_cons (pe_var (i:=4) (x:="_law_number") rfl (vis_of z88) z17 z18) (pa_cons (pe_dget (hu1 HU) (pe_var (i:=1) (x:="_law_ways") rfl (vis_of z245) v5 z6) (pe_var (i:=4) (x:="_law_number") rfl (vis_of z88) z17 z18) (fun _ _=>rfl)) pa_nil (stp rfl)) (stp rfl)) (stp rfl)) (hdb:=z294) (he:=stp rfl) (hpl:=anp rfl)) (z650 rfl (gl_of z516) T.b_min (pa_cons (pe_var (i:=5) (x:="_law_met") rfl (vis_of z165) z306 z312) pa_nil (stp rfl)) pe_non (st1 rfl)) (nomark _))
 (pss_one (ps_ret pe_bl))
 pss_nil)))))
 (pss_one (ps_ret pe_bl))),?_⟩
  refine zz1 (fun σ H'=>∃ bs',SameB d H H'∧BookAt ad.C_Book H' p d bs'∧Sub bs' es∧(bs'.map (·.k)).Nodup∧Apt bs') (fun nx hk=>?_) (fun σ H' ⟨bs',z1,z2,z3,z4,z5⟩=>hq _ bs' z1 z2 z3 z4 z5)
  walk_at "RDS"
  refine⟨⟨_,SqL.of ho⟩,for_list (K:=K) (a:=o) (xs:=ns.map V.int) (fun j σ H'=>∃ (bs':List Ent) (x4 x5:Option V),SameB d H H'∧BookAt ad.C_Book H' p d bs'∧Sub bs' es∧(bs'.map (·.k)).Nodup∧Apt bs'∧σ=[some (V.ref p),some (V.ref w),some (V.ref o),some (V.ref r),x4,x5]) ⟨bs,none,none,same_b (Same.refl _),hb,sb,nd,ap,rfl⟩ ?_ ?_ ?_⟩
  ·rintro j σ H' _ ⟨_,_,_,sB,_⟩
   exact SqL.of (sB _ _ ho do_.symm)
  ·rintro j y σ H1 hy ⟨bs',x4,x5,sB1,hb1,sb1,nd1,ap1,rfl⟩
   rw [List.getElem?_map] at hy
   obtain⟨n,hn,rfl⟩:=Option.map_eq_some_iff.mp hy
   obtain⟨e,he,rfl⟩:=kn n (List.mem_of_getElem? hn)
   have nt:∀ xs,H d≠some (.tup xs):=fun xs z=>by rw [hb.tb] at z;cases z
   have hr1:=z331 hr sB1 dr_ nt
   have el:=en.len
   have bl:=sub_len sb1 nd1
   simp only [gName,List.set_cons_succ,List.set_cons_zero]
   refine zz1 (fun σ H'=>∃ (ml:Addr) (zs:List Int),Same H1 H'∧H' ml=some (.lst (zs.map V.int))∧(∀ z,z∈zs↔∃ f∈es,f.k=z∧z≠e.k∧Mt e.b e.c f.b f.c)∧zs.length≤1000∧σ=[some (V.ref p),some (V.ref w),some (V.ref o),some (V.ref r),some (V.int e.k),some (V.ref ml)]) (fun nx hk=>?_) ?_
   ·walk_at "RD"
    refine⟨⟨_,SqL.of hr1.1⟩,z127 (K:=K) (a:=r) (xs:=rs.map fun x=>.ref x.1) (fun i ys H'=>Same H1 H'∧∃ zs:List Int,ys=zs.map V.int∧(∀ z,z∈zs↔∃ q∈(rs.map (·.2)).take i,(e.k=q.2.1∧z=q.2.2.1)∨(e.k=q.2.2.1∧z=q.2.1))∧zs.length≤i) ⟨Same.refl _,[],rfl,(fun z=>by simp),Nat.le_refl _⟩ ?_ ?_ ?_⟩
    ·rintro i ys H' _ ⟨s2,_⟩
     exact SqL.of (s2 _ _ hr1.1)
    ·rintro i y ys H' hy ⟨s2,zs,rfl,mz,lz⟩
     rw [List.getElem?_map] at hy
     obtain⟨x,hx,rfl⟩:=Option.map_eq_some_iff.mp hy
     have ht:=s2 _ _ (hr1.2 x (List.mem_of_getElem? hx))
     have hq:(rs.map (·.2))[i]?=some x.2:=by rw [List.getElem?_map,hx];rfl
     have li:i < rs.length:=(List.getElem?_eq_some_iff.mp hx).1
     obtain⟨xa,tq,ka,kb,wq⟩:=x
     walk_at "RD"
     refine⟨_,SqT.of ht,fun z=>absurd z.1 (show ¬ HT.sIx 4 0 (some 1)=0 by decide),fun _ p np=>?_⟩
     rw [show cutV (qv (tq,ka,kb,wq)) (some 1) (some 3)=[V.int ka,V.int kb] from rfl] at *
     have S:=z0 (o:=HO.tup [V.int ka,V.int kb]) np
     have ht':=S _ _ ht
     refine⟨_,.inr (SqT.of upd_same),rfl,rfl,?_⟩
     rw [show inV (V.int e.k) [V.int ka,V.int kb]=decide (e.k∈[ka,kb]) from z571 (xs:=[ka,kb])]
     by_cases hm:e.k∈[ka,kb]
     ·rw [if_pos (decide_eq_true hm)]
      refine⟨_,SqT.of ht',_,rfl,_,SqT.of ht',_,rfl,_,rfl,_,rfl,by rw [List.length_map];omega,s2.trans S,zs++[ka + kb - e.k],by rw [List.map_append];rfl,fun z=>?_,by rw [List.length_append];simp only [List.length_cons,List.length_nil];omega⟩
      rw [List.mem_append,List.mem_singleton,mz]
      constructor
      ·rintro(⟨q,hq1,hq2⟩ | rfl)
       ·exact⟨q,(z118 hq q).mpr (.inl hq1),hq2⟩
       ·refine⟨_,(z118 hq _).mpr (.inr rfl),?_⟩
        simp only [List.mem_cons,List.not_mem_nil,or_false] at hm
        rcases hm with hm | hm
        ·exact .inl ⟨hm,by show _=kb;omega⟩
        ·exact .inr ⟨hm,by show _=ka;omega⟩
      ·rintro⟨q,hq1,hq2⟩
       rcases (z118 hq q).mp hq1 with hq1 | rfl
       ·exact .inl ⟨q,hq1,hq2⟩
       ·refine .inr ?_
        rcases hq2 with ⟨y1,y2⟩ | ⟨y1,y2⟩
        ·have y1:e.k=ka:=y1
         have y2:z=kb:=y2
         omega
        ·have y1:e.k=kb:=y1
         have y2:z=ka:=y2
         omega
     ·rw [if_neg (by simpa using hm)]
      refine⟨s2.trans S,zs,rfl,fun z=>?_,by omega⟩
      rw [mz]
      constructor
      ·rintro⟨q,hq1,hq2⟩
       exact⟨q,(z118 hq q).mpr (.inl hq1),hq2⟩
      ·rintro⟨q,hq1,hq2⟩
       rcases (z118 hq q).mp hq1 with hq1 | rfl
       ·exact⟨q,hq1,hq2⟩
       ·refine absurd ?_ hm
        rcases hq2 with ⟨y1,y2⟩ | ⟨y1,y2⟩
        ·rw [show e.k=ka from y1];simp
        ·rw [show e.k=kb from y1];simp
    ·rintro ys H' ⟨s2,zs,rfl,mz,lz⟩
     rw [List.length_map] at lz mz
     refine⟨by rw [List.length_map];omega,fun D nD=>hk _ _ ⟨D,zs,s2.trans (z0 nD),upd_same,fun z=>?_,by omega,rfl⟩⟩
     rw [mz,List.take_of_length_le (by simp)]
     exact z627 mo en.nd he z
   rintro σ H2 ⟨ml,zs,s2,hm2,mz,lz,rfl⟩
   refine zz1 (fun σ H'=>∃ (ml:Addr) (zs:List Int),Same H1 H'∧H' ml=some (.lst (zs.map V.int))∧(∀ z,z∈zs↔∃ f∈bs',f.k=z∧z≠e.k∧Mt e.b e.c f.b f.c)∧zs.length≤1000∧σ=[some (V.ref p),some (V.ref w),some (V.ref o),some (V.ref r),some (V.int e.k),some (V.ref ml)]) (fun nx hk=>?_) ?_
   ·walk_at "RD"
    refine⟨⟨_,SqL.of hm2⟩,z127 (K:=K) (a:=ml) (xs:=zs.map V.int) (fun i ys H'=>Same H2 H'∧∃ us:List Int,ys=us.map V.int∧(∀ z,z∈us↔z∈zs.take i∧z∈bs'.map (·.k))∧us.length≤i) ⟨Same.refl _,[],rfl,(fun z=>by simp),Nat.le_refl _⟩ ?_ ?_ ?_⟩
    ·rintro i ys H' _ ⟨s3,_⟩
     exact SqL.of (s3 _ _ hm2)
    ·rintro i y ys H' hy ⟨s3,us,rfl,mu,lu⟩
     rw [List.getElem?_map] at hy
     obtain⟨z,hz',rfl⟩:=Option.map_eq_some_iff.mp hy
     have li:i < zs.length:=(List.getElem?_eq_some_iff.mp hz').1
     have hb3:=hb1.same (s2.trans s3)
     obtain⟨⟨dx,o3⟩,d3⟩:=id hb3
     walk_at "RD"
     refine⟨_,_,o3,w_no d (by decide +kernel),p,d,bs',rfl,hb3,by omega,fun l ms nl hp hs=>?_⟩
     refine⟨l,rfl,_,.inl (SqL.of upd_same),rfl,by rw [List.all_map,List.all_eq_true];intro _ _;rfl,?_⟩
     rw [z571]
     by_cases hm:z∈ms
     ·rw [if_pos (decide_eq_true hm)]
      refine⟨by rw [List.length_map];omega,s3.trans (z0 nl),us++[z],by rw [List.map_append];rfl,fun y=>?_,by rw [List.length_append];simp only [List.length_cons,List.length_nil];omega⟩
      rw [List.mem_append,List.mem_singleton,mu,z166 hz']
      constructor
      ·rintro(⟨y1,y2⟩ | rfl)
       ·exact⟨.inl y1,y2⟩
       ·exact⟨.inr rfl,hp.mem_iff.mp hm⟩
      ·rintro⟨y1 | y1,y2⟩
       ·exact .inl ⟨y1,y2⟩
       ·exact .inr y1
     ·rw [if_neg (by simpa using hm)]
      refine⟨s3.trans (z0 nl),us,rfl,fun y=>?_,by omega⟩
      rw [mu,z166 hz']
      constructor
      ·rintro⟨y1,y2⟩
       exact⟨.inl y1,y2⟩
      ·rintro⟨y1 | rfl,y2⟩
       ·exact⟨y1,y2⟩
       ·exact absurd (hp.mem_iff.mpr y2) hm
    ·rintro ys H' ⟨s3,us,rfl,mu,lu⟩
     rw [List.length_map] at lu mu
     refine⟨by rw [List.length_map];omega,fun D nD=>hk _ _ ⟨D,us,s2.trans (s3.trans (z0 nD)),upd_same,fun z=>?_,by omega,rfl⟩⟩
     rw [mu,List.take_length,mz]
     constructor
     ·rintro⟨⟨f,hf,rfl,n',M⟩,m2⟩
      obtain⟨g,hg,eg⟩:=List.mem_map.mp m2
      obtain rfl:g=f:=z107 en.nd hf (sb1 g hg) eg
      exact⟨g,hg,rfl,n',M⟩
     ·rintro⟨f,hf,rfl,n',M⟩
      exact⟨⟨f,sb1 f hf,rfl,n',M⟩,List.mem_map.mpr ⟨f,hf,rfl⟩⟩
   clear hm2 mz lz
   rintro σ H3 ⟨ml,zs,s3,hm3,mz,lz,rfl⟩
   walk_at "RD"
   have sB3:SameB d H H3:=fun b o hb n=>s3 _ _ (sB1 b o hb n)
   have en3:Ents H3 es:=en.tups (sB3.tups nt)
   have enb:=z360 en3 sb1 nd1
   have hb3:=hb1.same s3
   obtain⟨⟨dx,o3⟩,d3⟩:=id hb3
   obtain⟨we,te,ke⟩:=en3.ok e he
   have pd:p≠d:=fun z=>by rw [z,d3] at o3;cases o3
   have md:ml≠d:=fun z=>by rw [z,d3] at hm3;cases hm3
   refine⟨e.v,by rw [← z134 en.nd he];exact DGet.k (k:=.inl e.k) (sB3 _ _ hw dw_.symm),p,d,bs',e.k,e.v,e.b,e.c,rfl,hb3,enb,we,te,fun H4 oo PI sB4 hd4=>⟨zs,SqL.of (sB4 _ _ hm3 md),fun v mv=>?_⟩⟩
   obtain rfl:=z596 PI mz mv
   refine⟨by cases oo <;> rfl,?_⟩
   rw [if_neg (by simp)]
   refine⟨sB3.trans sB4,aft bs' e oo,⟨⟨dx,sB4 _ _ o3 pd⟩,hd4⟩,?_,?_,?_,_,rfl⟩
   ·cases oo with
    | none=>exact z631 sb1 he
    | some k=>exact sb1
   ·cases oo with
    | none=>exact(enb.put (e:=e) ⟨we,te,ke⟩).nd
    | some k=>exact nd1
   ·cases oo with
    | none=>exact ap1.put PI
    | some k=>exact ap1
  ·rintro σ H' ⟨bs',x4,x5,sB,hb',sb',nd',ap',rfl⟩
   exact hk _ _ ⟨bs',sB,hb',sb',nd',ap'⟩
theorem sc_law:FnScope ["_law_script","_law_ways","_law_due_here","_law_handed","_law_found","_law_book","_law_order","_law_kept","_law_left"] ["_law_script"] (defScope s_law):=⟨rfl,rfl,rfl,by decide +kernel,rfl,by decide +kernel,by decide +kernel⟩
set_option maxHeartbeats 4000000 in
theorem ok_law {fd:FuncData}(F:Fun K "law" "law" s_law ad.law fd) (T:Txt K mg ad){fd_q17:FuncData}(B_q17:Binds K fd_q17 ["_law_script"] []) (G_q17:FnOk P w K mg base CX0 3 ad.q17 fd_q17 ["_law_script"] (z337 K)){fd_Ldue:FuncData}(B_Ldue:Binds K fd_Ldue ["_law_ways"] []) (G_Ldue:FnOk P w K mg base CX0 3 ad.Ldue fd_Ldue ["_law_ways"] (z72)){fd_q12:FuncData}(B_q12:Binds K fd_q12 ["ways"] []) (G_q12:FnOk P w K mg base CX0 5 ad.q12 fd_q12 ["ways"] (z72)){fd_Lare:FuncData}(B_Lare:Binds K fd_Lare ["_law_found","_law_due_here"] []) (G_Lare:FnOk P w K mg base CX0 2 ad.Lare fd_Lare ["_law_found","_law_due_here"] (spAre)){fd_q7:FuncData}(B_q7:Binds K fd_q7 ["self"] []) (G_q7:FnOk P w K mg base CX0 1 ad.q7 fd_q7 ["self"] (z462 ad)){fd_q15:FuncData}(B_q15:Binds K fd_q15 ["_law_script","_law_k"] []) (G_q15:FnOk P w K mg base CX0 1 ad.q15 fd_q15 ["_law_script","_law_k"] (spCell K)){fd_q19:FuncData}(B_q19:Binds K fd_q19 ["_law_book","_law_ways","_law_order","_law_due_here"] []) (G_q19:FnOk P w K mg base CX0 7 ad.q19 fd_q19 ["_law_book","_law_ways","_law_order","_law_due_here"] (z481 ad K)){fd_q3:FuncData}(B_q3:Binds K fd_q3 ["self"] []) (G_q3:FnOk P w K mg base CX0 1 ad.q3 fd_q3 ["self"] (z162 ad)){fd_q14:FuncData}(B_q14:Binds K fd_q14 ["self","number"] []) (G_q14:FnOk P w K mg base (CXE P w) 3 ad.q14 fd_q14 ["self","number"] (spWayM ad)){fd_q22:FuncData}(B_q22:Binds K fd_q22 ["_law_ways"] []) (G_q22:FnOk P w K mg base CX0 2 ad.q22 fd_q22 ["_law_ways"] (z492)){fd_q8:FuncData}(B_q8:Binds K fd_q8 ["self","number"] []) (G_q8:FnOk P w K mg base (CXE P w) 3 ad.q8 fd_q8 ["self","number"] (spDrop ad)):FnOk P w K mg base CX0 9 ad.law fd ["_law_script"] (spLaw K):=by
 refine F.ok sc_law (fun vs H Q E h=>?_) (fun cdv A outer s H vs Q E HR h=>?_)
 ·obtain⟨a,ns,rfl,_⟩:=h
  rfl
 ·obtain⟨a,ns,rfl,hS,hl,hbt,hq⟩:=h
  have ND:=sc_law.nd
  have HU0:=HR.units0
  have HU:=HR.units
  have hA:=HR.hd
  have hz:(100000:Nat)≤sizeLine:=by rw [sizeLine_eq];decide
  refine⟨_,(pss_cons (ps_set (i:=1) ND rfl (loc_of (Or.inr z152)) (pe_call G_q17 (HR.mono (by decide)) (gl_of z188) T.mg_q17 T.k_q17 B_q17 .nil pass0 (pa_cons (pe_var (i:=0) (x:="_law_script") rfl (vis_of z47) z13 z9) pa_nil (stp rfl)) (hdb:=z289) (he:=stp rfl) (hpl:=anp rfl)))
 (pss_cons (ps_set (i:=2) ND rfl (loc_of (Or.inl z65)) (pe_call G_Ldue (HR.mono (by decide)) (gl_of z291) T.mg_Ldue T.k_Ldue B_Ldue .nil pass0 (pa_cons (pe_var (i:=1) (x:="_law_ways") rfl (vis_of z22) v5 z6) pa_nil (stp rfl)) (hdb:=z447) (he:=stp rfl) (hpl:=anp rfl)))
 (pss_cons (ps_set (i:=3) ND rfl (loc_of (Or.inl z95)) (pe_callTy z482 (gl_of z209) T.b_dict PyProof.Rows.Boot.«dict» (pa_cons (pe_var (i:=1) (x:="_law_ways") rfl (vis_of z22) v5 z6) pa_nil (stp rfl)) (hn:=n_dict) (hdb:=d_dict) (he:=stp rfl) (hpl:=anp rfl)))
 (pss_cons (ps_set (i:=4) ND rfl (loc_of (Or.inl z104)) (pe_call G_q12 (HR.mono (by decide)) (gl_of z206) T.mg_q12 T.k_q12 B_q12 .nil pass0 (pa_cons (pe_var (i:=3) (x:="_law_handed") rfl (vis_of z48) z109 z99) pa_nil (stp rfl)) (hdb:=d_q12) (he:=stp rfl) (hpl:=anp rfl)))
 (pss_cons (ps_if (PW.pt (pw_or (pt_not (pt_val (pe_call G_Lare (HR.mono (by decide)) (gl_of z159) T.mg_Lare T.k_Lare B_Lare .nil pass0 (pa_cons (pe_var (i:=4) (x:="_law_found") rfl (vis_of z106) z15 z14) (pa_cons (pe_var (i:=2) (x:="_law_due_here") rfl (vis_of z25) z12 z10) pa_nil (stp rfl)) (stp rfl)) (hdb:=z325) (he:=stp rfl) (hpl:=anp rfl)))) (pw_or1 (pt_cmpR (op_neK (hu65 HR)) (pe_var (i:=3) (x:="_law_handed") rfl (vis_of z48) z109 z99) (pe_var (i:=1) (x:="_law_ways") rfl (vis_of z22) v5 z6) (nomark _)))))
 (pss_one (ps_ret pe_bl))
 pss_nil)
 (pss_cons (ps_expr (pe_bm PySem.F.plainAttrs_list PySem.F.slot_list_append PySem.F.type_list_append mt_append (pe_var (i:=4) (x:="_law_found") rfl (vis_of z106) z15 z14) (pa_cons (pe_tup (pa_cons pe_int (pa_cons pe_int (pa_cons pe_int (pa_cons pe_str pa_nil (stp rfl)) (stp rfl)) (stp rfl)) (stp rfl))) pa_nil (stp rfl))))
 (pss_cons (ps_if (pt_not (pt_val (pe_call G_Lare (HR.mono (by decide)) (gl_of z159) T.mg_Lare T.k_Lare B_Lare .nil pass0 (pa_cons (pe_call G_q12 (HR.mono (by decide)) (gl_of z206) T.mg_q12 T.k_q12 B_q12 .nil pass0 (pa_cons (pe_var (i:=3) (x:="_law_handed") rfl (vis_of z48) z109 z99) pa_nil (stp rfl)) (hdb:=d_q12) (he:=stp rfl) (hpl:=anp rfl)) (pa_cons (pe_var (i:=2) (x:="_law_due_here") rfl (vis_of z25) z12 z10) pa_nil (stp rfl)) (stp rfl)) (hdb:=z325) (he:=stp rfl) (hpl:=anp rfl))))
 (pss_one (ps_ret pe_bl))
 pss_nil)
 (pss_cons (ps_set (i:=5) ND rfl (loc_of (Or.inr z133)) (pe_make0 T.mk_Book G_q7 (HR.mono (by decide)) (gl_of z432) T.mg_Book B_q7 .nil pass0 (hdb:=d_Book)))
 (pss_cons (ps_set (i:=6) ND rfl (loc_of (Or.inl z96)) (z612 (pe_callB (z83 rfl) (gl_of z217) T.b_sorted PyProof.Rows.Boot.«sorted» (pa_cons (pe_var (i:=1) (x:="_law_ways") rfl (vis_of z22) v5 z6) pa_nil (stp rfl)) (hn:=z176) (hdb:=z184) (he:=stp rfl) (hpl:=anp rfl)) (pe_ix ix_list (pe_lst (pa_cons pe_int (pa_cons (pe_un un_neg pe_int) pa_nil (stp rfl)) (stp rfl))) (pe_op op_mod (pe_call G_q15 (HR.mono (by decide)) (gl_of z76) T.mg_q15 T.k_q15 B_q15 .nil pass0 (pa_cons (pe_var (i:=0) (x:="_law_script") rfl (vis_of z47) z13 z9) (pa_cons pe_int pa_nil (stp rfl)) (stp rfl)) (hdb:=z20) (he:=stp rfl) (hpl:=anp rfl)) pe_int) (fun _ _=>rfl))))
 (pss_cons (ps_if (pt_not (pt_val (pe_call G_q19 (HR.mono (by decide)) (gl_of z90) T.mg_q19 T.k_q19 B_q19 .nil pass0 (pa_cons (pe_var (i:=5) (x:="_law_book") rfl (vis_of z28) z42 z38) (pa_cons (pe_var (i:=1) (x:="_law_ways") rfl (vis_of z22) v5 z6) (pa_cons (pe_var (i:=6) (x:="_law_order") rfl (vis_of z119) z157 z155) (pa_cons (pe_var (i:=2) (x:="_law_due_here") rfl (vis_of z25) z12 z10) pa_nil (stp rfl)) (stp rfl)) (stp rfl)) (stp rfl)) (hdb:=z193) (he:=stp rfl) (hpl:=anp rfl))))
 (pss_one (ps_ret pe_bl))
 pss_nil)
 (pss_cons (ps_set (i:=7) ND rfl (loc_of (Or.inr z69)) (pe_callTy (z329 rfl) (gl_of z209) T.b_dict PyProof.Rows.Boot.«dict» (pa_cons (z228 (z8.of (osc:=defScope s_law) (tn:=["_law_number"]) (cn:=["_law_book"]) (caps:=[5]) rfl rfl (by decide +kernel) (by decide +kernel) (by decide +kernel) (by decide +kernel) rfl) (calm0 rfl)  (pi_list (pe_meth0 (pe_var (i:=5) (x:="_law_book") rfl (vis_of z28) z42 z38) T.cl_Book T.m_q3 G_q3 (HR.mono (by decide)) B_q3 .nil pass0))
 (fun _ _ _ _ _=>(pg_name (i:=0) (show (["_law_number","_law_book"]:List Str).Nodup by decide +kernel) rfl (Or.inl rfl))) (fun _ _ _ _ _=>z333) (fun _ _ _ _ _=>(pe_tup (pa_cons (pv 0) (pa_cons (z178 (pv 1) T.cl_Book T.m_q14 G_q14 (HR.mono (by decide)) B_q14 .nil xc_no (pa_cons (pv 0) pa_nil (stp rfl)) (hst:=stp rfl) (hpl:=anp rfl)) pa_nil (stp rfl)) (stp rfl))))) pa_nil (stp rfl)) (hn:=n_dict) (hdb:=d_dict) (he:=stp rfl) (hpl:=anp rfl)))
 (pss_cons (ps_if (PW.pt (pw_or (pt_cmpR (op_neD HU) (pe_call G_q12 (HR.mono (by decide)) (gl_of z206) T.mg_q12 T.k_q12 B_q12 .nil pass0 (pa_cons (pe_var (i:=7) (x:="_law_kept") rfl (vis_of z11) z29 z30) pa_nil (stp rfl)) (hdb:=d_q12) (he:=stp rfl) (hpl:=anp rfl)) (pe_lst pa_nil) (nomark _)) (pw_or1 (pt_not (pt_val (pe_call G_q22 (HR.mono (by decide)) (gl_of z113) T.mg_q22 T.k_q22 B_q22 .nil pass0 (pa_cons (pe_var (i:=7) (x:="_law_kept") rfl (vis_of z11) z29 z30) pa_nil (stp rfl)) (hdb:=z234) (he:=stp rfl) (hpl:=anp rfl)))))))
 (pss_one (ps_ret pe_bl))
 pss_nil)
 (pss_cons (ps_if (pt_cmpR (op_neD HU) (z487 (z228 (z8.of (osc:=defScope s_law) (tn:=["_law_number"]) (cn:=["_law_kept","_law_ways"]) (caps:=[7,1]) rfl rfl (by decide +kernel) (by decide +kernel) (by decide +kernel) (by decide +kernel) rfl) (calm0 rfl)  (z352 (pe_var (i:=7) (x:="_law_kept") rfl (vis_of z11) z29 z30))
 (fun _ _ _ _ _=>(pg_name (i:=0) (show (["_law_number","_law_kept","_law_ways"]:List Str).Nodup by decide +kernel) rfl (Or.inl rfl))) (fun _ _ _ _ _=>(z240 (pt_cmpR (z655 (K:=K) rfl HU) (pe_dget (hu1 HU) (pv 1) (pv 0) (fun _ _=>rfl)) (pe_dget (hu1 HU) (pv 2) (pv 0) (fun _ _=>rfl)) (nomark _)))) (fun _ _ _ _ _=>(pv 0)))) (pe_lst pa_nil) (nomark _))
 (pss_one (ps_ret pe_bl))
 pss_nil)
 (pss_cons (z324 (i:=8) (z8.of (osc:=defScope s_law) (tn:=["_law_number"]) (cn:=["_law_kept"]) (caps:=[7]) rfl rfl (by decide +kernel) (by decide +kernel) (by decide +kernel) (by decide +kernel) rfl) (calm0 rfl) ND rfl z151 (pi_list (pe_var (i:=6) (x:="_law_order") rfl (vis_of z119) z157 z155))
 (fun _ _ _ _ _=>(pg_name (i:=0) (show (["_law_number","_law_kept"]:List Str).Nodup by decide +kernel) rfl (Or.inl rfl))) (fun _ _ _ _ _=>(z240 (pt_cmp (pc_dnotin (hu1 HU) (pv 0) (pv 1)) (by with_unfolding_all rfl)))) (fun _ _ _ _ _=>(pv 0)) (hsw:=by rfl))
 (pss_cons (ps_if (PW.pt (pw_and (pt_cmpR (op_neK (hu65 HR)) (pe_var (i:=7) (x:="_law_kept") rfl (vis_of z11) z29 z30) pe_dnewK (nomark _)) (pw_and1 (pt_cmpR (op_neD HU) (pe_var (i:=8) (x:="_law_left") rfl (vis_of z141) z280 z281) (pe_lst pa_nil) (nomark _)))))
 (pss_cons (ps_expr (z178 (pe_var (i:=5) (x:="_law_book") rfl (vis_of z28) z42 z38) T.cl_Book T.m_q8 G_q8 (HR.mono (by decide)) B_q8 .nil xc_no (pa_cons (pe_ix ix_list (pe_callB (z83 rfl) (gl_of z217) T.b_sorted PyProof.Rows.Boot.«sorted» (pa_cons (pe_var (i:=7) (x:="_law_kept") rfl (vis_of z11) z29 z30) pa_nil (stp rfl)) (hn:=z176) (hdb:=z184) (he:=stp rfl) (hpl:=anp rfl)) (pe_op op_mod (pe_call G_q15 (HR.mono (by decide)) (gl_of z76) T.mg_q15 T.k_q15 B_q15 .nil pass0 (pa_cons (pe_var (i:=0) (x:="_law_script") rfl (vis_of z47) z13 z9) (pa_cons pe_int pa_nil (stp rfl)) (stp rfl)) (hdb:=z20) (he:=stp rfl) (hpl:=anp rfl)) (pe_callB call_lenD (gl_of z543) T.b_len PyProof.Rows.Boot.«len» (pa_cons (pe_var (i:=7) (x:="_law_kept") rfl (vis_of z11) z29 z30) pa_nil (stp rfl)) (hn:=n_len) (hdb:=d_len) (he:=stp rfl) (hpl:=anp rfl))) (fun _ _=>rfl)) pa_nil (stp rfl)) (hst:=stp rfl) (hpl:=anp rfl)))
 (pss_one (ps_if (pt_not (pt_val (pe_call G_q19 (HR.mono (by decide)) (gl_of z90) T.mg_q19 T.k_q19 B_q19 .nil pass0 (pa_cons (pe_var (i:=5) (x:="_law_book") rfl (vis_of z28) z42 z38) (pa_cons (pe_var (i:=1) (x:="_law_ways") rfl (vis_of z22) v5 z6) (pa_cons (pe_var (i:=8) (x:="_law_left") rfl (vis_of z141) z280 z281) (pa_cons (pe_var (i:=2) (x:="_law_due_here") rfl (vis_of z25) z12 z10) pa_nil (stp rfl)) (stp rfl)) (stp rfl)) (stp rfl)) (hdb:=z193) (he:=stp rfl) (hpl:=anp rfl))))
 (pss_one (ps_ret pe_bl))
 pss_nil)))
 pss_nil)
 (pss_cons (ps_set (i:=7) ND rfl (loc_of (Or.inr z69)) (pe_callTy (z329 rfl) (gl_of z209) T.b_dict PyProof.Rows.Boot.«dict» (pa_cons (z228 (z8.of (osc:=defScope s_law) (tn:=["_law_number"]) (cn:=["_law_book"]) (caps:=[5]) rfl rfl (by decide +kernel) (by decide +kernel) (by decide +kernel) (by decide +kernel) rfl) (calm0 rfl)  (pi_list (pe_meth0 (pe_var (i:=5) (x:="_law_book") rfl (vis_of z28) z42 z38) T.cl_Book T.m_q3 G_q3 (HR.mono (by decide)) B_q3 .nil pass0))
 (fun _ _ _ _ _=>(pg_name (i:=0) (show (["_law_number","_law_book"]:List Str).Nodup by decide +kernel) rfl (Or.inl rfl))) (fun _ _ _ _ _=>z333) (fun _ _ _ _ _=>(pe_tup (pa_cons (pv 0) (pa_cons (z178 (pv 1) T.cl_Book T.m_q14 G_q14 (HR.mono (by decide)) B_q14 .nil xc_no (pa_cons (pv 0) pa_nil (stp rfl)) (hst:=stp rfl) (hpl:=anp rfl)) pa_nil (stp rfl)) (stp rfl))))) pa_nil (stp rfl)) (hn:=n_dict) (hdb:=d_dict) (he:=stp rfl) (hpl:=anp rfl)))
 (pss_one (ps_ret (pe_and (pe_cmpR (op_eqD HU) (pe_call G_q12 (HR.mono (by decide)) (gl_of z206) T.mg_q12 T.k_q12 B_q12 .nil pass0 (pa_cons (pe_var (i:=7) (x:="_law_kept") rfl (vis_of z11) z29 z30) pa_nil (stp rfl)) (hdb:=d_q12) (he:=stp rfl) (hpl:=anp rfl)) (pe_lst pa_nil) (nomark _)) (pe_one (pe_call G_q22 (HR.mono (by decide)) (gl_of z113) T.mg_q22 T.k_q22 B_q22 .nil pass0 (pa_cons (pe_var (i:=7) (x:="_law_kept") rfl (vis_of z11) z29 z30) pa_nil (stp rfl)) (hdb:=z234) (he:=stp rfl) (hpl:=anp rfl)))))))))))))))))))))),?_⟩
  refine zz1 (fun σ H'=>∃ (wd:Addr) (es:List Ent),Same H H'∧H' wd=some (.dK (dw es))∧Ents H' es∧es.length≤20∧σ=[some (V.ref a),some (V.ref wd),none,none,none,none,none,none,none]) (fun nx hk=>?_) ?_
  ·walk_at "RD"
   exact⟨a,ns,rfl,hS,hl,hbt,fun d es H' nd s h1 h2 h3=>hk _ _ ⟨d,es,s,h1,h2,h3,rfl⟩⟩
  rintro σ H1 ⟨wd,es,s1,hw1,en1,lz,rfl⟩
  refine zz1 (fun σ H'=>∃ (du:Addr) (rs:List (Addr × Q4)),Same H1 H'∧RowsAt H' du rs∧z64 es (rs.map (·.2))∧rs.length≤1000∧σ=[some (V.ref a),some (V.ref wd),some (V.ref du),none,none,none,none,none,none]) (fun nx hk=>?_) ?_
  ·walk_at "RD"
   exact⟨wd,es,rfl,hw1,en1,lz,fun l rs H' nl s h1 h2 h3=>hk _ _ ⟨l,rs,s,h1,h2,h3,rfl⟩⟩
  rintro σ H2 ⟨du,rs,s2,hr2,mo,lr,rfl⟩
  have hw2:=s2 _ _ hw1
  have en2:=en1.tups (z132 s2)
  refine zz1 (fun σ H'=>∃ (hd:Addr),Same H2 H'∧H' hd=some (.dK (dw es))∧σ=[some (V.ref a),some (V.ref wd),some (V.ref du),some (V.ref hd),none,none,none,none,none]) (fun nx hk=>?_) ?_
  ·walk_at "RD"
   exact⟨dw es,hw2,fun l nl=>hk _ _ ⟨l,z0 nl,upd_same,rfl⟩⟩
  rintro σ H3 ⟨hd,s3,hh3,rfl⟩
  have hw3:=s3 _ _ hw2
  have en3:=en2.tups (z132 s3)
  have hr3:=hr2.same s3
  refine zz1 (fun σ H'=>∃ (fo:Addr) (us:List (Addr × Q4)),Same H3 H'∧H3 fo=none∧RowsAt H' fo us∧us.map (·.2)=rs.map (·.2)∧us.length≤1000∧σ=[some (V.ref a),some (V.ref wd),some (V.ref du),some (V.ref hd),some (V.ref fo),none,none,none,none]) (fun nx hk=>?_) ?_
  ·walk_at "RD"
   exact⟨hd,es,rfl,hh3,en3,lz,fun l us H' nl s h1 h2 h3=>hk _ _ ⟨l,us,s,nl,h1,h2.uniq mo,h3,rfl⟩⟩
  rintro σ H4 ⟨fo,us,s4,nf,hu4,eu,lu,rfl⟩
  refine zz1 (fun σ H'=>Same H4 H'∧σ=[some (V.ref a),some (V.ref wd),some (V.ref du),some (V.ref hd),some (V.ref fo),none,none,none,none]) (fun nx hk=>?_) ?_
  ·walk_at "RD"
   refine⟨fo,du,us,rs,rfl,hu4,hr3.same s4,eu,lu,by rw [eu];exact z446 mo,fun H5 s5=>⟨true,rfl,?_⟩⟩
   rw [if_neg (by decide)]
   have s45:=s4.trans s5
   refine⟨hd,wd,dw es,dw es,true,rfl,rfl,s45 _ _ hh3,s45 _ _ hw3,fun _=>khitsW (en3.tups (z132 s45)) es fun e he=>he,_,rfl,?_⟩
   rw [if_neg (by simp)]
   exact hk _ _ ⟨s5,rfl⟩
  rintro σ H5 ⟨s5,rfl⟩
  have hu5:=hu4.same s5
  refine zz1 (fun σ H'=>Same H3 H'∧σ=[some (V.ref a),some (V.ref wd),some (V.ref du),some (V.ref hd),some (V.ref fo),none,none,none,none]) (fun nx hk=>?_) ?_
  ·walk_at "RD"
   exact⟨.inl ⟨rfl,_,SqL.of hu5.1⟩,by omega,fun q nq=>⟨_,(z0 nq) _ _ hu5.1,by rw [List.length_map];omega,hk _ _ ⟨z232 ((s4.trans s5).trans (z0 nq)) nf,rfl⟩⟩⟩
  rintro σ H6 ⟨s6,rfl⟩
  refine zz1 (fun σ H'=>Same H3 H'∧σ=[some (V.ref a),some (V.ref wd),some (V.ref du),some (V.ref hd),some (V.ref fo),none,none,none,none]) (fun nx hk=>?_) ?_
  ·walk_at "RD"
   refine⟨hd,es,rfl,s6 _ _ hh3,en3.tups (z132 s6),lz,fun l vs H' nl s h1 h2 h3=>⟨l,du,vs,rs,rfl,h1,hr3.same (s6.trans s),h2.uniq mo,h3,by rw [h2.uniq mo];exact z446 mo,fun H7 s7=>⟨true,rfl,?_⟩⟩⟩
   rw [if_neg (by decide)]
   exact hk _ _ ⟨s6.trans (s.trans s7),rfl⟩
  rintro σ H7 ⟨s7,rfl⟩
  refine zz1 (fun σ H'=>∃ p bd,Same H7 H'∧BookAt ad.C_Book H' p bd []∧H7 bd=none∧σ=[some (V.ref a),some (V.ref wd),some (V.ref du),some (V.ref hd),some (V.ref fo),some (V.ref p),none,none,none]) (fun nx hk=>?_) ?_
  ·walk_at "RD"
   intro x dx nx' ndx nn
   refine⟨x,dx,rfl,upd_same,fun d nd=>⟨rfl,?_⟩⟩
   obtain⟨S1,g1,g2⟩:=made (o3:=HO.dK []) (o4:=HO.ins ad.C_Book dx (wl d)) nx' ndx nn nd
   exact hk _ _ ⟨x,d,S1,⟨⟨dx,upd_same⟩,by rw [upd_ne g1,upd_same];rfl⟩,g2,rfl⟩
  rintro σ H8 ⟨p,bd,s8,hb8,nbd,rfl⟩
  refine zz1 (fun σ H'=>∃ (od:Addr) (os:List Int),Same H8 H'∧H' od=some (.lst (os.map V.int))∧(∀ n∈os,∃ e∈es,e.k=n)∧os.length≤1000∧σ=[some (V.ref a),some (V.ref wd),some (V.ref du),some (V.ref hd),some (V.ref fo),some (V.ref p),some (V.ref od),none,none]) (fun nx hk=>?_) ?_
  ·walk_at "RD"
   have s38:=s7.trans s8
   refine⟨kv es,.inl (s38 _ _ hw3),by rw [kv_len];omega,fun ms hp hs l nl=>⟨by omega,fun q nq=>?_⟩⟩
   rw [z374] at hp
   have S:=(z0 (o:=HO.lst (ms.map V.int)) nl).trans (z0 (o:=HO.lst [V.int 1,V.int (-1)]) nq)
   have lm:ms.length=es.length:=by rw [hp.length_eq,List.length_map]
   refine⟨a,ns,_,rfl,Same.seq ((s1.trans (s2.trans s3)).trans (s38.trans S)) hS,hbt,by decide,fun c cb=>⟨c,rfl,by decide,_,SqL.of upd_same,?_⟩⟩
   have kk:∀ n∈ms,∃ e∈es,e.k=n:=fun n hn=>by
    obtain⟨e,he,e1⟩:=List.mem_map.mp (hp.mem_iff.mp hn)
    exact⟨e,he,e1⟩
   have hl':=(z0 (o:=HO.lst [V.int 1,V.int (-1)]) nq) _ _ (upd_same (H:=H8) (a:=l) (o:=HO.lst (ms.map V.int)))
   rcases (show c % 2=0∨c % 2=1 by omega) with z | z <;> rw [z]
   ·exact⟨_,rfl,_,true,rfl,SqL.of hl',fun od no=>hk _ _ ⟨od,ms,S.trans (z0 no),upd_same,kk,by omega,rfl⟩⟩
   ·exact⟨_,rfl,_,false,rfl,SqL.of hl',fun od no=>hk _ _ ⟨od,ms.reverse,S.trans (z0 no),by rw [upd_same,List.map_reverse];rfl,fun n hn=>kk n (List.mem_reverse.mp hn),by rw [List.length_reverse];omega,rfl⟩⟩
  rintro σ H9 ⟨od,os,s9,ho9,ko,lo,rfl⟩
  have s39:=s7.trans (s8.trans s9)
  have hw9:=s39 _ _ hw3
  have en9:=en3.tups (z132 s39)
  have hr9:=hr3.same s39
  have hb9:=hb8.same s9
  have n3:H3 bd=none:=s7.free nbd
  have bw:bd≠wd:=fun e=>by rw [e,hw3] at n3;cases n3
  have bu:bd≠du:=fun e=>by rw [e,hr3.1] at n3;cases n3
  have bo:bd≠od:=fun e=>by have:=hb9.tb;rw [e,ho9] at this;cases this
  have nt9:∀ xs,H9 bd≠some (.tup xs):=fun xs z=>by rw [hb9.tb] at z;cases z
  refine zz1 (fun σ H'=>∃ bs,SameB bd H9 H'∧BookAt ad.C_Book H' p bd bs∧Sub bs es∧(bs.map (·.k)).Nodup∧Apt bs∧σ=[some (V.ref a),some (V.ref wd),some (V.ref du),some (V.ref hd),some (V.ref fo),some (V.ref p),some (V.ref od),none,none]) (fun nx hk=>?_) ?_
  ·walk_at "RD"
   refine⟨p,bd,wd,od,du,[],es,os,rs,rfl,hb9,hw9,en9,ho9,hr9,mo,lr,(fun e he=>by cases he),List.nodup_nil,(fun e he=>by cases he),ko,lo,bw,bo,bu,fun H' bs' z1 z2 z3 z4 z5=>⟨true,rfl,?_⟩⟩
   rw [if_neg (by decide)]
   exact hk _ _ ⟨bs',z1,z2,z3,z4,z5,rfl⟩
  rintro σ H10 ⟨bs,sB10,hb10,sb10,nd10,ap10,rfl⟩
  refine zz1 (fun σ H'=>∃ (ke:Addr) (ks:List Ent),Same H10 H'∧H10 ke=none∧H' ke=some (.dK (dw ks))∧Sub ks bs∧(ks.map (·.k)).Nodup∧σ=[some (V.ref a),some (V.ref wd),some (V.ref du),some (V.ref hd),some (V.ref fo),some (V.ref p),some (V.ref od),some (V.ref ke),none]) (fun nx hk=>?_) ?_
  ·walk_at "RD"
   obtain⟨⟨dxK,oK⟩,dK⟩:=id hb10
   have lK:=sub_len sb10 nd10
   refine⟨_,_,oK,w_no bd (by decide +kernel),p,bd,bs,rfl,hb10,by omega,fun l ms nl hp hs=>⟨l,rfl,⟨_,SqL.of upd_same⟩,?_⟩⟩
   have SK:=z0 (o:=HO.lst (ms.map V.int)) nl
   have hlK:=upd_same (H:=H10) (a:=l) (o:=HO.lst (ms.map V.int))
   generalize upd H10 l (HO.lst (ms.map V.int))=HL at SK hlK ⊢
   have ndm:ms.Nodup:=hp.nodup_iff.mpr nd10
   have lm:ms.length=bs.length:=by rw [hp.length_eq,List.length_map]
   refine z127 (K:=K) (a:=l) (xs:=ms.map V.int) (fun i ys H'=>Same HL H'∧∃ ts:List (Addr × Ent),ys=(ts.map fun r=>V.ref r.1)∧(∀ x∈ts,H' x.1=some (.tup [.int x.2.k,x.2.v])∧x.2∈bs)∧ts.map (·.2.k)=ms.take i) ⟨Same.refl _,[],rfl,(fun x hx=>by cases hx),by simp⟩ ?_ ?_ ?_
   ·rintro i ys H' _ ⟨s',_⟩
    exact SqL.of (s' _ _ hlK)
   ·rintro i y ys H' hy ⟨s',ts,rfl,hts,ets⟩
    rw [List.getElem?_map] at hy
    obtain⟨n,hn,rfl⟩:=Option.map_eq_some_iff.mp hy
    obtain⟨e,he,rfl⟩:=List.mem_map.mp (hp.mem_iff.mp (List.mem_of_getElem? hn))
    have hi:i < ms.length:=(List.getElem?_eq_some_iff.mp hn).1
    have lt:ts.length=i:=by
     have:=congrArg List.length ets
     rw [List.length_map,List.length_take] at this
     omega
    have hb':=hb10.same (SK.trans s')
    obtain⟨⟨dx',o'⟩,_⟩:=id hb'
    walk_at "RD"
    dsimp only [tYes]
    rw [if_pos rfl]
    refine⟨_,_,o',w_no bd (by decide +kernel),p,bd,bs,e.k,rfl,hb',nd10,fun e' he' ek=>?_,fun h=>absurd rfl (h e he)⟩
    obtain rfl:e'=e:=z107 nd10 he he' ek
    refine⟨by omega,fun q nq=>⟨by rw [List.length_map];omega,s'.trans (z0 nq),ts++[(q,e')],by rw [List.map_append];rfl,fun x hx=>?_,by rw [List.map_append,ets,List.take_succ,hn];rfl⟩⟩
    rcases List.mem_append.mp hx with hx | hx
    ·exact⟨(z0 nq) _ _ (hts x hx).1,(hts x hx).2⟩
    ·rw [List.mem_singleton.mp hx]
     exact⟨upd_same,he'⟩
   ·rintro ys H' ⟨s',ts,rfl,hts,ets⟩
    rw [List.length_map,List.take_length] at ets
    have lt:ts.length=ms.length:=by rw [← ets,List.length_map]
    refine⟨by rw [List.length_map];omega,fun D nD=>⟨ts.map (·.1),by rw [upd_same,List.map_map];rfl,dw (ts.map (·.2)),z340 fun x hx=>(z0 nD) _ _ (hts x hx).1,fun d nd'=>?_⟩⟩
    have eK:(ts.map (·.2)).map (·.k)=ms:=by rw [List.map_map];exact ets
    rw [z394 (ks:=ts.map (·.2)) (by rw [eK];exact ndm)]
    have SS:=SK.trans (s'.trans ((z0 (o:=HO.lst (ts.map fun r=>V.ref r.1)) nD).trans (z0 (o:=HO.dK (dw (ts.map (·.2)))) nd')))
    refine hk _ _ ⟨d,ts.map (·.2),SS,SK.free (s'.free ((z0 nD).free nd')),upd_same,fun x hx=>?_,by rw [eK];exact ndm,rfl⟩
    obtain⟨y,hy,rfl⟩:=List.mem_map.mp hx
    exact(hts y hy).2
  rintro σ H11 ⟨ke,ks,s11,nk10,hk11,sk,ndk,rfl⟩
  have hw10:=sB10 _ _ hw9 bw.symm
  have sB11:SameB bd H9 H11:=fun b o hb n=>s11 _ _ (sB10 b o hb n)
  have en11:Ents H11 es:=en9.tups (sB11.tups nt9)
  have ske:Sub ks es:=fun e he=>sb10 e (sk e he)
  have enk:=z360 en11 ske ndk
  have apk:Apt ks:=ap10.sub sk
  have lk:=sub_len ske ndk
  have kw:ke≠wd:=fun e=>by rw [e,hw10] at nk10;cases nk10
  refine zz1 (fun σ H'=>Same H11 H'∧σ=[some (V.ref a),some (V.ref wd),some (V.ref du),some (V.ref hd),some (V.ref fo),some (V.ref p),some (V.ref od),some (V.ref ke),none]) (fun nx hk=>?_) ?_
  ·walk_at "RD"
   refine⟨ke,ks,rfl,hk11,enk,by omega,fun l vs H' nl s h1 h2 h3=>⟨by omega,fun q nq=>?_⟩⟩
   have v0:vs=[]:=List.map_eq_nil_iff.mp (h2.nil apk)
   rw [v0] at h1
   have S:=s.trans (z0 (o:=HO.lst []) nq)
   refine⟨_,.lst (SqL.of ((z0 nq) _ _ h1.1)) .nil,_,.lst (SqL.of upd_same) .nil,rfl,rfl,?_⟩
   rw [if_neg (by decide)]
   refine⟨ke,ks,rfl,S _ _ hk11,enk.tups (z132 S),apk,by omega,fun H' s'=>⟨true,rfl,?_⟩⟩
   rw [if_neg (by decide)]
   exact hk _ _ ⟨S.trans s',rfl⟩
  rintro σ H12 ⟨s12,rfl⟩
  have hk12:=s12 _ _ hk11
  refine zz1 (fun σ H'=>Same H11 H'∧σ=[some (V.ref a),some (V.ref wd),some (V.ref du),some (V.ref hd),some (V.ref fo),some (V.ref p),some (V.ref od),some (V.ref ke),none]) (fun nx hk=>?_) ?_
  ·walk_at "RD"
   refine .inl ⟨ke,dw ks,hk12,dw ks,.inl ⟨hk12,fun o=>?_⟩⟩
   have sf:SameB ke H12 (upd H12 ke (.frz o (.dK (dw ks)))):=z81 (same_b (Same.refl _))
   have ntk:∀ xs,H12 ke≠some (.tup xs):=fun xs z=>by rw [hk12] at z;cases z
   have hwF:=sf _ _ (s12 _ _ (sB11 _ _ hw9 bw.symm)) kw.symm
   refine z380 (z537 upd_same) (fun _=>false) (fun v=>v) (fun y hy Q' h=>?_) (fun y hy z=>absurd z (by simp)) (by rw [List.length_map,dw_len];omega) (fun D hD=>?_)
   ·obtain⟨q,hq',rfl⟩:=List.mem_map.mp hy
    obtain⟨i,hi⟩:=List.getElem?_of_mem hq'
    obtain⟨e,he,e1,e2⟩:=dw_at (k:=q.1) (v:=q.2) hi
    have me:=List.mem_of_getElem? he
    have wy:=WayAt.tups (sf.tups ntk) ((enk.tups (z132 s12)).ok e me).1
    rw [e1]
    walk_at "RD"
    refine⟨e.v,fz_get upd_same ndk me,e.v,by rw [← z134 en9.nd (ske e me)];exact DGet.k (k:=.inl e.k) hwF,_,z452 wy,_,z452 wy,z273 _ _,z273 _ _,?_⟩
    rw [z353 (z273 _ _)]
    exact h
   ·have Dk:D≠ke:=fun e=>by rw [e,upd_same] at hD;cases hD
    refine⟨⟨o,by rw [upd_ne Dk.symm,upd_same]⟩,by omega,fun q nq=>?_⟩
    have qD:D≠q:=fun e=>by rw [e,upd_ne (fun z=>Dk (e ▸ z)),upd_same] at nq;cases nq
    refine⟨_,.lst (SqL.of (xs:=[]) (by rw [upd_ne qD,upd_ne Dk,upd_same];simp)) .nil,_,.lst (SqL.of upd_same) .nil,rfl,rfl,?_⟩
    rw [if_neg (by decide)]
    exact hk _ _ ⟨s12.trans ((z203 hk12 (sf.new hD)).trans (z0 nq)),rfl⟩
  rintro σ H13 ⟨s13,rfl⟩
  have hk13:=s13 _ _ hk11
  refine zz1 (fun σ H'=>∃ (lf:Addr) (ls:List Int),Same H11 H'∧H' lf=some (.lst (ls.map V.int))∧(∀ n∈ls,∃ e∈es,e.k=n)∧ls.length≤1000∧σ=[some (V.ref a),some (V.ref wd),some (V.ref du),some (V.ref hd),some (V.ref fo),some (V.ref p),some (V.ref od),some (V.ref ke),some (V.ref lf)]) (fun nx hk=>?_) ?_
  ·walk_at "RD"
   have ho13:=s13 _ _ (sB11 _ _ ho9 bo.symm)
   refine⟨⟨_,SqL.of ho13⟩,z444 (as:=os) (u:=V.int) (g:=V.int) (src_list (SqL.of ho13)) (fun z=>!(valV (dw ks) (.inl z)).isSome) (fun z hz Q' h=>?_) (fun z hz _ Q' h=>?_) (by omega) (fun D nD=>?_)⟩
   ·walk_at "RD"
    exact⟨_,DGet.k (k:=.inl z) hk13,h⟩
   ·walk_at "RD"
    exact h
   ·exact hk _ _ ⟨D,os.filter _,s13.trans (z0 nD),upd_same,fun n hn=>ko n (List.mem_filter.mp hn).1,Nat.le_trans (List.length_filter_le _ _) lo,rfl⟩
  rintro σ H14 ⟨lf,ls,s14,hl14,kl,ll,rfl⟩
  refine zz1 (fun σ H'=>∃ bs,SameB bd H9 H'∧BookAt ad.C_Book H' p bd bs∧Sub bs es∧(bs.map (·.k)).Nodup∧Apt bs∧σ=[some (V.ref a),some (V.ref wd),some (V.ref du),some (V.ref hd),some (V.ref fo),some (V.ref p),some (V.ref od),some (V.ref ke),some (V.ref lf)]) (fun nx hk=>?_) ?_
  ·have sB14:SameB bd H9 H14:=fun b o hb n=>s14 _ _ (sB11 b o hb n)
   have hb14:=(hb10.same s11).same s14
   have hk14:=s14 _ _ hk11
   have n0:H bd=none:=(s1.trans (s2.trans s3)).free n3
   have s09:=s1.trans (s2.trans (s3.trans s39))
   walk_at "RD"
   intro q nq
   have S:=z0 (o:=HO.dK []) nq
   have e0:(dw ks).length=0↔ks=[]:=dw_nil
   refine⟨ke,q,dw ks,[],true,rfl,rfl,S _ _ hk14,upd_same,fun e=>?_,_,rfl,?_⟩
   ·rw [e0.mp e]
    exact .nil
   by_cases k0:ks=[]
   ·rw [if_neg (by simp [k0,dw,kv])]
    exact hk _ _ ⟨bs,fun b o hb n=>S _ _ (sB14 b o hb n),hb14.same S,sb10,nd10,ap10,rfl⟩
   ·have kl0:0 < ks.length:=List.length_pos_iff.mpr k0
    rw [if_pos (by have:(dw ks).length≠0:=fun z=>k0 (e0.mp z);simp [this])]
    refine⟨by omega,fun r nr=>?_⟩
    have S2:=S.trans (z0 (o:=HO.lst []) nr)
    refine⟨_,z589 (SqL.of (S2 _ _ hl14)),_,.lst (SqL.of upd_same) .nil,shaped_ints _,rfl,?_⟩
    have sB2:SameB bd H9 (upd (upd H14 q (HO.dK [])) r (HO.lst [])):=fun b o hb n=>S2 _ _ (sB14 b o hb n)
    have hb2:=hb14.same S2
    have hk2:=S2 _ _ hk14
    have hl2:=S2 _ _ hl14
    generalize upd (upd H14 q (HO.dK [])) r (HO.lst [])=H20 at S2 sB2 hb2 hk2 hl2 ⊢
    by_cases l0:ls=[]
    ·rw [l0,if_neg (by simp [PyData.eqv,PyData.eqvAll])]
     exact hk _ _ ⟨bs,sB2,hb2,sb10,nd10,ap10,rfl⟩
    ·rw [if_pos (by cases ls <;> simp_all [PyData.eqv,PyData.eqvAll])]
     obtain⟨⟨dx2,o2⟩,d2⟩:=id hb2
     refine⟨_,_,o2,w_no bd (by decide +kernel),kv ks,.inl hk2,by rw [kv_len];omega,fun ms hp hs l nl=>?_⟩
     rw [z374] at hp
     have S3:=z0 (o:=HO.lst (ms.map V.int)) nl
     have lm:ms.length=ks.length:=by rw [hp.length_eq,List.length_map]
     have sB3:SameB bd H9 (upd H20 l (HO.lst (ms.map V.int))):=fun b o hb n=>S3 _ _ (sB2 b o hb n)
     have hl3:=upd_same (H:=H20) (a:=l) (o:=HO.lst (ms.map V.int))
     have hb3:=hb2.same S3
     have hk3:=S3 _ _ hk2
     have hf3:=S3 _ _ hl2
     generalize upd H20 l (HO.lst (ms.map V.int))=H21 at S3 sB3 hl3 hb3 hk3 hf3 ⊢
     have sS:Same H H21:=fun b o e=>sB3 _ _ (s09 _ _ e) (fun z=>by rw [z,n0] at e;cases e)
     refine⟨a,ns,_,rfl,Same.seq sS hS,hbt,by decide,fun c cb=>⟨dw ks,hk3,c,rfl,by rw [dw_len];omega,_,SqL.of hl3,_,z468 (Int.emod_nonneg _ (by rw [dw_len];omega)) (by rw [lm,← dw_len ks];exact Int.emod_lt_of_pos _ (by rw [dw_len];omega)),?_⟩⟩
     have nm:ms.getD (c % ((dw ks).length:Int)).toNat 0∈ms:=by
      have h1:=Int.emod_nonneg c (b:=((dw ks).length:Int)) (by rw [dw_len];omega)
      have h2:=Int.emod_lt_of_pos c (b:=((dw ks).length:Int)) (by rw [dw_len];omega)
      rw [dw_len] at h1 h2 ⊢
      have h3:(c % (ks.length:Int)).toNat < ms.length:=by omega
      rw [List.getD_eq_getElem?_getD,List.getElem?_eq_getElem h3]
      exact List.getElem_mem h3
     generalize ms.getD (c % ((dw ks).length:Int)).toNat 0=n at nm ⊢
     obtain⟨e,he,ek⟩:=List.mem_map.mp (hp.mem_iff.mp nm)
     refine⟨p,bd,bs,n,rfl,hb3,nd10,fun _=>?_,fun h=>absurd ek (h e (sk e he))⟩
     have sB4:SameB bd H9 (upd H21 bd (HO.dK (dw (dropE bs n)))):=z81 sB3
     obtain⟨⟨dx3,o3⟩,d3⟩:=id hb3
     have pd:p≠bd:=fun z=>by rw [z,d3] at o3;cases o3
     have ld:lf≠bd:=fun z=>by rw [z,d3] at hf3;cases hf3
     refine⟨p,bd,wd,lf,du,dropE bs n,es,ls,rs,rfl,⟨⟨dx3,by rw [upd_ne pd];exact o3⟩,upd_same⟩,sB4 _ _ hw9 bw.symm,en9.tups (sB4.tups nt9),by rw [upd_ne ld];exact hf3,z331 hr9 sB4 bu nt9,mo,lr,(fun e he=>sb10 e (List.mem_filter.mp he).1),(List.Sublist.map _ List.filter_sublist).nodup nd10,ap10.sub (fun x hx=>(List.mem_filter.mp hx).1),kl,ll,bw,ld.symm,bu,fun H' bs' z1 z2 z3 z4 z5=>⟨true,rfl,?_⟩⟩
     rw [if_neg (by decide)]
     exact hk _ _ ⟨bs',sB4.trans z1,z2,z3,z4,z5,rfl⟩
  clear hb10 sb10 nd10 ap10 sk
  rintro σ H15 ⟨bs,sB15,hb15,sb15,nd15,ap15,rfl⟩
  refine zz1 (fun σ H'=>∃ (ke:Addr) (ks:List Ent),Same H15 H'∧H15 ke=none∧H' ke=some (.dK (dw ks))∧Sub ks bs∧(ks.map (·.k)).Nodup∧σ=[some (V.ref a),some (V.ref wd),some (V.ref du),some (V.ref hd),some (V.ref fo),some (V.ref p),some (V.ref od),some (V.ref ke),some (V.ref lf)]) (fun nx hk=>?_) ?_
  ·walk_at "RD"
   obtain⟨⟨dxK,oK⟩,dK⟩:=id hb15
   have lK:=sub_len sb15 nd15
   refine⟨_,_,oK,w_no bd (by decide +kernel),p,bd,bs,rfl,hb15,by omega,fun l ms nl hp hs=>⟨l,rfl,⟨_,SqL.of upd_same⟩,?_⟩⟩
   have SK:=z0 (o:=HO.lst (ms.map V.int)) nl
   have hlK:=upd_same (H:=H15) (a:=l) (o:=HO.lst (ms.map V.int))
   generalize upd H15 l (HO.lst (ms.map V.int))=HL at SK hlK ⊢
   have ndm:ms.Nodup:=hp.nodup_iff.mpr nd15
   have lm:ms.length=bs.length:=by rw [hp.length_eq,List.length_map]
   refine z127 (K:=K) (a:=l) (xs:=ms.map V.int) (fun i ys H'=>Same HL H'∧∃ ts:List (Addr × Ent),ys=(ts.map fun r=>V.ref r.1)∧(∀ x∈ts,H' x.1=some (.tup [.int x.2.k,x.2.v])∧x.2∈bs)∧ts.map (·.2.k)=ms.take i) ⟨Same.refl _,[],rfl,(fun x hx=>by cases hx),by simp⟩ ?_ ?_ ?_
   ·rintro i ys H' _ ⟨s',_⟩
    exact SqL.of (s' _ _ hlK)
   ·rintro i y ys H' hy ⟨s',ts,rfl,hts,ets⟩
    rw [List.getElem?_map] at hy
    obtain⟨n,hn,rfl⟩:=Option.map_eq_some_iff.mp hy
    obtain⟨e,he,rfl⟩:=List.mem_map.mp (hp.mem_iff.mp (List.mem_of_getElem? hn))
    have hi:i < ms.length:=(List.getElem?_eq_some_iff.mp hn).1
    have lt:ts.length=i:=by
     have:=congrArg List.length ets
     rw [List.length_map,List.length_take] at this
     omega
    have hb':=hb15.same (SK.trans s')
    obtain⟨⟨dx',o'⟩,_⟩:=id hb'
    walk_at "RD"
    dsimp only [tYes]
    rw [if_pos rfl]
    refine⟨_,_,o',w_no bd (by decide +kernel),p,bd,bs,e.k,rfl,hb',nd15,fun e' he' ek=>?_,fun h=>absurd rfl (h e he)⟩
    obtain rfl:e'=e:=z107 nd15 he he' ek
    refine⟨by omega,fun q nq=>⟨by rw [List.length_map];omega,s'.trans (z0 nq),ts++[(q,e')],by rw [List.map_append];rfl,fun x hx=>?_,by rw [List.map_append,ets,List.take_succ,hn];rfl⟩⟩
    rcases List.mem_append.mp hx with hx | hx
    ·exact⟨(z0 nq) _ _ (hts x hx).1,(hts x hx).2⟩
    ·rw [List.mem_singleton.mp hx]
     exact⟨upd_same,he'⟩
   ·rintro ys H' ⟨s',ts,rfl,hts,ets⟩
    rw [List.length_map,List.take_length] at ets
    have lt:ts.length=ms.length:=by rw [← ets,List.length_map]
    refine⟨by rw [List.length_map];omega,fun D nD=>⟨ts.map (·.1),by rw [upd_same,List.map_map];rfl,dw (ts.map (·.2)),z340 fun x hx=>(z0 nD) _ _ (hts x hx).1,fun d nd'=>?_⟩⟩
    have eK:(ts.map (·.2)).map (·.k)=ms:=by rw [List.map_map];exact ets
    rw [z394 (ks:=ts.map (·.2)) (by rw [eK];exact ndm)]
    have SS:=SK.trans (s'.trans ((z0 (o:=HO.lst (ts.map fun r=>V.ref r.1)) nD).trans (z0 (o:=HO.dK (dw (ts.map (·.2)))) nd')))
    refine hk _ _ ⟨d,ts.map (·.2),SS,SK.free (s'.free ((z0 nD).free nd')),upd_same,fun x hx=>?_,by rw [eK];exact ndm,rfl⟩
    obtain⟨y,hy,rfl⟩:=List.mem_map.mp hx
    exact(hts y hy).2
  rintro σ H16 ⟨ke,ks,s16,_,hk16,sk,ndk,rfl⟩
  have sB16:SameB bd H9 H16:=fun b o hb n=>s16 _ _ (sB15 b o hb n)
  have ske:Sub ks es:=fun e he=>sb15 e (sk e he)
  have enk:=z360 (en9.tups (sB16.tups nt9)) ske ndk
  have apk:Apt ks:=ap15.sub sk
  have lk:=sub_len ske ndk
  walk_at "RD"
  refine⟨ke,ks,rfl,hk16,enk,by omega,fun l vs H' nl s h1 h2 h3=>⟨by omega,fun q nq=>?_⟩⟩
  have v0:vs=[]:=List.map_eq_nil_iff.mp (h2.nil apk)
  rw [v0] at h1
  have S:=s.trans (z0 (o:=HO.lst []) nq)
  refine⟨_,.lst (SqL.of ((z0 nq) _ _ h1.1)) .nil,_,.lst (SqL.of upd_same) .nil,rfl,rfl,?_⟩
  rw [if_pos (by decide)]
  exact⟨ke,ks,rfl,S _ _ hk16,enk.tups (z132 S),apk,by omega,fun H' _=>hq _⟩
end

set_option maxHeartbeats 4000000 in
theorem all_mk {l:PySem.W.OpenLaw}{w:World}{K:PySem.W.Frag}{h:Heap}{mg:Str→Option Value}{fa:Addr}(X:K.In h) (G:h.Ns mainGlobals mg) (hfa:mg "law"=some (.ref fa))
  {C_Book:Addr}
  {C_NoCarrier:Addr}
  {C_FloorError:Addr}
  {C_Meets:Addr}
  {f_q4:Addr}{od_q4 an_q4:Option Addr}{sl_q4:Array (Option Value)}{oc_q4 kV_q4 dc_q4 pm_q4 cd_q4 ct_q4:Value}
  {f_q9:Addr}{od_q9 an_q9:Option Addr}{sl_q9:Array (Option Value)}{oc_q9 kV_q9 dc_q9 pm_q9 cd_q9 ct_q9:Value}
  {f_q6:Addr}{od_q6 an_q6:Option Addr}{sl_q6:Array (Option Value)}{oc_q6 kV_q6 dc_q6 pm_q6 cd_q6 ct_q6:Value}
  {f_q10:Addr}{od_q10 an_q10:Option Addr}{sl_q10:Array (Option Value)}{oc_q10 kV_q10 dc_q10 pm_q10 cd_q10 ct_q10:Value}
  {f_q11:Addr}{od_q11 an_q11:Option Addr}{sl_q11:Array (Option Value)}{oc_q11 kV_q11 dc_q11 pm_q11 cd_q11 ct_q11:Value}
  {f_q2:Addr}{od_q2 an_q2:Option Addr}{sl_q2:Array (Option Value)}{oc_q2 kV_q2 dc_q2 pm_q2 cd_q2 ct_q2:Value}
  {f_q1:Addr}{od_q1 an_q1:Option Addr}{sl_q1:Array (Option Value)}{oc_q1 kV_q1 dc_q1 pm_q1 cd_q1 ct_q1:Value}
  {f_q12:Addr}{od_q12 an_q12:Option Addr}{sl_q12:Array (Option Value)}{oc_q12 kV_q12 dc_q12 pm_q12 cd_q12 ct_q12:Value}
  {f_q7:Addr}{od_q7 an_q7:Option Addr}{sl_q7:Array (Option Value)}{oc_q7 kV_q7 dc_q7 pm_q7 cd_q7 ct_q7:Value}
  {f_q13:Addr}{od_q13 an_q13:Option Addr}{sl_q13:Array (Option Value)}{oc_q13 kV_q13 dc_q13 pm_q13 cd_q13 ct_q13:Value}
  {f_q8:Addr}{od_q8 an_q8:Option Addr}{sl_q8:Array (Option Value)}{oc_q8 kV_q8 dc_q8 pm_q8 cd_q8 ct_q8:Value}
  {f_q14:Addr}{od_q14 an_q14:Option Addr}{sl_q14:Array (Option Value)}{oc_q14 kV_q14 dc_q14 pm_q14 cd_q14 ct_q14:Value}
  {f_q3:Addr}{od_q3 an_q3:Option Addr}{sl_q3:Array (Option Value)}{oc_q3 kV_q3 dc_q3 pm_q3 cd_q3 ct_q3:Value}
  {f_q0:Addr}{od_q0 an_q0:Option Addr}{sl_q0:Array (Option Value)}{oc_q0 kV_q0 dc_q0 pm_q0 cd_q0 ct_q0:Value}
  {f_q15:Addr}{od_q15 an_q15:Option Addr}{sl_q15:Array (Option Value)}{oc_q15 kV_q15 dc_q15 pm_q15 cd_q15 ct_q15:Value}
  {f_q20:Addr}{od_q20 an_q20:Option Addr}{sl_q20:Array (Option Value)}{oc_q20 kV_q20 dc_q20 pm_q20 cd_q20 ct_q20:Value}
  {f_q21:Addr}{od_q21 an_q21:Option Addr}{sl_q21:Array (Option Value)}{oc_q21 kV_q21 dc_q21 pm_q21 cd_q21 ct_q21:Value}
  {f_Lrows:Addr}{od_Lrows an_Lrows:Option Addr}{sl_Lrows:Array (Option Value)}{oc_Lrows kV_Lrows dc_Lrows pm_Lrows cd_Lrows ct_Lrows:Value}
  {f_q16:Addr}{od_q16 an_q16:Option Addr}{sl_q16:Array (Option Value)}{oc_q16 kV_q16 dc_q16 pm_q16 cd_q16 ct_q16:Value}
  {f_q5:Addr}{od_q5 an_q5:Option Addr}{sl_q5:Array (Option Value)}{oc_q5 kV_q5 dc_q5 pm_q5 cd_q5 ct_q5:Value}
  {f_q17:Addr}{od_q17 an_q17:Option Addr}{sl_q17:Array (Option Value)}{oc_q17 kV_q17 dc_q17 pm_q17 cd_q17 ct_q17:Value}
  {f_Ldue:Addr}{od_Ldue an_Ldue:Option Addr}{sl_Ldue:Array (Option Value)}{oc_Ldue kV_Ldue dc_Ldue pm_Ldue cd_Ldue ct_Ldue:Value}
  {f_Lare:Addr}{od_Lare an_Lare:Option Addr}{sl_Lare:Array (Option Value)}{oc_Lare kV_Lare dc_Lare pm_Lare cd_Lare ct_Lare:Value}
  {f_q22:Addr}{od_q22 an_q22:Option Addr}{sl_q22:Array (Option Value)}{oc_q22 kV_q22 dc_q22 pm_q22 cd_q22 ct_q22:Value}
  {f_q18:Addr}{od_q18 an_q18:Option Addr}{sl_q18:Array (Option Value)}{oc_q18 kV_q18 dc_q18 pm_q18 cd_q18 ct_q18:Value}
  {f_q19:Addr}{od_q19 an_q19:Option Addr}{sl_q19:Array (Option Value)}{oc_q19 kV_q19 dc_q19 pm_q19 cd_q19 ct_q19:Value}
  {f_law:Addr}{od_law an_law:Option Addr}{sl_law:Array (Option Value)}{oc_law kV_law dc_law pm_law cd_law ct_law:Value}
  (aC_Book:PySem.W.nsIn K mainGlobals "Book"=some (some (.ref C_Book)))
  (pg_Book:PySem.W.plainGet K C_Book Str.empty=true) (hd_Book:PySem.W.hasDictIn K C_Book=true) (po_Book:PySem.W.plainOver K C_Book=true) (sa_Book:PySem.W.findIn K (.ref C_Book) "__setattr__"=some (some (.builtin "object.__setattr__"))) (kc_Book:PySem.W.keepIn K (.ref C_Book)=true)
  (mk_Book:PySem.W.makesIn K C_Book=true)
  (n_Book_ways:PySem.W.findIn K (.ref C_Book) "ways"=some none)
  (aC_NoCarrier:PySem.W.nsIn K mainGlobals "NoCarrier"=some (some (.ref C_NoCarrier))) (er_NoCarrier:PySem.W.excIn K C_NoCarrier [.type "ValueError",.type "Exception",.type "BaseException",.type "object"] "ValueError.__new__"=true)
  (aC_FloorError:PySem.W.nsIn K mainGlobals "FloorError"=some (some (.ref C_FloorError)))
  (aC_Meets:PySem.W.nsIn K mainGlobals "Meets"=some (some (.ref C_Meets)))
  (xm_Meets_Meets:PySem.W.exmOne K (.ref C_Meets) (.ref C_Meets)=some true)
  (xn_Meets:PySem.W.findIn K (.ref C_Meets) "__init__"=some (some (.ref f_q4)))
  (xi_Meets:exiIn K C_Meets f_q4=true)
  (xf_Meets:PySem.W.isFn K (.ref f_q4)=true)
  (xt_sa:PySem.W.findIn K (.ref C_Meets) "__setattr__"=some (some (.builtin "object.__setattr__")))
  (xt_mro:(PySem.W.clsIn K C_Meets).any (fun cd=>z32 cd.mro)=true)
  (xt_dict:(PySem.W.clsIn K C_Meets).any (·.hasDict)=true)
  (xt_no:PySem.W.findIn K (.ref C_Meets) "other"=some none)
  (xt_hd:PySem.W.hasDictIn K C_Meets=true)
  (xt_ga:PySem.W.findIn K (.ref C_Meets) "__getattribute__"=some (some (.builtin "BaseException.__getattribute__")))
  (xt_gn:PySem.W.findIn K (.ref C_Meets) "__getattr__"=some none)
  (xt_bx:PySem.W.mroIn K C_Meets (.type "BaseException")=some true)
  (i_q4:PySem.W.isFn K (.ref f_q4)=true)
  (l_q4:K.lookup f_q4=some ⟨oc_q4,od_q4,.func (PySem.W.fnOf "__init__" "Meets.__init__" (defArgs s_q4) (defBody s_q4) (defScope s_q4) .none kV_q4 dc_q4 pm_q4 an_q4 cd_q4 ct_q4),sl_q4⟩) (c_q4:PySem.W.codeIn K cd_q4 "Meets.__init__"=true) (k_q4:PySem.W.keepIn K (.ref f_q4)=true)
  (a_q9:PySem.W.nsIn K mainGlobals "is_whole"=some (some (.ref f_q9)))
  (l_q9:K.lookup f_q9=some ⟨oc_q9,od_q9,.func (PySem.W.fnOf "is_whole" "is_whole" (defArgs s_q9) (defBody s_q9) (defScope s_q9) .none kV_q9 dc_q9 pm_q9 an_q9 cd_q9 ct_q9),sl_q9⟩) (c_q9:PySem.W.codeIn K cd_q9 "is_whole"=true) (k_q9:PySem.W.keepIn K (.ref f_q9)=true)
  (a_q6:PySem.W.nsIn K mainGlobals "last_time"=some (some (.ref f_q6)))
  (l_q6:K.lookup f_q6=some ⟨oc_q6,od_q6,.func (PySem.W.fnOf "last_time" "last_time" (defArgs s_q6) (defBody s_q6) (defScope s_q6) .none kV_q6 dc_q6 pm_q6 an_q6 cd_q6 ct_q6),sl_q6⟩) (c_q6:PySem.W.codeIn K cd_q6 "last_time"=true) (k_q6:PySem.W.keepIn K (.ref f_q6)=true)
  (a_q10:PySem.W.nsIn K mainGlobals "index_at"=some (some (.ref f_q10)))
  (l_q10:K.lookup f_q10=some ⟨oc_q10,od_q10,.func (PySem.W.fnOf "index_at" "index_at" (defArgs s_q10) (defBody s_q10) (defScope s_q10) .none kV_q10 dc_q10 pm_q10 an_q10 cd_q10 ct_q10),sl_q10⟩) (c_q10:PySem.W.codeIn K cd_q10 "index_at"=true) (k_q10:PySem.W.keepIn K (.ref f_q10)=true)
  (a_q11:PySem.W.nsIn K mainGlobals "place_at"=some (some (.ref f_q11)))
  (l_q11:K.lookup f_q11=some ⟨oc_q11,od_q11,.func (PySem.W.fnOf "place_at" "place_at" (defArgs s_q11) (defBody s_q11) (defScope s_q11) .none kV_q11 dc_q11 pm_q11 an_q11 cd_q11 ct_q11),sl_q11⟩) (c_q11:PySem.W.codeIn K cd_q11 "place_at"=true) (k_q11:PySem.W.keepIn K (.ref f_q11)=true)
  (a_q2:PySem.W.nsIn K mainGlobals "meeting_word"=some (some (.ref f_q2)))
  (l_q2:K.lookup f_q2=some ⟨oc_q2,od_q2,.func (PySem.W.fnOf "meeting_word" "meeting_word" (defArgs s_q2) (defBody s_q2) (defScope s_q2) .none kV_q2 dc_q2 pm_q2 an_q2 cd_q2 ct_q2),sl_q2⟩) (c_q2:PySem.W.codeIn K cd_q2 "meeting_word"=true) (k_q2:PySem.W.keepIn K (.ref f_q2)=true)
  (a_q1:PySem.W.nsIn K mainGlobals "first_meeting"=some (some (.ref f_q1)))
  (l_q1:K.lookup f_q1=some ⟨oc_q1,od_q1,.func (PySem.W.fnOf "first_meeting" "first_meeting" (defArgs s_q1) (defBody s_q1) (defScope s_q1) .none kV_q1 dc_q1 pm_q1 an_q1 cd_q1 ct_q1),sl_q1⟩) (c_q1:PySem.W.codeIn K cd_q1 "first_meeting"=true) (k_q1:PySem.W.keepIn K (.ref f_q1)=true)
  (a_q12:PySem.W.nsIn K mainGlobals "meetings"=some (some (.ref f_q12)))
  (l_q12:K.lookup f_q12=some ⟨oc_q12,od_q12,.func (PySem.W.fnOf "meetings" "meetings" (defArgs s_q12) (defBody s_q12) (defScope s_q12) .none kV_q12 dc_q12 pm_q12 an_q12 cd_q12 ct_q12),sl_q12⟩) (c_q12:PySem.W.codeIn K cd_q12 "meetings"=true) (k_q12:PySem.W.keepIn K (.ref f_q12)=true)
  (a_q7:PySem.W.findIn K (.ref C_Book) "__init__"=some (some (.ref f_q7))) (i_q7:PySem.W.isFn K (.ref f_q7)=true)
  (l_q7:K.lookup f_q7=some ⟨oc_q7,od_q7,.func (PySem.W.fnOf "__init__" "Book.__init__" (defArgs s_q7) (defBody s_q7) (defScope s_q7) .none kV_q7 dc_q7 pm_q7 an_q7 cd_q7 ct_q7),sl_q7⟩) (c_q7:PySem.W.codeIn K cd_q7 "Book.__init__"=true) (k_q7:PySem.W.keepIn K (.ref f_q7)=true)
  (a_q13:PySem.W.findIn K (.ref C_Book) "put"=some (some (.ref f_q13))) (i_q13:PySem.W.isFn K (.ref f_q13)=true)
  (l_q13:K.lookup f_q13=some ⟨oc_q13,od_q13,.func (PySem.W.fnOf "put" "Book.put" (defArgs s_q13) (defBody s_q13) (defScope s_q13) .none kV_q13 dc_q13 pm_q13 an_q13 cd_q13 ct_q13),sl_q13⟩) (c_q13:PySem.W.codeIn K cd_q13 "Book.put"=true) (k_q13:PySem.W.keepIn K (.ref f_q13)=true)
  (a_q8:PySem.W.findIn K (.ref C_Book) "drop"=some (some (.ref f_q8))) (i_q8:PySem.W.isFn K (.ref f_q8)=true)
  (l_q8:K.lookup f_q8=some ⟨oc_q8,od_q8,.func (PySem.W.fnOf "drop" "Book.drop" (defArgs s_q8) (defBody s_q8) (defScope s_q8) .none kV_q8 dc_q8 pm_q8 an_q8 cd_q8 ct_q8),sl_q8⟩) (c_q8:PySem.W.codeIn K cd_q8 "Book.drop"=true) (k_q8:PySem.W.keepIn K (.ref f_q8)=true)
  (a_q14:PySem.W.findIn K (.ref C_Book) "way"=some (some (.ref f_q14))) (i_q14:PySem.W.isFn K (.ref f_q14)=true)
  (l_q14:K.lookup f_q14=some ⟨oc_q14,od_q14,.func (PySem.W.fnOf "way" "Book.way" (defArgs s_q14) (defBody s_q14) (defScope s_q14) .none kV_q14 dc_q14 pm_q14 an_q14 cd_q14 ct_q14),sl_q14⟩) (c_q14:PySem.W.codeIn K cd_q14 "Book.way"=true) (k_q14:PySem.W.keepIn K (.ref f_q14)=true)
  (a_q3:PySem.W.findIn K (.ref C_Book) "numbers"=some (some (.ref f_q3))) (i_q3:PySem.W.isFn K (.ref f_q3)=true)
  (l_q3:K.lookup f_q3=some ⟨oc_q3,od_q3,.func (PySem.W.fnOf "numbers" "Book.numbers" (defArgs s_q3) (defBody s_q3) (defScope s_q3) .none kV_q3 dc_q3 pm_q3 an_q3 cd_q3 ct_q3),sl_q3⟩) (c_q3:PySem.W.codeIn K cd_q3 "Book.numbers"=true) (k_q3:PySem.W.keepIn K (.ref f_q3)=true)
  (a_q0:PySem.W.findIn K (.ref C_Book) "check_number"=some (some (.ref f_q0))) (i_q0:PySem.W.isFn K (.ref f_q0)=true)
  (l_q0:K.lookup f_q0=some ⟨oc_q0,od_q0,.func (PySem.W.fnOf "check_number" "Book.check_number" (defArgs s_q0) (defBody s_q0) (defScope s_q0) .none kV_q0 dc_q0 pm_q0 an_q0 cd_q0 ct_q0),sl_q0⟩) (c_q0:PySem.W.codeIn K cd_q0 "Book.check_number"=true) (k_q0:PySem.W.keepIn K (.ref f_q0)=true)
  (a_q15:PySem.W.nsIn K mainGlobals "_law_cell_at"=some (some (.ref f_q15)))
  (l_q15:K.lookup f_q15=some ⟨oc_q15,od_q15,.func (PySem.W.fnOf "_law_cell_at" "_law_cell_at" (defArgs s_q15) (defBody s_q15) (defScope s_q15) .none kV_q15 dc_q15 pm_q15 an_q15 cd_q15 ct_q15),sl_q15⟩) (c_q15:PySem.W.codeIn K cd_q15 "_law_cell_at"=true) (k_q15:PySem.W.keepIn K (.ref f_q15)=true)
  (a_q20:PySem.W.nsIn K mainGlobals "_law_mixed"=some (some (.ref f_q20)))
  (l_q20:K.lookup f_q20=some ⟨oc_q20,od_q20,.func (PySem.W.fnOf "_law_mixed" "_law_mixed" (defArgs s_q20) (defBody s_q20) (defScope s_q20) .none kV_q20 dc_q20 pm_q20 an_q20 cd_q20 ct_q20),sl_q20⟩) (c_q20:PySem.W.codeIn K cd_q20 "_law_mixed"=true) (k_q20:PySem.W.keepIn K (.ref f_q20)=true)
  (a_q21:PySem.W.nsIn K mainGlobals "_law_whole"=some (some (.ref f_q21)))
  (l_q21:K.lookup f_q21=some ⟨oc_q21,od_q21,.func (PySem.W.fnOf "_law_whole" "_law_whole" (defArgs s_q21) (defBody s_q21) (defScope s_q21) .none kV_q21 dc_q21 pm_q21 an_q21 cd_q21 ct_q21),sl_q21⟩) (c_q21:PySem.W.codeIn K cd_q21 "_law_whole"=true) (k_q21:PySem.W.keepIn K (.ref f_q21)=true)
  (a_Lrows:PySem.W.nsIn K mainGlobals "_law_rows"=some (some (.ref f_Lrows)))
  (l_Lrows:K.lookup f_Lrows=some ⟨oc_Lrows,od_Lrows,.func (PySem.W.fnOf "_law_rows" "_law_rows" (defArgs z67) (defBody z67) (defScope z67) .none kV_Lrows dc_Lrows pm_Lrows an_Lrows cd_Lrows ct_Lrows),sl_Lrows⟩) (c_Lrows:PySem.W.codeIn K cd_Lrows "_law_rows"=true) (k_Lrows:PySem.W.keepIn K (.ref f_Lrows)=true)
  (a_q16:PySem.W.nsIn K mainGlobals "_law_meeting"=some (some (.ref f_q16)))
  (l_q16:K.lookup f_q16=some ⟨oc_q16,od_q16,.func (PySem.W.fnOf "_law_meeting" "_law_meeting" (defArgs s_q16) (defBody s_q16) (defScope s_q16) .none kV_q16 dc_q16 pm_q16 an_q16 cd_q16 ct_q16),sl_q16⟩) (c_q16:PySem.W.codeIn K cd_q16 "_law_meeting"=true) (k_q16:PySem.W.keepIn K (.ref f_q16)=true)
  (a_q5:PySem.W.nsIn K mainGlobals "_law_drawn_way"=some (some (.ref f_q5)))
  (l_q5:K.lookup f_q5=some ⟨oc_q5,od_q5,.func (PySem.W.fnOf "_law_drawn_way" "_law_drawn_way" (defArgs s_q5) (defBody s_q5) (defScope s_q5) .none kV_q5 dc_q5 pm_q5 an_q5 cd_q5 ct_q5),sl_q5⟩) (c_q5:PySem.W.codeIn K cd_q5 "_law_drawn_way"=true) (k_q5:PySem.W.keepIn K (.ref f_q5)=true)
  (a_q17:PySem.W.nsIn K mainGlobals "_law_ways_by"=some (some (.ref f_q17)))
  (l_q17:K.lookup f_q17=some ⟨oc_q17,od_q17,.func (PySem.W.fnOf "_law_ways_by" "_law_ways_by" (defArgs s_q17) (defBody s_q17) (defScope s_q17) .none kV_q17 dc_q17 pm_q17 an_q17 cd_q17 ct_q17),sl_q17⟩) (c_q17:PySem.W.codeIn K cd_q17 "_law_ways_by"=true) (k_q17:PySem.W.keepIn K (.ref f_q17)=true)
  (a_Ldue:PySem.W.nsIn K mainGlobals "_law_due"=some (some (.ref f_Ldue)))
  (l_Ldue:K.lookup f_Ldue=some ⟨oc_Ldue,od_Ldue,.func (PySem.W.fnOf "_law_due" "_law_due" (defArgs s_Ldue) (defBody s_Ldue) (defScope s_Ldue) .none kV_Ldue dc_Ldue pm_Ldue an_Ldue cd_Ldue ct_Ldue),sl_Ldue⟩) (c_Ldue:PySem.W.codeIn K cd_Ldue "_law_due"=true) (k_Ldue:PySem.W.keepIn K (.ref f_Ldue)=true)
  (a_Lare:PySem.W.nsIn K mainGlobals "_law_are"=some (some (.ref f_Lare)))
  (l_Lare:K.lookup f_Lare=some ⟨oc_Lare,od_Lare,.func (PySem.W.fnOf "_law_are" "_law_are" (defArgs s_Lare) (defBody s_Lare) (defScope s_Lare) .none kV_Lare dc_Lare pm_Lare an_Lare cd_Lare ct_Lare),sl_Lare⟩) (c_Lare:PySem.W.codeIn K cd_Lare "_law_are"=true) (k_Lare:PySem.W.keepIn K (.ref f_Lare)=true)
  (a_q22:PySem.W.nsIn K mainGlobals "_law_never"=some (some (.ref f_q22)))
  (l_q22:K.lookup f_q22=some ⟨oc_q22,od_q22,.func (PySem.W.fnOf "_law_never" "_law_never" (defArgs s_q22) (defBody s_q22) (defScope s_q22) .none kV_q22 dc_q22 pm_q22 an_q22 cd_q22 ct_q22),sl_q22⟩) (c_q22:PySem.W.codeIn K cd_q22 "_law_never"=true) (k_q22:PySem.W.keepIn K (.ref f_q22)=true)
  (a_q18:PySem.W.nsIn K mainGlobals "_law_refused"=some (some (.ref f_q18)))
  (l_q18:K.lookup f_q18=some ⟨oc_q18,od_q18,.func (PySem.W.fnOf "_law_refused" "_law_refused" (defArgs s_q18) (defBody s_q18) (defScope s_q18) .none kV_q18 dc_q18 pm_q18 an_q18 cd_q18 ct_q18),sl_q18⟩) (c_q18:PySem.W.codeIn K cd_q18 "_law_refused"=true) (k_q18:PySem.W.keepIn K (.ref f_q18)=true)
  (a_q19:PySem.W.nsIn K mainGlobals "_law_put_in"=some (some (.ref f_q19)))
  (l_q19:K.lookup f_q19=some ⟨oc_q19,od_q19,.func (PySem.W.fnOf "_law_put_in" "_law_put_in" (defArgs s_q19) (defBody s_q19) (defScope s_q19) .none kV_q19 dc_q19 pm_q19 an_q19 cd_q19 ct_q19),sl_q19⟩) (c_q19:PySem.W.codeIn K cd_q19 "_law_put_in"=true) (k_q19:PySem.W.keepIn K (.ref f_q19)=true)
  (a_law:PySem.W.nsIn K mainGlobals "law"=some (some (.ref f_law)))
  (l_law:K.lookup f_law=some ⟨oc_law,od_law,.func (PySem.W.fnOf "law" "law" (defArgs s_law) (defBody s_law) (defScope s_law) .none kV_law dc_law pm_law an_law cd_law ct_law),sl_law⟩) (c_law:PySem.W.codeIn K cd_law "law"=true) (k_law:PySem.W.keepIn K (.ref f_law)=true)
  (z_len:PySem.W.nsIn K mainGlobals "len"=some none)
  (z_range:PySem.W.nsIn K mainGlobals "range"=some none)
  (z_isinstance:PySem.W.nsIn K mainGlobals "isinstance"=some none)
  (z_all:PySem.W.nsIn K mainGlobals "all"=some none)
  (z_int:PySem.W.nsIn K mainGlobals "int"=some none)
  (z_bool:PySem.W.nsIn K mainGlobals "bool"=some none)
  (z_list:PySem.W.nsIn K mainGlobals "list"=some none)
  (z_tuple:PySem.W.nsIn K mainGlobals "tuple"=some none)
  (z_dict:PySem.W.nsIn K mainGlobals "dict"=some none)
  (z_set:PySem.W.nsIn K mainGlobals "set"=some none)
  (z_min:PySem.W.nsIn K mainGlobals "min"=some none)
  (z_max:PySem.W.nsIn K mainGlobals "max"=some none)
  (z_sorted:PySem.W.nsIn K mainGlobals "sorted"=some none)
  (z_enumerate:PySem.W.nsIn K mainGlobals "enumerate"=some none)
  (z_ValueError:PySem.W.nsIn K mainGlobals "ValueError"=some none)
  : ∃ fd:FuncData,(∀ (s:Shared) (v:Value),BindsTo s fd ⟨[v],[]⟩ [("_law_script",v)])∧∀ base:Heap,K.In base→base.Ns mainGlobals mg→FnOk l.prog w K mg base CX0 9 fa fd ["_law_script"] (spLaw K):=by
 obtain rfl:f_law=fa:=by
  have e:=hfa.symm.trans (PySem.W.mg_of X G a_law)
  cases e
  rfl
 let A0:Ad:=⟨f_q4,f_q9,f_q6,f_q10,f_q11,f_q2,f_q1,f_q12,f_q7,f_q13,f_q8,f_q14,f_q3,f_q0,f_q15,f_q20,f_q21,f_Lrows,f_q16,f_q5,f_q17,f_Ldue,f_Lare,f_q22,f_q18,f_q19,f_law,C_Book,C_NoCarrier,C_FloorError,C_Meets⟩
 have T:Txt K mg A0:=by
  constructor
  ·exact PySem.W.mg_none_of X G z_len
  ·exact PySem.W.mg_none_of X G z_range
  ·exact PySem.W.mg_none_of X G z_isinstance
  ·exact PySem.W.mg_none_of X G z_all
  ·exact PySem.W.mg_none_of X G z_int
  ·exact PySem.W.mg_none_of X G z_bool
  ·exact PySem.W.mg_none_of X G z_list
  ·exact PySem.W.mg_none_of X G z_tuple
  ·exact PySem.W.mg_none_of X G z_dict
  ·exact PySem.W.mg_none_of X G z_set
  ·exact PySem.W.mg_none_of X G z_min
  ·exact PySem.W.mg_none_of X G z_max
  ·exact PySem.W.mg_none_of X G z_sorted
  ·exact PySem.W.mg_none_of X G z_enumerate
  ·exact PySem.W.mg_none_of X G z_ValueError
  ·exact PySem.W.mg_of X G a_q9
  ·exact k_q9
  ·exact PySem.W.mg_of X G a_q6
  ·exact k_q6
  ·exact PySem.W.mg_of X G a_q10
  ·exact k_q10
  ·exact PySem.W.mg_of X G a_q11
  ·exact k_q11
  ·exact PySem.W.mg_of X G a_q2
  ·exact k_q2
  ·exact PySem.W.mg_of X G a_q1
  ·exact k_q1
  ·exact PySem.W.mg_of X G a_q12
  ·exact k_q12
  ·exact⟨a_q13,i_q13,k_q13⟩
  ·exact⟨a_q8,i_q8,k_q8⟩
  ·exact⟨a_q14,i_q14,k_q14⟩
  ·exact⟨a_q3,i_q3,k_q3⟩
  ·exact⟨a_q0,i_q0,k_q0⟩
  ·exact PySem.W.mg_of X G a_q15
  ·exact k_q15
  ·exact PySem.W.mg_of X G a_q20
  ·exact k_q20
  ·exact PySem.W.mg_of X G a_q21
  ·exact k_q21
  ·exact PySem.W.mg_of X G a_Lrows
  ·exact k_Lrows
  ·exact PySem.W.mg_of X G a_q16
  ·exact k_q16
  ·exact PySem.W.mg_of X G a_q5
  ·exact k_q5
  ·exact PySem.W.mg_of X G a_q17
  ·exact k_q17
  ·exact PySem.W.mg_of X G a_Ldue
  ·exact k_Ldue
  ·exact PySem.W.mg_of X G a_Lare
  ·exact k_Lare
  ·exact PySem.W.mg_of X G a_q22
  ·exact k_q22
  ·exact PySem.W.mg_of X G a_q18
  ·exact k_q18
  ·exact PySem.W.mg_of X G a_q19
  ·exact k_q19
  ·exact PySem.W.mg_of X G a_law
  ·exact k_law
  ·exact PySem.W.mg_of X G aC_Book
  ·exact⟨pg_Book,hd_Book,po_Book,sa_Book⟩
  ·exact n_Book_ways
  ·exact⟨mk_Book,a_q7,i_q7,kc_Book⟩
  ·exact PySem.W.mg_of X G aC_NoCarrier
  ·exact⟨er_NoCarrier⟩
  ·exact PySem.W.mg_of X G aC_FloorError
  ·exact PySem.W.mg_of X G aC_Meets
  ·exact xm_Meets_Meets
  ·exact xn_Meets
  ·exact xi_Meets
  ·exact xf_Meets
  ·exact xt_sa
  ·exact xt_mro
  ·exact xt_dict
  ·exact xt_no
  ·exact xt_hd
  ·exact xt_ga
  ·exact xt_gn
  ·exact xt_bx
 have F_q4:=fun_mk (st:=s_q4) l_q4 c_q4 k_q4
 have B_q4:=F_q4.binds (ps:=["self","other"]) fun _ _ _ _ _ _ us hl=>match us,hl with | [_,_],_=>rfl
 have F_q9:=fun_mk (st:=s_q9) l_q9 c_q9 k_q9
 have B_q9:=F_q9.binds (ps:=["thing"]) fun _ _ _ _ _ _ us hl=>match us,hl with | [_],_=>rfl
 have F_q6:=fun_mk (st:=s_q6) l_q6 c_q6 k_q6
 have B_q6:=F_q6.binds (ps:=["way"]) fun _ _ _ _ _ _ us hl=>match us,hl with | [_],_=>rfl
 have F_q10:=fun_mk (st:=s_q10) l_q10 c_q10 k_q10
 have B_q10:=F_q10.binds (ps:=["way","time"]) fun _ _ _ _ _ _ us hl=>match us,hl with | [_,_],_=>rfl
 have F_q11:=fun_mk (st:=s_q11) l_q11 c_q11 k_q11
 have B_q11:=F_q11.binds (ps:=["way","time"]) fun _ _ _ _ _ _ us hl=>match us,hl with | [_,_],_=>rfl
 have F_q2:=fun_mk (st:=s_q2) l_q2 c_q2 k_q2
 have B_q2:=F_q2.binds (ps:=["one","other","time"]) fun _ _ _ _ _ _ us hl=>match us,hl with | [_,_,_],_=>rfl
 have F_q1:=fun_mk (st:=s_q1) l_q1 c_q1 k_q1
 have B_q1:=F_q1.binds (ps:=["one","other"]) fun _ _ _ _ _ _ us hl=>match us,hl with | [_,_],_=>rfl
 have F_q12:=fun_mk (st:=s_q12) l_q12 c_q12 k_q12
 have B_q12:=F_q12.binds (ps:=["ways"]) fun _ _ _ _ _ _ us hl=>match us,hl with | [_],_=>rfl
 have F_q7:=fun_mk (st:=s_q7) l_q7 c_q7 k_q7
 have B_q7:=F_q7.binds (ps:=["self"]) fun _ _ _ _ _ _ us hl=>match us,hl with | [_],_=>rfl
 have F_q13:=fun_mk (st:=s_q13) l_q13 c_q13 k_q13
 have B_q13:=F_q13.binds (ps:=["self","number","way"]) fun _ _ _ _ _ _ us hl=>match us,hl with | [_,_,_],_=>rfl
 have F_q8:=fun_mk (st:=s_q8) l_q8 c_q8 k_q8
 have B_q8:=F_q8.binds (ps:=["self","number"]) fun _ _ _ _ _ _ us hl=>match us,hl with | [_,_],_=>rfl
 have F_q14:=fun_mk (st:=s_q14) l_q14 c_q14 k_q14
 have B_q14:=F_q14.binds (ps:=["self","number"]) fun _ _ _ _ _ _ us hl=>match us,hl with | [_,_],_=>rfl
 have F_q3:=fun_mk (st:=s_q3) l_q3 c_q3 k_q3
 have B_q3:=F_q3.binds (ps:=["self"]) fun _ _ _ _ _ _ us hl=>match us,hl with | [_],_=>rfl
 have F_q0:=fun_mk (st:=s_q0) l_q0 c_q0 k_q0
 have B_q0:=F_q0.binds (ps:=["self","number"]) fun _ _ _ _ _ _ us hl=>match us,hl with | [_,_],_=>rfl
 have F_q15:=fun_mk (st:=s_q15) l_q15 c_q15 k_q15
 have B_q15:=F_q15.binds (ps:=["_law_script","_law_k"]) fun _ _ _ _ _ _ us hl=>match us,hl with | [_,_],_=>rfl
 have F_q20:=fun_mk (st:=s_q20) l_q20 c_q20 k_q20
 have B_q20:=F_q20.binds (ps:=["_law_cell","_law_k"]) fun _ _ _ _ _ _ us hl=>match us,hl with | [_,_],_=>rfl
 have F_q21:=fun_mk (st:=s_q21) l_q21 c_q21 k_q21
 have B_q21:=F_q21.binds (ps:=["_law_found"]) fun _ _ _ _ _ _ us hl=>match us,hl with | [_],_=>rfl
 have F_Lrows:=fun_mk (st:=z67) l_Lrows c_Lrows k_Lrows
 have B_Lrows:=F_Lrows.binds (ps:=["_law_way","_law_end"]) fun _ _ _ _ _ _ us hl=>match us,hl with | [_,_],_=>rfl
 have F_q16:=fun_mk (st:=s_q16) l_q16 c_q16 k_q16
 have B_q16:=F_q16.binds (ps:=["_law_one","_law_other"]) fun _ _ _ _ _ _ us hl=>match us,hl with | [_,_],_=>rfl
 have F_q5:=fun_mk (st:=s_q5) l_q5 c_q5 k_q5
 have B_q5:=F_q5.binds (ps:=["_law_cell","_law_most"]) fun _ _ _ _ _ _ us hl=>match us,hl with | [_,_],_=>rfl
 have F_q17:=fun_mk (st:=s_q17) l_q17 c_q17 k_q17
 have B_q17:=F_q17.binds (ps:=["_law_script"]) fun _ _ _ _ _ _ us hl=>match us,hl with | [_],_=>rfl
 have F_Ldue:=fun_mk (st:=s_Ldue) l_Ldue c_Ldue k_Ldue
 have B_Ldue:=F_Ldue.binds (ps:=["_law_ways"]) fun _ _ _ _ _ _ us hl=>match us,hl with | [_],_=>rfl
 have F_Lare:=fun_mk (st:=s_Lare) l_Lare c_Lare k_Lare
 have B_Lare:=F_Lare.binds (ps:=["_law_found","_law_due_here"]) fun _ _ _ _ _ _ us hl=>match us,hl with | [_,_],_=>rfl
 have F_q22:=fun_mk (st:=s_q22) l_q22 c_q22 k_q22
 have B_q22:=F_q22.binds (ps:=["_law_ways"]) fun _ _ _ _ _ _ us hl=>match us,hl with | [_],_=>rfl
 have F_q18:=fun_mk (st:=s_q18) l_q18 c_q18 k_q18
 have B_q18:=F_q18.binds (ps:=["_law_book","_law_number","_law_way"]) fun _ _ _ _ _ _ us hl=>match us,hl with | [_,_,_],_=>rfl
 have F_q19:=fun_mk (st:=s_q19) l_q19 c_q19 k_q19
 have B_q19:=F_q19.binds (ps:=["_law_book","_law_ways","_law_order","_law_due_here"]) fun _ _ _ _ _ _ us hl=>match us,hl with | [_,_,_,_],_=>rfl
 have F_law:=fun_mk (st:=s_law) l_law c_law k_law
 refine⟨PySem.W.fnOf "law" "law" (defArgs s_law) (defBody s_law) (defScope s_law) .none kV_law dc_law pm_law an_law cd_law ct_law,?bd,fun base _ _=>?fn⟩
 case fn=>
  have G_q9:FnOk l.prog w K mg base CX0 1 f_q9 _ ["thing"] (z268 K):=ok_q9 (ad:=A0) F_q9 T
  have G_q6:FnOk l.prog w K mg base CX0 1 f_q6 _ ["way"] (spLast):=ok_q6 (ad:=A0) F_q6 T
  have G_q10:FnOk l.prog w K mg base CX0 1 f_q10 _ ["way","time"] (spIdx):=ok_q10 (ad:=A0) F_q10 T
  have G_q11:FnOk l.prog w K mg base CX0 2 f_q11 _ ["way","time"] (z466):=ok_q11 (ad:=A0) F_q11 T B_q10 G_q10
  have G_q2:FnOk l.prog w K mg base CX0 3 f_q2 _ ["one","other","time"] (spWord):=ok_q2 (ad:=A0) F_q2 T B_q11 G_q11
  have G_q1:FnOk l.prog w K mg base CX0 4 f_q1 _ ["one","other"] (z369):=ok_q1 (ad:=A0) F_q1 T B_q6 G_q6 B_q2 G_q2
  have G_q12:FnOk l.prog w K mg base CX0 5 f_q12 _ ["ways"] (z72):=ok_q12 (ad:=A0) F_q12 T B_q1 G_q1
  have G_q4:FnOk l.prog w K mg base (CXE l.prog w) 1 f_q4 _ ["self","other"] (z485 A0):=ok_q4 (ad:=A0) F_q4 T
  have G_q7:FnOk l.prog w K mg base CX0 1 f_q7 _ ["self"] (z462 A0):=ok_q7 (ad:=A0) F_q7 T
  have G_q0:FnOk l.prog w K mg base (CXE l.prog w) 2 f_q0 _ ["self","number"] (z384 A0):=ok_q0 (ad:=A0) F_q0 T B_q9 G_q9
  have G_q3:FnOk l.prog w K mg base CX0 1 f_q3 _ ["self"] (z162 A0):=ok_q3 (ad:=A0) F_q3 T
  have G_q13:FnOk l.prog w K mg base (CXE l.prog w) 5 f_q13 _ ["self","number","way"] (spPut A0):=ok_q13 (ad:=A0) F_q13 T B_q3 G_q3 B_q1 G_q1 B_q4 G_q4
  have G_q8:FnOk l.prog w K mg base (CXE l.prog w) 3 f_q8 _ ["self","number"] (spDrop A0):=ok_q8 (ad:=A0) F_q8 T B_q0 G_q0
  have G_q14:FnOk l.prog w K mg base (CXE l.prog w) 3 f_q14 _ ["self","number"] (spWayM A0):=ok_q14 (ad:=A0) F_q14 T B_q0 G_q0
  have G_q15:FnOk l.prog w K mg base CX0 1 f_q15 _ ["_law_script","_law_k"] (spCell K):=ok_q15 (ad:=A0) F_q15 T
  have G_q20:FnOk l.prog w K mg base CX0 1 f_q20 _ ["_law_cell","_law_k"] (z388):=ok_q20 (ad:=A0) F_q20 T
  have G_q21:FnOk l.prog w K mg base CX0 1 f_q21 _ ["_law_found"] (z268 K):=ok_q21 (ad:=A0) F_q21 T
  have G_Lrows:FnOk l.prog w K mg base CX0 1 f_Lrows _ ["_law_way","_law_end"] (spRows):=z603 (ad:=A0) F_Lrows T
  have G_q16:FnOk l.prog w K mg base CX0 2 f_q16 _ ["_law_one","_law_other"] (z301):=ok_q16 (ad:=A0) F_q16 T B_Lrows G_Lrows
  have G_q5:FnOk l.prog w K mg base CX0 2 f_q5 _ ["_law_cell","_law_most"] (z459):=ok_q5 (ad:=A0) F_q5 T B_q20 G_q20
  have G_q17:FnOk l.prog w K mg base CX0 3 f_q17 _ ["_law_script"] (z337 K):=ok_q17 (ad:=A0) F_q17 T B_q15 G_q15 B_q20 G_q20 B_q5 G_q5
  have G_Ldue:FnOk l.prog w K mg base CX0 3 f_Ldue _ ["_law_ways"] (z72):=z649 (ad:=A0) F_Ldue T B_q16 G_q16
  have G_Lare:FnOk l.prog w K mg base CX0 2 f_Lare _ ["_law_found","_law_due_here"] (spAre):=z613 (ad:=A0) F_Lare T B_q21 G_q21
  have G_q22:FnOk l.prog w K mg base CX0 2 f_q22 _ ["_law_ways"] (z492):=ok_q22 (ad:=A0) F_q22 T B_Lrows G_Lrows
  have G_q18:FnOk l.prog w K mg base CX0 6 f_q18 _ ["_law_book","_law_number","_law_way"] (z297 A0):=ok_q18 (ad:=A0) F_q18 T B_q13 G_q13
  have G_q19:FnOk l.prog w K mg base CX0 7 f_q19 _ ["_law_book","_law_ways","_law_order","_law_due_here"] (z481 A0 K):=ok_q19 (ad:=A0) F_q19 T B_q3 G_q3 B_q18 G_q18
  exact ok_law F_law T B_q17 G_q17 B_Ldue G_Ldue B_q12 G_q12 B_Lare G_Lare B_q7 G_q7 B_q15 G_q15 B_q19 G_q19 B_q3 G_q3 B_q14 G_q14 B_q22 G_q22 B_q8 G_q8
 case bd=>exact fun s v=>.of_eq rfl
theorem walk {l:PySem.W.OpenLaw}{q:Program}{loose:List Str}{XP:(Str→Option Value)→Heap→Prop}{YP:World→Heap→Prop}{d:DefRec}{K:Params→PySem.W.Frag}(hn:l.most=some 63) (hdf:d.params.defaults=[])
  (hY:∀ (w:World) (h:Heap),YP w h→(K w.params).In h)
  (F:∀ (w:World) (mg:Str→Option Value) (fa:Addr) (h:Heap),(K w.params).In h→h.Ns mainGlobals mg→mg d.name=some (.ref fa)→
   ∃ fd:FuncData,(∀ (s:Shared) (u:Value),BindsTo s fd ⟨[u],[]⟩ [("_law_script",u)])∧∀ base:Heap,(K w.params).In base→base.Ns mainGlobals mg→FnOk l.prog w (K w.params) mg base CX0 9 fa fd ["_law_script"] (spLaw (K w.params))):
  PySem.W.WalkO q loose XP YP l.row.toRowW d [] (fun f vs=>PySem.call f vs):=
 L2.z599 (n:=63) (k:=9) (x:="_law_script") (CX:=fun _=>CX0) (sp:=fun w=>spLaw (K w.params)) hn (by decide) hdf ⟨rfl,by decide,by decide⟩ hY F (fun _ _ a ns hl hb _ hS=>⟨a,ns,rfl,hS,hl,hb,fun _=>rfl⟩) fun _ _ _ _ _ z=>z
end Pf
open PySem PySem.W PyProof.Rows
set_option maxRecDepth 100000 in
set_option maxHeartbeats 0 in
theorem PySem.Challenge.cw_floorways_k15_whole_books_never_meet_holds : PySem.Challenge.rw_floorways_k15_whole_books_never_meet.Holds := by
 w_on;o_law;k_head;(case hw=>w_witness2)
 k_fill
 refine Pf.walk (l:=PySem.Challenge.rw_floorways_k15_whole_books_never_meet) rfl rfl (fun w h Y=>PySem.W.kIn_of Y) ?F
 case F=>
  intro w mg fa h KX G hmg
  refine' Pf.all_mk KX G hmg ?aC_Book ?pg_Book ?hd_Book ?po_Book ?sa_Book ?kc_Book ?mk_Book ?n_Book_ways ?aC_NoCarrier ?er_NoCarrier ?aC_FloorError ?aC_Meets ?xm_Meets_Meets ?xn_Meets ?xi_Meets ?xf_Meets ?xt_sa ?xt_mro ?xt_dict ?xt_no ?xt_hd ?xt_ga ?xt_gn ?xt_bx ?i_q4 ?l_q4 ?c_q4 ?k_q4 ?a_q9 ?l_q9 ?c_q9 ?k_q9 ?a_q6 ?l_q6 ?c_q6 ?k_q6 ?a_q10 ?l_q10 ?c_q10 ?k_q10 ?a_q11 ?l_q11 ?c_q11 ?k_q11 ?a_q2 ?l_q2 ?c_q2 ?k_q2 ?a_q1 ?l_q1 ?c_q1 ?k_q1 ?a_q12 ?l_q12 ?c_q12 ?k_q12 ?a_q7 ?i_q7 ?l_q7 ?c_q7 ?k_q7 ?a_q13 ?i_q13 ?l_q13 ?c_q13 ?k_q13 ?a_q8 ?i_q8 ?l_q8 ?c_q8 ?k_q8 ?a_q14 ?i_q14 ?l_q14 ?c_q14 ?k_q14 ?a_q3 ?i_q3 ?l_q3 ?c_q3 ?k_q3 ?a_q0 ?i_q0 ?l_q0 ?c_q0 ?k_q0 ?a_q15 ?l_q15 ?c_q15 ?k_q15 ?a_q20 ?l_q20 ?c_q20 ?k_q20 ?a_q21 ?l_q21 ?c_q21 ?k_q21 ?a_Lrows ?l_Lrows ?c_Lrows ?k_Lrows ?a_q16 ?l_q16 ?c_q16 ?k_q16 ?a_q5 ?l_q5 ?c_q5 ?k_q5 ?a_q17 ?l_q17 ?c_q17 ?k_q17 ?a_Ldue ?l_Ldue ?c_Ldue ?k_Ldue ?a_Lare ?l_Lare ?c_Lare ?k_Lare ?a_q22 ?l_q22 ?c_q22 ?k_q22 ?a_q18 ?l_q18 ?c_q18 ?k_q18 ?a_q19 ?l_q19 ?c_q19 ?k_q19 ?a_law ?l_law ?c_law ?k_law ?z_len ?z_range ?z_isinstance ?z_all ?z_int ?z_bool ?z_list ?z_tuple ?z_dict ?z_set ?z_min ?z_max ?z_sorted ?z_enumerate ?z_ValueError
  (case aC_Book=>k_is)
  (case pg_Book=>k_is)
  (case hd_Book=>k_is)
  (case po_Book=>k_is)
  (case sa_Book=>k_is)
  (case kc_Book=>k_is)
  (case mk_Book=>k_is)
  (case n_Book_ways=>k_is)
  (case aC_NoCarrier=>k_is)
  (case er_NoCarrier=>first | k_is | kit_is | kernel_rfl)
  (case aC_FloorError=>k_is)
  (case aC_Meets=>k_is)
  (case xm_Meets_Meets=>first | k_is | kit_is | kernel_rfl)
  (case xn_Meets=>k_is)
  (case xi_Meets=>first | k_is | kit_is | kernel_rfl)
  (case xf_Meets=>first | k_is | kit_is | kernel_rfl)
  (case xt_sa=>first | k_is | kit_is | kernel_rfl)
  (case xt_mro=>first | k_is | kit_is | kernel_rfl)
  (case xt_dict=>first | k_is | kit_is | kernel_rfl)
  (case xt_no=>first | k_is | kit_is | kernel_rfl)
  (case xt_hd=>first | k_is | kit_is | kernel_rfl)
  (case xt_ga=>first | k_is | kit_is | kernel_rfl)
  (case xt_gn=>first | k_is | kit_is | kernel_rfl)
  (case xt_bx=>first | k_is | kit_is | kernel_rfl)
  (case i_q4=>k_is)
  (case l_q4=>k_is)
  (case c_q4=>k_is)
  (case k_q4=>k_is)
  (case a_q9=>k_is)
  (case l_q9=>k_is)
  (case c_q9=>k_is)
  (case k_q9=>k_is)
  (case a_q6=>k_is)
  (case l_q6=>k_is)
  (case c_q6=>k_is)
  (case k_q6=>k_is)
  (case a_q10=>k_is)
  (case l_q10=>k_is)
  (case c_q10=>k_is)
  (case k_q10=>k_is)
  (case a_q11=>k_is)
  (case l_q11=>k_is)
  (case c_q11=>k_is)
  (case k_q11=>k_is)
  (case a_q2=>k_is)
  (case l_q2=>k_is)
  (case c_q2=>k_is)
  (case k_q2=>k_is)
  (case a_q1=>k_is)
  (case l_q1=>k_is)
  (case c_q1=>k_is)
  (case k_q1=>k_is)
  (case a_q12=>k_is)
  (case l_q12=>k_is)
  (case c_q12=>k_is)
  (case k_q12=>k_is)
  (case a_q7=>k_is)
  (case i_q7=>k_is)
  (case l_q7=>k_is)
  (case c_q7=>k_is)
  (case k_q7=>k_is)
  (case a_q13=>k_is)
  (case i_q13=>k_is)
  (case l_q13=>k_is)
  (case c_q13=>k_is)
  (case k_q13=>k_is)
  (case a_q8=>k_is)
  (case i_q8=>k_is)
  (case l_q8=>k_is)
  (case c_q8=>k_is)
  (case k_q8=>k_is)
  (case a_q14=>k_is)
  (case i_q14=>k_is)
  (case l_q14=>k_is)
  (case c_q14=>k_is)
  (case k_q14=>k_is)
  (case a_q3=>k_is)
  (case i_q3=>k_is)
  (case l_q3=>k_is)
  (case c_q3=>k_is)
  (case k_q3=>k_is)
  (case a_q0=>k_is)
  (case i_q0=>k_is)
  (case l_q0=>k_is)
  (case c_q0=>k_is)
  (case k_q0=>k_is)
  (case a_q15=>k_is)
  (case l_q15=>k_is)
  (case c_q15=>k_is)
  (case k_q15=>k_is)
  (case a_q20=>k_is)
  (case l_q20=>k_is)
  (case c_q20=>k_is)
  (case k_q20=>k_is)
  (case a_q21=>k_is)
  (case l_q21=>k_is)
  (case c_q21=>k_is)
  (case k_q21=>k_is)
  (case a_Lrows=>k_is)
  (case l_Lrows=>k_is)
  (case c_Lrows=>k_is)
  (case k_Lrows=>k_is)
  (case a_q16=>k_is)
  (case l_q16=>k_is)
  (case c_q16=>k_is)
  (case k_q16=>k_is)
  (case a_q5=>k_is)
  (case l_q5=>k_is)
  (case c_q5=>k_is)
  (case k_q5=>k_is)
  (case a_q17=>k_is)
  (case l_q17=>k_is)
  (case c_q17=>k_is)
  (case k_q17=>k_is)
  (case a_Ldue=>k_is)
  (case l_Ldue=>k_is)
  (case c_Ldue=>k_is)
  (case k_Ldue=>k_is)
  (case a_Lare=>k_is)
  (case l_Lare=>k_is)
  (case c_Lare=>k_is)
  (case k_Lare=>k_is)
  (case a_q22=>k_is)
  (case l_q22=>k_is)
  (case c_q22=>k_is)
  (case k_q22=>k_is)
  (case a_q18=>k_is)
  (case l_q18=>k_is)
  (case c_q18=>k_is)
  (case k_q18=>k_is)
  (case a_q19=>k_is)
  (case l_q19=>k_is)
  (case c_q19=>k_is)
  (case k_q19=>k_is)
  (case a_law=>k_is)
  (case l_law=>k_is)
  (case c_law=>k_is)
  (case k_law=>k_is)
  (case z_len=>k_is)
  (case z_range=>k_is)
  (case z_isinstance=>k_is)
  (case z_all=>k_is)
  (case z_int=>k_is)
  (case z_bool=>k_is)
  (case z_list=>k_is)
  (case z_tuple=>k_is)
  (case z_dict=>k_is)
  (case z_set=>k_is)
  (case z_min=>k_is)
  (case z_max=>k_is)
  (case z_sorted=>k_is)
  (case z_enumerate=>k_is)
  (case z_ValueError=>k_is)
