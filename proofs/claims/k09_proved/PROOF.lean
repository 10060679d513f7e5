import PyProof.Rows.All
import PyProof.StrLoop
import PyProof.TupleIter
import PyProof.RangeIter
import Wide.All
import OpenK.AllK
import Wide.FinOn
import Lean
import PyProof.EqAt
import PyProof.EqKinds
import PyProof.TupleCall
import KE.KRevIter
import PyProof.CollectIter
import PyProof.ListRange
import PyProof.StationsW
import KE.KTryMore
import PyProof.RulesAs
import PyProof.Rows.TupDisplay
import KE.KEqDict
import PyProof.SeqI3
import KE.KDictOf
import PyProof.AttrMissHeap
import PyProof.AttrMissSeq
import PyProof.CollectWalk
import PyProof.ListStr
import KE.KDictList
import PyProof.Rows.SortShell
import PyProof.Rows.SortWalk
import PyProof.NeKinds
import PyProof.ZipIter
import PyProof.Rows.ZipGen
import PyProof.Draws
import PyProof.EnumMake
import PyProof.DictValues
import PyProof.DictWalks
import PyProof.Rows.CallKwBuiltin
import KE.KSortTup
import PyProof.ExcClass2
import PyProof.ExcInit
import PyProof.Rows.SetFrom
import PyProof.SetKind
import PySem.Challenge.RW_floorways_k09_whole_needs_walked
def PySem.W.Fast.tw2206645546073914494:Unit:=()
def PySem.W.Fast.tw17890719863982253504:Unit:=()
def PySem.W.Fast.tw140550768390550197:Unit:=()
def PySem.W.Fast.tw1638343482008443118:Unit:=()
def PySem.W.Fast.tw4847027356809881389:Unit:=()
def PySem.W.Fast.tw7514797181179403460:Unit:=()
def PySem.W.Fast.tw2123860674507377602:Unit:=()
def PySem.W.Fast.tw17605638017095583337:Unit:=()
def PySem.W.Fast.tw9914511865705582728:Unit:=()
def PySem.W.Fast.tw892327151535385228:Unit:=()
def PySem.W.Fast.tw16918385880100783429:Unit:=()
def PySem.W.Fast.tw10820608835528551924:Unit:=()
def PySem.W.Fast.tw2673273659474032425:Unit:=()
def PySem.W.Fast.tw11389404934134764841:Unit:=()
def PySem.W.Fast.tw17860211936438619614:Unit:=()
def PySem.W.Fast.tw14775927110340478900:Unit:=()
def PySem.W.Fast.tw2949088511134112364:Unit:=()
def PySem.W.Fast.tw6363105094768568776:Unit:=()
def PySem.W.Fast.tw12546140038811152457:Unit:=()
def PySem.W.Fast.tw11889348099812475808:Unit:=()
def PySem.W.Fast.tw17259395718105399794:Unit:=()
def PySem.W.Fast.tw10248586604486206731:Unit:=()
def PySem.W.Fast.tw6538140214651834939:Unit:=()
def PySem.W.Fast.tw3228148267873290596:Unit:=()
def PySem.W.Fast.tw12768676214766951217:Unit:=()
def PySem.W.Fast.tw11855203665833919578:Unit:=()
def PySem.W.Fast.tw5507482120846414140:Unit:=()
def PySem.W.Fast.tw5107053513966920590:Unit:=()
def PySem.W.Fast.tw3355247564726339207:Unit:=()
def PySem.W.Fast.tw13137030308509267486:Unit:=()
def PySem.W.Fast.tw410677069885451624:Unit:=()
def PySem.W.Fast.tw4748682474501427079:Unit:=()
def PySem.W.Fast.tw12009377246984792995:Unit:=()
def PySem.W.Fast.tw17570790380392639381:Unit:=()
def PySem.W.Fast.tw12392170530476622485:Unit:=()
def PySem.W.Fast.tw10733717797217788522:Unit:=()
def PySem.W.Fast.tw10307151817865811504:Unit:=()
def PySem.W.Fast.tw7142873232905124116:Unit:=()
def PySem.W.Fast.tw12651083372240951495:Unit:=()
def PySem.W.Fast.tw17781750677110128441:Unit:=()
def PySem.W.Fast.tw16907739637108270:Unit:=()
def PySem.W.Fast.tw6496683176378194366:Unit:=()
def PySem.W.Fast.tw16126144804056298539:Unit:=()
def PySem.W.Fast.tw3814741486068071396:Unit:=()
def PySem.W.Fast.tw9210446357331123299:Unit:=()
def PySem.W.Fast.tw2142088960556138053:Unit:=()
def PySem.W.Fast.tw3817727041220342070:Unit:=()
def PySem.W.Fast.tw15307250232347008683:Unit:=()
def PySem.W.Fast.tw7059568882069329526:Unit:=()
def PySem.W.Fast.tw9292403392188424654:Unit:=()
def PySem.W.Fast.tw10522227446034444930:Unit:=()
def PySem.W.Fast.tw7302831914683475900:Unit:=()
def PySem.W.Fast.tw16216917882272478246:Unit:=()
def PySem.W.Fast.tw5616493394868042793:Unit:=()
def PySem.W.Fast.tw15642977085683478258:Unit:=()
def PySem.W.Fast.tw9087312194280292270:Unit:=()
def PySem.W.Fast.tw5446573347548418708:Unit:=()
def PySem.W.Fast.tw11371782143032699816:Unit:=()
def PySem.W.Fast.tw16967938283923535931:Unit:=()
def PySem.W.Fast.tw1848080574120310675:Unit:=()
def PySem.W.Fast.tw12858378834715335823:Unit:=()
def PySem.W.Fast.tw12034557404354541704:Unit:=()
def PySem.W.Fast.tw14577296303522883695:Unit:=()
def PySem.W.Fast.tw17888331348323838359:Unit:=()
def PySem.W.Fast.tw10178502347713047401:Unit:=()
def PySem.W.Fast.tw5192438947818124176:Unit:=()
def PySem.W.Fast.tw2730965003024376291:Unit:=()
def PySem.W.Fast.tw910644850274378835:Unit:=()
def PySem.W.Fast.tw1257191005496870710:Unit:=()
def PySem.W.Fast.tw17221831272552662724:Unit:=()
def PySem.W.Fast.tw8402739690793853979:Unit:=()
def PySem.W.Fast.tw17153173226170417333:Unit:=()
def PySem.W.Fast.tw257921261566212429:Unit:=()
def PySem.W.Fast.tw3015816276992676148:Unit:=()
def PySem.W.Fast.tw16523201848777330440:Unit:=()
def PySem.W.Fast.tw15927885495930037035:Unit:=()
def PySem.W.Fast.tw13915855712029106928:Unit:=()
def PySem.W.Fast.tw84522213567124498:Unit:=()
def PySem.W.Fast.tw9686901903027708812:Unit:=()
def PySem.W.Fast.tw6998968942180015783:Unit:=()
def PySem.W.Fast.tw9684404534734057629:Unit:=()
def PySem.W.Fast.tw13737341188829043734:Unit:=()
def PySem.W.Fast.tw6510526353529856971:Unit:=()
def PySem.W.Fast.tw6190793407698256046:Unit:=()
def PySem.W.Fast.tw1681355692058119735:Unit:=()
def PySem.W.Fast.tw8301054454385591745:Unit:=()
def PySem.W.Fast.tw1117496696771176936:Unit:=()
def PySem.W.Fast.tw2277595404385413814:Unit:=()
def PySem.W.Fast.tw18249786271814415906:Unit:=()
def PySem.W.Fast.tw15582345603645372592:Unit:=()
def PySem.W.Fast.tw4687772386640505510:Unit:=()
def PySem.W.Fast.tw18209330339789980339:Unit:=()
def PySem.W.Fast.tw11581225695744070404:Unit:=()
def PySem.W.Fast.tw7476357740838951470:Unit:=()
def PySem.W.Fast.tw14833112365215716686:Unit:=()
def PySem.W.Fast.tw1688369505377332891:Unit:=()
def PySem.W.Fast.tw5186741426923422804:Unit:=()
def PySem.W.Fast.tw9153872173927741697:Unit:=()
def PySem.W.Fast.tw7204914055845963057:Unit:=()
def PySem.W.Fast.tw8741809702570476957:Unit:=()
def PySem.W.Fast.tw10120576259475177745:Unit:=()
def PySem.W.Fast.tw2082038016888165856:Unit:=()
def PySem.W.Fast.tw14946300177693885926:Unit:=()
def PySem.W.Fast.tw10144570796020404127:Unit:=()
def PySem.W.Fast.tw7524882654238346579:Unit:=()
def PySem.W.Fast.tw7919633939729244229:Unit:=()
def PySem.W.Fast.tw14336004235269969873:Unit:=()
def PySem.W.Fast.tw7711485391096817588:Unit:=()
def PySem.W.Fast.tw15400706085581733310:Unit:=()
def PySem.W.Fast.tw15977969227616099461:Unit:=()
def PySem.W.Fast.tw11044967607694271662:Unit:=()
def PySem.W.Fast.tw8271312694280212605:Unit:=()
def PySem.W.Fast.tw10869164165822090945:Unit:=()
def PySem.W.Fast.tw13375882062702968380:Unit:=()
def PySem.W.Fast.tw6070899557941052102:Unit:=()
def PySem.W.Fast.tw14482739535677844644:Unit:=()
def PySem.W.Fast.tw3473006717795873887:Unit:=()
def PySem.W.Fast.tw4730210602496900861:Unit:=()
def PySem.W.Fast.tw9626855909232255641:Unit:=()
def PySem.W.Fast.tw2026229625931795744:Unit:=()
def PySem.W.Fast.tw2602806235996477318:Unit:=()
def PySem.W.Fast.tw12374722369791555639:Unit:=()
def PySem.W.Fast.tw15983133106565341079:Unit:=()
def PySem.W.Fast.tw5930496951427031889:Unit:=()
def PySem.W.Fast.tw16224753206421409082:Unit:=()
def PySem.W.Fast.tw12117772437756166299:Unit:=()
def PySem.W.Fast.tw10800718094331248654:Unit:=()
def PySem.W.Fast.tw9180315258102823935:Unit:=()
def PySem.W.Fast.tw2248292061473110054:Unit:=()
def PySem.W.Fast.tw15281181690077201659:Unit:=()
def PySem.W.Fast.tw16247213684220800657:Unit:=()
def PySem.W.Fast.tw3081955892582911225:Unit:=()
def PySem.W.Fast.tw11606112784887116277:Unit:=()
def PySem.W.Fast.tw17523504386875191533:Unit:=()
def PySem.W.Fast.tw15742691470016432976:Unit:=()
def PySem.W.Fast.tw17811448113193642913:Unit:=()
def PySem.W.Fast.tw3931383554667824247:Unit:=()
def PySem.W.Fast.tw183824079718723076:Unit:=()
def PySem.W.Fast.tw14611260484916542279:Unit:=()
def PySem.W.Fast.tw9604804305563387019:Unit:=()
def PySem.W.Fast.tw224827882459871585:Unit:=()
def PySem.W.Fast.tw13833311031008495190:Unit:=()
def PySem.W.Fast.tw13016650654564077928:Unit:=()
def PySem.W.Fast.tw11274380883746684505:Unit:=()
def PySem.W.Fast.tw3736524188239795873:Unit:=()
def PySem.W.Fast.tw13467779993815154663:Unit:=()
def PySem.W.Fast.tw7192966314070687354:Unit:=()
set_option Elab.async false
set_option linter.all false
set_option maxRecDepth 100000
namespace L2
open PySem PyProof.Rows PySem.Calls
def Hd (A:Around) (h:Heap):Prop:=
 A.handled=none∨∃ (ea C:Addr) (dx:Option Addr) (vs:Array Value) (sl:Array (Option Value)),A.handled=some (.ref ea)∧h.get? ea=some ⟨.ref C,dx,.fields vs,sl⟩∧vs[2]?=some Value.none
theorem Hd.keeps {A:Around}{h h':Heap}(d:Hd A h) (k:∀ b o,h.get? b=some o→h'.get? b=some o):Hd A h':=by
 rcases d with d | ⟨ea,C,dx,vs,sl,d1,d2,d3⟩
 ·exact .inl d
 ·exact .inr ⟨ea,C,dx,vs,sl,d1,k _ _ d2,d3⟩
theorem Hd.update {A:Around}{h:Heap}(d:Hd A h){it:Addr}{o:Obj}{n:String}(ho:h.get? it=some o) (hc:o.cls=.type n) (f:Obj→Obj):Hd A (h.update it f):=by
 rcases d with d | ⟨ea,C,dx,vs,sl,d1,d2,d3⟩
 ·exact .inl d
 ·refine .inr ⟨ea,C,dx,vs,sl,d1,?_,d3⟩
  rw [Heap.get?_update_other h f (fun z=>?_)]
  ·exact d2
  ·subst z
   rw [ho] at d2
   cases d2
   cases hc
section
variable {prog:Program}{w:World}{A:Around}{E:Value→Shared→Prop}{s:Shared}
theorem z435:entryFor table "proto.unchain"=some Builtin.«proto.unchain»:=entryFor_of_tree (by kernel_rfl)
theorem z682 {α:Type}{Q:α→Shared→Prop}{e:Addr}{c:Value}{d:Option Addr}{ws:Array Value}{sl:Array (Option Value)} (hd:Hd A s.heap) (hn:∀ ea,A.handled=some (.ref ea)→ea≠e) (he:s.heap.get? e=some ⟨c,d,.fields ws,sl⟩) (hz:2 < ws.size)
  (k:∀ h',(∀ b o,b≠e→s.heap.get? b=some o→h'.get? b=some o)→(∃ o,h'.get? e=some o∧o.cls=c)→E (.ref e) { s with heap:=h' }):wpAny (model prog w) A (raiseNew (.ref e):Sem α) Q E s:=by
 rcases hd with hd | ⟨ea,C,dx,vs,sl2,d1,d2,d3⟩
 ·unfold raiseNew
  refine wpAny_bind (wpAny_handled ?_)
  rw [hd]
  exact wpAny_bind (wpAny_pure (wpAny_throw (k _ (fun _ _ _ z=>z) ⟨_,he,rfl⟩)))
 ·have ne:=hn ea d1
  unfold raiseNew
  refine wpAny_bind (wpAny_handled ?_)
  rw [d1]
  have hb:(Value.ref ea != Value.ref e)=true:=by simp [ne]
  dsimp only
  rw [if_pos hb]
  refine wpAny_bind (wpAny_holding (wpAny_runValue (codeAny_builtin z435 ?_)))
  show wpAny _ _ (field (.ref ea) 2 >>= _) _ _ s
  refine wpAny_bind (wpAny_field d2 rfl d3 ?_)
  rw [if_pos (by decide)]
  refine wpAny_bind (wpAny_pure (wpAny_pure ?_))
  unfold updateField
  refine wpAny_bind (wpAny_bind (wpAny_load he ?_))
  show wpAny _ _ (if 2 < ws.size then _ else _) _ _ s
  rw [if_pos hz]
  refine wpAny_update he (wpAny_throw (k _ (fun b o hb z=>?_) ⟨_,Heap.get?_update_self _ he rfl,rfl⟩))
  rw [Heap.get?_update_other _ _ (Ne.symm hb)]
  exact z
theorem z88 {α:Type}{Q:α→Shared→Prop}(hd:Hd A s.heap) (k:∀ h' e,(∀ b o,s.heap.get? b=some o→h'.get? b=some o)→(∃ o,h'.get? e=some o∧o.cls=.type "StopIteration")→E (.ref e) { s with heap:=h' }):
  wpAny (model prog w) A (newExc (.type "StopIteration") [] >>= fun e=>(raiseNew e:Sem α)) Q E s:=by
 refine wpAny_bind ?_
 simp only [newExc,newTuple]
 refine wpAny_bind (wpAny_newObj_type ?_ (by size_fits))
 refine wpAny_bind (m:=firstArgMember _ _) (wpAny_of_eq (a:=Value.none) (by first | rfl | (simp only [firstArgMember];rfl)) ?_)
 refine wpAny_newObj_type ?_ (by size_fits)
 have up:∀ b o,s.heap.get? b=some o→((s.heap.push { cls:=.type "tuple",data:=.seq #[] }).push { cls:=.type "StopIteration",data:=.fields (#[Value.ref s.heap.objs.size,.none,.none,.none,.bool false,.none]++ownMembersOf (.type "StopIteration") []) }).get? b=some o:=
  fun b o z=>Heap.get?_push_of_some _ (Heap.get?_push_of_some _ z)
 have lt:∀ b o,s.heap.get? b=some o→b≠(s.heap.push { cls:=.type "tuple",data:=.seq #[] }).objs.size:=fun b o z=>Nat.ne_of_lt (Heap.lt_size (Heap.get?_push_of_some _ z))
 refine z682 (hd.keeps up) (fun ea z=>?_) (Heap.get?_push_size _ rfl) (by rw [Array.size_append];exact Nat.lt_of_lt_of_le (show 2 < 6 by decide) (Nat.le_add_right 6 _)) fun h' k1 k2=>k h' _ (fun b o z=>k1 b o (lt b o z) (up b o z)) k2
 rcases hd with hd | ⟨eb,C,dx,vs,sl,d1,d2,d3⟩
 ·rw [hd] at z
  cases z
 ·rw [d1] at z
  cases z
  exact lt _ _ d2
theorem z62 {Q:Option Value→Shared→Prop}{e:Addr}(he:∃ o,s.heap.get? e=some o∧o.cls=.type "StopIteration") (h:Q none s):
  wpAny (model prog w) A (do if ← isInstance (.ref e) (.type "StopIteration") then pure none else throw (.ref e)) Q E s:=
 wpAny_bind (wpAny_isInstance (T:="StopIteration") (b:=true) he isSubtype_stop (wpAny_pure h))
theorem z769 {it l:Addr}{i:Nat}{items:Array Value}{Q:Option Value→Shared→Prop}(hh:Hd A s.heap) (hit:s.heap.IsListIter it l i) (hl:s.heap.IsList l items) (hx:items[i]?=none)
  (hQ:∀ h',Heap.ExtBut it s.heap h'→Q none { s with heap:=h' }):wpAny (model prog w) A (pyNext (.ref it)) Q E s:=by
 obtain⟨o,ho,hc,hd⟩:=id hit
 obtain⟨_,hol,_,_,hdl⟩:=hl
 unfold pyNext
 refine wpAny_bind (wpAny_attempt (wpAny_callSpecial?_slot (name:=Str.ofString "__next__") hit.typeIs slot_listiter_next (wpAny_call_entry slot_listiter_next hit.typeIs entry_listiter_next ?_ (args_listiter_next _))))
 show wpAny _ _ (field (.ref it) 0 >>= _) _ _ s
 refine wpAny_bind (wpAny_field ho hd (x:=.ref l) rfl ?_)
 rw [if_neg (fun z:(Value.ref l == Value.none)=true=>nomatch z)]
 show wpAny _ _ (field (.ref it) 1 >>= _) _ _ s
 refine wpAny_bind (wpAny_field ho hd (x:=.int i 0) rfl ?_)
 show wpAny _ _ (seqItems? (.ref l) >>= _) _ _ s
 refine wpAny_bind (wpAny_seqItems hol hdl ?_)
 simp only [Int.toNat_natCast,hx]
 refine wpAny_bind (wpAny_rule (wpAny_bind (wpAny_setField ho hd (by simp) ?_)))
 refine z88 (hh.update (A:=A) ho hc _) fun h' e k1 k2=>z62 k2 (hQ h' fun b o hb z=>k1 b o ?_)
 rw [Heap.get?_update_other _ _ (Ne.symm hb)]
 exact z
theorem z694 {it t:Addr}{i:Nat}{items:Array Value}{Q:Option Value→Shared→Prop}(hh:Hd A s.heap) (hit:s.heap.IsTupleIter it t i) (ht:s.heap.IsTuple t items) (hx:items[i]?=none)
  (hQ:∀ h',Heap.ExtBut it s.heap h'→Q none { s with heap:=h' }):wpAny (model prog w) A (pyNext (.ref it)) Q E s:=by
 obtain⟨o,ho,hc,hd⟩:=id hit
 obtain⟨_,hol,_,_,hdl⟩:=ht
 unfold pyNext
 refine wpAny_bind (wpAny_attempt (wpAny_callSpecial?_slot (name:=Str.ofString "__next__") hit.typeIs F.slot_tuple_iterator_next (wpAny_call_entry F.slot_tuple_iterator_next hit.typeIs F.entry_tuple_iterator_next ?_ (F.args_tuple_iterator_next_1 _))))
 show wpAny _ _ (field (.ref it) 0 >>= _) _ _ s
 refine wpAny_bind (wpAny_field ho hd (x:=.ref t) rfl ?_)
 rw [if_neg (fun z:(Value.ref t == Value.none)=true=>nomatch z)]
 show wpAny _ _ (field (.ref it) 1 >>= _) _ _ s
 refine wpAny_bind (wpAny_field ho hd (x:=.int i 0) rfl ?_)
 show wpAny _ _ (seqItems? (.ref t) >>= _) _ _ s
 refine wpAny_bind (wpAny_seqItems hol hdl ?_)
 simp only [Int.toNat_natCast,hx]
 refine wpAny_bind (wpAny_rule (wpAny_bind (wpAny_setField ho hd (by simp) ?_)))
 refine z88 (hh.update (A:=A) ho hc _) fun h' e k1 k2=>z62 k2 (hQ h' fun b o hb z=>k1 b o ?_)
 rw [Heap.get?_update_other _ _ (Ne.symm hb)]
 exact z
theorem z717 {it:Addr}{x left step:Int}{Q:Option Value→Shared→Prop}(hh:Hd A s.heap) (hit:IsRangeIter s.heap it x left step) (hleft:left≤0)
  (hQ:∀ h',Heap.ExtBut it s.heap h'→Q none { s with heap:=h' }):wpAny (model prog w) A (pyNext (.ref it)) Q E s:=by
 have hT:s.TypeIs (.ref it) "range_iterator":=⟨_,hit,rfl⟩
 unfold pyNext
 refine wpAny_bind (wpAny_attempt (wpAny_callSpecial?_slot (name:=Str.ofString "__next__") hT F.slot_range_iterator_next (wpAny_call_entry F.slot_range_iterator_next hT F.entry_range_iterator_next ?_ (F.args_range_iterator_next_1 _))))
 show wpAny _ _ (field (.ref it) 0 >>= _) _ _ s
 refine wpAny_bind (wpAny_field hit rfl (x:=rawInt x) rfl ?_)
 show wpAny _ _ (field (.ref it) 1 >>= _) _ _ s
 refine wpAny_bind (wpAny_field hit rfl (x:=rawInt left) rfl ?_)
 show wpAny _ _ (field (.ref it) 2 >>= _) _ _ s
 refine wpAny_bind (wpAny_field hit rfl (x:=rawInt step) rfl ?_)
 show wpAny _ _ (if left≤0 then _ else _) _ _ s
 rw [if_pos hleft]
 refine wpAny_bind (wpAny_rule (wpAny_bind ?_))
 exact z88 (A:=A.in1) hh fun h' e k1 k2=>z62 k2 (hQ h' fun b o hb z=>k1 b o z)
theorem z495 {it:Addr}{n:String}{x:Str}{t:Tok}{i:Nat}{Q:Option Value→Shared→Prop}(hn:n="str_ascii_iterator"∨n="str_iterator") (hh:Hd A s.heap) (hit:s.heap.IsStrIter it n x t i) (hx:x.cps[i]?=none)
  (hQ:∀ h',Heap.ExtBut it s.heap h'→Q none { s with heap:=h' }):wpAny (model prog w) A (pyNext (.ref it)) Q E s:=by
 obtain⟨o,ho,hc,hd⟩:=id hit
 unfold pyNext
 rcases hn with rfl | rfl
 ·refine wpAny_bind (wpAny_attempt (wpAny_callSpecial?_slot (name:=Str.ofString "__next__") hit.typeIs F.slot_str_ascii_iterator_next (wpAny_call_entry F.slot_str_ascii_iterator_next hit.typeIs F.entry_str_ascii_iterator_next ?_ (F.args_str_ascii_iterator_next_1 _))))
  show wpAny _ _ (field (.ref it) 0 >>= _) _ _ s
  refine wpAny_bind (wpAny_field ho hd (x:=.str x t) rfl ?_)
  show wpAny _ _ (field (.ref it) 1 >>= _) _ _ s
  refine wpAny_bind (wpAny_field ho hd (x:=.int i 0) rfl ?_)
  simp only [Int.toNat_natCast,hx]
  refine wpAny_bind (wpAny_rule (wpAny_bind (wpAny_setField ho hd (by simp) (wpAny_bind (wpAny_letGo ?_)))))
  refine z88 (hh.update (A:=A) ho hc _) fun h' e k1 k2=>z62 k2 (hQ h' fun b o hb z=>k1 b o ?_)
  rw [Heap.get?_update_other _ _ (Ne.symm hb)]
  exact z
 ·refine wpAny_bind (wpAny_attempt (wpAny_callSpecial?_slot (name:=Str.ofString "__next__") hit.typeIs F.slot_str_iterator_next (wpAny_call_entry F.slot_str_iterator_next hit.typeIs F.entry_str_iterator_next ?_ (F.args_str_iterator_next_1 _))))
  show wpAny _ _ (field (.ref it) 0 >>= _) _ _ s
  refine wpAny_bind (wpAny_field ho hd (x:=.str x t) rfl ?_)
  show wpAny _ _ (field (.ref it) 1 >>= _) _ _ s
  refine wpAny_bind (wpAny_field ho hd (x:=.int i 0) rfl ?_)
  simp only [Int.toNat_natCast,hx]
  refine wpAny_bind (wpAny_rule (wpAny_bind (wpAny_setField ho hd (by simp) (wpAny_bind (wpAny_letGo ?_)))))
  refine z88 (hh.update (A:=A) ho hc _) fun h' e k1 k2=>z62 k2 (hQ h' fun b o hb z=>k1 b o ?_)
  rw [Heap.get?_update_other _ _ (Ne.symm hb)]
  exact z
theorem z483 {env:Env}{elts:List Expr}{x1}{pos:Pos}{t:Addr}{items:Array Value}{Q:Unit→Shared→Prop}(hh:Hd A s.heap) (ht:IsTup s.heap t items) (hn:(assignEach elts env).length=items.size) (hstar:(assignEach elts env).findIdx? (·.1)=none)
  (h:∀ h',Heap.ExtBut s.heap.objs.size s.heap h'→wpAny (model prog w) A (assignInOrder ((assignEach elts env).map (·.2)) items.toList) Q E { s with heap:=h' }):wpAny (model prog w) A (assign (.Tuple elts x1 pos) env (.ref t)) Q E s:=by
 have ne:t≠s.heap.objs.size:=by obtain⟨o,ho,_⟩:=ht;exact Nat.ne_of_lt (Heap.lt_size ho)
 rw [assign_Tuple]
 refine wpAny_bind (wpAny_standAt ?_)
 unfold unpack
 rw [hn,hstar]
 refine wpAny_bind (wpAny_holding ?_)
 unfold unpackItems
 refine wpAny_bind ?_
 unfold notIterableAtAll
 refine wpAny_bind (wpAny_specialOf ht.typeIs slot_tuple_iter.lookup (wpAny_pure ?_))
 simp only [Bool.false_eq_true,if_false]
 refine wpAny_bind (wpAny_holding (iter_tuple ht ?_))
 refine wpAny_bind (wpAny_holding (draw_tuple ne items.size 0 _ _ ⟨_,Heap.get?_push_size _ rfl,rfl,rfl⟩ (ht.push _) (by omega) fun h₁ hit₁ hs₁=>?_))
 rw [List.drop_zero,List.take_of_length_le (by simp)]
 rw [if_neg (by simp)]
 have k1:∀ b o,s.heap.get? b=some o→h₁.get? b=some o:=fun b o z=>(hs₁.2 b (Nat.ne_of_lt (Heap.lt_size z))).trans (Heap.get?_push_of_some _ z)
 have ht₁:IsTup h₁ t items:=(ht.push _).extBut hs₁.extBut ne
 refine wpAny_bind (wpAny_holding (z694 (s:={ s with heap:=h₁ }) (hh.keeps k1) hit₁ ht₁ (by simp) fun h₂ he₂=>?_))
 simp only [Option.isSome_none,Bool.false_eq_true,if_false]
 exact wpAny_pure (h h₂ fun b o hb z=>he₂ b o hb (k1 b o z))
end
end L2
set_option Elab.async false
set_option linter.all false
set_option maxRecDepth 100000
namespace L2
open PySem PySem.Spec PyProof.Rows
abbrev Key:=Sum Int Str
def keyIs:Key→Value→Bool
 | .inl k,v=>Value.isInt k v
 | .inr x,v=>Value.isStrOf x v
def keyH (w:World):Key→Int
 | .inl k=>hashInt k
 | .inr x=>hashStr w x
theorem keyIs_shape:∀ {k:Key}{v:Value},keyIs k v=true→(∃ i t,k=Sum.inl i∧v=Value.int i t)∨(∃ x t,k=Sum.inr x∧v=Value.str x t)
 | .inl i,v,h=>by
  obtain⟨t,e⟩:=Value.isInt_shape (k:=i) (v:=v) h
  exact .inl ⟨i,t,rfl,e⟩
 | .inr x,v,h=>by
  obtain⟨t,e⟩:=Value.isStrOf_shape (x:=x) (v:=v) h
  exact .inr ⟨x,t,rfl,e⟩
theorem keyIs_int (i:Int) (t:Tok):keyIs (.inl i) (.int i t)=true:=by simp [keyIs,Value.isInt]
theorem keyIs_str (x:Str) (t:Tok):keyIs (.inr x) (.str x t)=true:=by simp [keyIs,Value.isStrOf]
theorem key_ll (a b:Int):decide ((Sum.inl a:Key)=Sum.inl b)=(a == b):=by
 by_cases e:a=b
 ·subst e;simp
 ·have h:¬ (Sum.inl a:Key)=Sum.inl b:=fun q=>e (Sum.inl.inj q)
  rw [decide_eq_false h]
  exact(beq_eq_false_iff_ne.mpr e).symm
theorem key_rr (a b:Str):decide ((Sum.inr a:Key)=Sum.inr b)=decide (a=b):=by
 by_cases e:a=b
 ·subst e;simp
 ·have h:¬ (Sum.inr a:Key)=Sum.inr b:=fun q=>e (Sum.inr.inj q)
  rw [decide_eq_false h,decide_eq_false e]
theorem key_lr (a:Int) (b:Str):decide ((Sum.inl a:Key)=Sum.inr b)=false:=decide_eq_false (fun q=>nomatch q)
theorem key_rl (a:Str) (b:Int):decide ((Sum.inr a:Key)=Sum.inl b)=false:=decide_eq_false (fun q=>nomatch q)
def mixKind (prog:Program) (w:World):PySem.KeyKind prog w Key where
 is:=keyIs
 hash:=keyH w
 inj:=fun v a b ha hb=>by
  rcases keyIs_shape ha with ⟨i,t,rfl,rfl⟩ | ⟨x,t,rfl,rfl⟩
  ·rcases keyIs_shape hb with ⟨j,u,rfl,e⟩ | ⟨y,u,rfl,e⟩
   ·injection e with e1 _;rw [e1]
   ·exact nomatch e
  ·rcases keyIs_shape hb with ⟨j,u,rfl,e⟩ | ⟨y,u,rfl,e⟩
   ·exact nomatch e
   ·injection e with e1 _;rw [e1]
 byValue:=fun k v h=>by
  rcases keyIs_shape h with ⟨i,t,rfl,rfl⟩ | ⟨x,t,rfl,rfl⟩ <;> rfl
 pyHash:=fun hv h=>by
  rcases keyIs_shape hv with ⟨i,t,rfl,rfl⟩ | ⟨x,t,rfl,rfl⟩
  ·exact wpAny_pyHash_int h
  ·exact wpAny_pyHash_str h
 eqBool:=fun hu hv h=>by
  rcases keyIs_shape hu with ⟨i,t,rfl,rfl⟩ | ⟨x,t,rfl,rfl⟩
  ·rcases keyIs_shape hv with ⟨j,u,rfl,rfl⟩ | ⟨y,u,rfl,rfl⟩
   ·rw [key_ll] at h;exact wpAny_eqBool_int h
   ·rw [key_lr] at h;exact SeqAt.EqAt.int_str i t y u _ _ _ _ h
  ·rcases keyIs_shape hv with ⟨j,u,rfl,rfl⟩ | ⟨y,u,rfl,rfl⟩
   ·rw [key_rl] at h;exact SeqAt.EqAt.str_int x t j u _ _ _ _ h
   ·rw [key_rr] at h;exact wpAny_eqBool_str h
 «strs»:=fun k x t v h=>by
  rcases keyIs_shape h with ⟨i,u,rfl,e⟩ | ⟨y,u,rfl,e⟩
  ·exact nomatch e
  ·injection e with e1 _
   subst e1
   cases v <;> rfl
theorem mixKind_int (prog:Program) (w:World) (i:Int) (t:Tok):(mixKind prog w).is (.inl i) (.int i t)=true:=keyIs_int i t
theorem mixKind_str (prog:Program) (w:World) (x:Str) (t:Tok):(mixKind prog w).is (.inr x) (.str x t)=true:=keyIs_str x t
end L2
namespace L2
open PySem PySem.Spec PyProof.Rows
inductive V where
 | non | bl (b:Bool) | int (i:Int) | str (x:Str) | byt (b:Array UInt8) | flt (b:UInt64) | ref (a:Addr) | ty (n:String)
 deriving DecidableEq
def RelV:V→Value→Prop
 | .non,u=>u=Value.none
 | .bl b,u=>u=Value.bool b
 | .int i,u=>∃ t,u=Value.int i t
 | .str x,u=>∃ t,u=Value.str x t
 | .byt b,u=>∃ t,u=Value.bytes b t
 | .flt b,u=>∃ t,u=Value.float b t
 | .ref a,u=>u=Value.ref a
 | .ty n,u=>u=Value.type n
abbrev Vals:List V→List Value→Prop:=Paired RelV
theorem Vals.length {xs:List V}{us:List Value}(r:Vals xs us):xs.length=us.length:=Paired.length r
theorem Vals.get:∀ {xs:List V}{us:List Value}{i:Nat}{x:V},Vals xs us→xs[i]?=some x→∃ u,us[i]?=some u∧RelV x u
 | _,_,_,_,.nil,e=>by simp at e
 | _,_,0,_,.cons r _,e=>by simp at e;subst e;exact⟨_,rfl,r⟩
 | _,_,i + 1,x,.cons _ t,e=>by
  obtain⟨u,h1,h2⟩:=Vals.get (i:=i) (x:=x) t (by simpa using e)
  exact⟨u,by simpa using h1,h2⟩
theorem Vals.set {x:V}{u:Value}(r:RelV x u):∀ {xs:List V}{us:List Value}(i:Nat),Vals xs us→Vals (xs.set i x) (us.set i u)
 | _,_,_,.nil=>.nil
 | _,_,0,.cons _ t=>.cons r t
 | _,_,i + 1,.cons q t=>.cons q (Vals.set r i t)
theorem Vals.append:∀ {xs ys:List V}{us ws:List Value},Vals xs us→Vals ys ws→Vals (xs++ys) (us++ws)
 | _,_,_,_,.nil,s=>s
 | _,_,_,_,.cons r t,s=>.cons r (Vals.append t s)
theorem Vals.take:∀ {xs:List V}{us:List Value}(n:Nat),Vals xs us→Vals (xs.take n) (us.take n)
 | _,_,0,_=>.nil
 | _,_,_ + 1,.nil=>.nil
 | _,_,n + 1,.cons r t=>.cons r (Vals.take n t)
theorem Vals.drop:∀ {xs:List V}{us:List Value}(n:Nat),Vals xs us→Vals (xs.drop n) (us.drop n)
 | _,_,0,r=>r
 | _,_,_ + 1,.nil=>.nil
 | _,_,n + 1,.cons _ t=>Vals.drop n t
def RelO:Option V→Option Value→Prop
 | some v,some u=>RelV v u
 | none,none=>True
 | _,_=>False
def KV {κ:Type}:List (κ × V)→List (κ × Value)→Prop:=Paired fun(p:κ × V) (q:κ × Value)=>p.1=q.1∧RelV p.2 q.2
def kV:Key→V
 | .inl i=>.int i
 | .inr x=>.str x
inductive HO where
 | lst (xs:List V)
 | tup (xs:List V)
 | dK (kvs:List (Key × V)) | dT (kvs:List (List Key × V))
 | set (S:Int→Bool) (n:Nat)
 | ins (C dx:Addr) (fs:List (Str × V))
 | own (x:Addr)
 | xd (fs:List (Str × V))
 | met (f x:Addr)
 | rng (lo hi:Int)
 | frz (o:Obj) (u:HO)
 | tbl (ps:Array Value)
 | ext (φ:Heap→Prop)
abbrev Hp:=Addr→Option HO
def upd (H:Hp) (a:Addr) (o:HO):Hp:=fun b=>if b=a then some o else H b
theorem upd_same {H:Hp}{a:Addr}{o:HO}:upd H a o a=some o:=by unfold upd;rw [if_pos rfl]
theorem upd_ne {H:Hp}{a b:Addr}{o:HO}(h:b≠a):upd H a o b=H b:=by unfold upd;rw [if_neg h]
theorem upd_upd {H:Hp}{a:Addr}{o u:HO}:upd (upd H a o) a u=upd H a u:=by
 funext b;unfold upd;split <;> rfl
theorem ne_of {H:Hp}{a b:Addr}{o u:HO}(h:H a=some o) (h':H b=some u) (d:o≠u):a≠b:=by
 intro e;subst e;rw [h] at h';exact d (Option.some.inj h')
theorem ne_of_none {H:Hp}{a b:Addr}{o:HO}(h:H a=some o) (h':H b=none):a≠b:=by
 intro e;subst e;rw [h] at h';cases h'
section
variable (P:Program) (w:World)
def ObjOk (H:Hp) (h:Heap) (a:Addr):HO→Prop
 | .lst xs=>xs.length≤sizeLine∧∃ (its:List Value) (n:Nat),Vals xs its∧h.get? a=some { cls:=.type "list",data:=.seq its.toArray n }
 | .tup xs=>xs.length≤sizeLine∧∃ its:List Value,Vals xs its∧IsTup h a its.toArray
 | .dK kvs=>kvs.length≤sizeLine∧(a == sysModules)=false∧∃ vs,KV kvs vs∧h.DictOf (mixKind P w) a vs
 | .dT kvs=>kvs.length≤sizeLine∧(a == sysModules)=false∧∃ xs:List (List Key × Addr × Value),
   Paired (fun(p:List Key × V) (q:List Key × Addr × Value)=>p.1=q.1∧H q.2.1=some (.tup (p.1.map kV))∧RelV p.2 q.2.2) kvs xs∧
   ∃ o es ep,h.get? a=some o∧o.ExactDict∧o.data=.dict es ep∧es.toList=xs.map (entryOfKey (tupleKind (mixKind P w)))∧(xs.map (·.1)).Nodup
 | .set S n=>h.SetOf (intKind P w) a S n
 | .ins C dx fs=>H dx=some (.own a)∧fs.length≤1000∧dx≠a∧h.get? a=some (PySem.W.instObj C dx)∧
   ∃ mA,h.Ns1 dx mA∧(∀ f,RelO (fs.lookup f) (mA f))∧PySem.Within mA (fs.map (·.1))
 | .own _=>∃ o,h.get? a=some o
 | .xd fs=>∃ mA,h.Ns1 a mA∧∀ f,RelO (fs.lookup f) (mA f)
 | .rng lo hi=>∃ t u v,h.get? a=some { cls:=.type "range",data:=.fields #[.int lo t,.int hi u,.int 1 v] }
 | .frz o u=>h.get? a=some o∧ObjOk H h a u
 | .tbl ps=>h.get? a=some { cls:=.none,data:=.fields ps }
 | .met f x=>h.get? a=some (PySem.W.methodObj (.ref f) (.ref x))
 | .ext φ=>φ h∧(∃ o,h.get? a=some o)∧∀ h1 h2:Heap,φ h1→(∀ o,h1.get? a=some o→h2.get? a=some o)→φ h2
def HOk (H:Hp) (h:Heap):Prop:=∀ a o,H a=some o→ObjOk P w H h a o
end
section
variable {P:Program}{w:World}{H H':Hp}{h h':Heap}{a:Addr}{o:HO}
theorem ObjOk.lt (x:ObjOk P w H h a o):a < h.objs.size:=by
 cases o with
 | lst xs=>obtain⟨_,_,_,_,e⟩:=x;exact Heap.lt_size e
 | tup xs=>obtain⟨_,_,_,p⟩:=x;exact p.lt
 | dK kvs=>obtain⟨_,_,_,_,o,_,_,e,_⟩:=x;exact Heap.lt_size e
 | dT kvs=>obtain⟨_,_,_,_,o,_,_,e,_⟩:=x;exact Heap.lt_size e
 | set S n=>obtain⟨o,_,_,_,e,_⟩:=x;exact Heap.lt_size e
 | ins C dx fs=>obtain⟨_,_,_,e,_⟩:=x;exact Heap.lt_size e
 | own y=>obtain⟨_,e⟩:=x;exact Heap.lt_size e
 | xd fs=>obtain⟨_,⟨_,_,_,e,_⟩,_⟩:=x;exact Heap.lt_size e
 | rng lo hi=>obtain⟨_,_,_,e⟩:=x;exact Heap.lt_size e
 | frz ob u=>obtain⟨e,_⟩:=x;exact Heap.lt_size e
 | tbl ps=>exact Heap.lt_size (show h.get? a=some _ from x)
 | met f y=>exact Heap.lt_size (show h.get? a=some _ from x)
 | ext φ=>obtain⟨_,⟨_,e⟩,_⟩:=x;exact Heap.lt_size e
theorem Paired.mapP {α β:Type}{F G:α→β→Prop}:∀ {l₁:List α}{l₂:List β},Paired F l₁ l₂→(∀ a b,F a b→G a b)→Paired G l₁ l₂
 | _,_,.nil,_=>.nil
 | _,_,.cons r t,f=>.cons (f _ _ r) (Paired.mapP t f)
theorem ObjOk.stay (x:ObjOk P w H h a o) (k:∀ b u,(b=a∨H b=some (.own a))→h.get? b=some u→h'.get? b=some u)
  (ho:∀ b,H b=some (.own a)→H' b=some (.own a)) (ht:∀ b xs,H b=some (.tup xs)→H' b=some (.tup xs)):ObjOk P w H' h' a o:=by
 induction o with
 | lst xs=>obtain⟨z,its,n,r,e⟩:=x;exact⟨z,its,n,r,k _ _ (.inl rfl) e⟩
 | tup xs=>obtain⟨z,its,r,ob,e,c⟩:=x;exact⟨z,its,r,ob,k _ _ (.inl rfl) e,c⟩
 | dK kvs=>obtain⟨z,y,vs,r,ob,es,ep,e,c⟩:=x;exact⟨z,y,vs,r,ob,es,ep,k _ _ (.inl rfl) e,c⟩
 | dT kvs=>
  obtain⟨z,y,xs,r,ob,es,ep,e,c⟩:=x
  exact⟨z,y,xs,Paired.mapP r fun p q z=>⟨z.1,ht _ _ z.2.1,z.2.2⟩,ob,es,ep,k _ _ (.inl rfl) e,c⟩
 | set S n=>obtain⟨ob,es,ep,t,e,c⟩:=x;exact⟨ob,es,ep,t,k _ _ (.inl rfl) e,c⟩
 | ins C dx fs=>
  obtain⟨d,z,ne,e,mA,⟨od,es,ep,e2,c⟩,r⟩:=x
  exact⟨ho _ d,z,ne,k _ _ (.inl rfl) e,mA,⟨od,es,ep,k _ _ (.inr d) e2,c⟩,r⟩
 | own y=>obtain⟨ob,e⟩:=x;exact⟨ob,k _ _ (.inl rfl) e⟩
 | xd fs=>obtain⟨mA,⟨od,es,ep,e,c⟩,r⟩:=x;exact⟨mA,⟨od,es,ep,k _ _ (.inl rfl) e,c⟩,r⟩
 | rng lo hi=>obtain⟨t,u,v,e⟩:=x;exact⟨t,u,v,k _ _ (.inl rfl) e⟩
 | frz ob u ih=>obtain⟨e,q⟩:=x;exact⟨k _ _ (.inl rfl) e,ih q⟩
 | tbl ps=>
  have e:h.get? a=some { cls:=.none,data:=.fields ps }:=x
  show h'.get? a=some { cls:=.none,data:=.fields ps }
  exact k a _ (.inl rfl) e
 | met f y=>
  have e:h.get? a=some (PySem.W.methodObj (.ref f) (.ref y)):=x
  show h'.get? a=some (PySem.W.methodObj (.ref f) (.ref y))
  exact k a _ (.inl rfl) e
 | ext φ=>obtain⟨p,⟨o,e⟩,st⟩:=x;exact⟨st _ _ p fun o q=>k _ _ (.inl rfl) q,⟨o,k _ _ (.inl rfl) e⟩,st⟩
theorem HOk.lt (x:HOk P w H h) (e:H a=some o):a < h.objs.size:=(x a o e).lt
theorem HOk.fresh (x:HOk P w H h) (e:h.objs.size≤a):H a=none:=by
 cases q:H a with
 | none=>rfl
 | some u=>exact absurd (Nat.lt_of_lt_of_le (x.lt q) e) (Nat.lt_irrefl _)
theorem HOk.kept (x:HOk P w H h) (k:∀ b u,h.get? b=some u→h'.get? b=some u):HOk P w H h':=fun a o e=>
 (x a o e).stay (fun b u _ q=>k b u q) (fun _ q=>q) fun _ _ q=>q
theorem HOk.laid (x:HOk P w H h) (k:∀ b u,h.get? b=some u→h'.get? b=some u) (hp:h.objs.size≤a) (new:ObjOk P w (upd H a o) h' a o):HOk P w (upd H a o) h':=fun b u e=>by
 have hn:=x.fresh hp
 by_cases hb:b=a
 ·subst hb;rw [upd_same] at e;cases e;exact new
 ·rw [upd_ne hb] at e
  exact(x b u e).stay (fun c v _ q=>k c v q) (fun c q=>by rw [upd_ne (ne_of_none q hn)];exact q) fun c xs q=>by rw [upd_ne (ne_of_none q hn)];exact q
end
def Rd (H:Hp) (a:Addr) (u:HO):Prop:=H a=some u∨∃ o,H a=some (.frz o u)
theorem Rd.ok {P:Program}{w:World}{H:Hp}{h:Heap}{a:Addr}{u:HO}(r:Rd H a u) (x:HOk P w H h):ObjOk P w H h a u:=by
 rcases r with r | ⟨o,r⟩
 ·exact x a u r
 ·obtain⟨_,q⟩:=x a _ r
  exact q
def Mut:Option HO→Prop
 | some (.lst _)=>True
 | some (.dK _)=>True
 | some (.dT _)=>True
 | some (.set _ _)=>True
 | some (.ins _ _ _)=>True
 | some (.ext _)=>True
 | _=>False
section
variable {P:Program}{w:World}{H:Hp}{h h':Heap}{x e:Addr}{o':HO}
theorem HOk.write (ok:HOk P w H h) (mu:Mut (H x)) (he:e=x∨H e=some (.own x)) (k:∀ b u,b≠e→h.get? b=some u→h'.get? b=some u) (heo:∃ u,h'.get? e=some u)
  (new:ObjOk P w (upd H x o') h' x o'):HOk P w (upd H x o') h':=fun b u q=>by
 have nown:∀ c y,H c=some (.own y)→c≠x:=fun c y r z=>by subst z;rw [r] at mu;exact mu
 have ntup:∀ c xs,H c=some (.tup xs)→c≠x:=fun c xs r z=>by subst z;rw [r] at mu;exact mu
 by_cases hb:b=x
 ·subst hb;rw [upd_same] at q;cases q;exact new
 ·rw [upd_ne hb] at q
  by_cases hbe:b=e
  ·have q':H b=some (.own x):=by
    rcases he with z | z
    ·exact absurd (hbe.trans z) hb
    ·rw [hbe];exact z
   rw [q] at q';cases q'
   obtain⟨v,hv⟩:=heo
   exact⟨v,by rw [hbe];exact hv⟩
  ·refine(ok b u q).stay (fun c v hc r=>k c v ?_ r) (fun c r=>by rw [upd_ne (nown c b r)];exact r) fun c xs r=>by rw [upd_ne (ntup c xs r)];exact r
   rcases hc with rfl | hc
   ·exact hbe
   ·rintro rfl
    rcases he with z | z
    ·exact nown c b hc z
    ·rw [hc] at z;cases z;exact hb rfl
end
structure Un (fs ex:List Addr) (H H':Hp) (h h':Heap):Prop where
 keep:∀ b o,h.get? b=some o→H b=none→b ∉ fs→b ∉ ex→h'.get? b=some o
 slot:∀ b o,h.get? b=some o→H b=none→b∈fs→b ∉ ex→∃ sl,h'.get? b=some { o with slots:=sl }
 free:∀ b o,h.get? b=some o→H b=none→b ∉ ex→H' b=none
 there:∀ b o,h.get? b=some o→b ∉ ex→∃ o',h'.get? b=some o'
 tups:∀ b xs,H b=some (.tup xs)→H' b=some (.tup xs)
 frzs:∀ b o u,H b=some (.frz o u)→H' b=some (.frz o u)
 tbls:∀ b ps,H b=some (.tbl ps)→∃ more,H' b=some (.tbl (ps++more))
section
variable {fs fs' ex ex':List Addr}{H H1 H2:Hp}{h h1 h2 h':Heap}{a x e:Addr}{o:HO}
theorem Un.any (u:Un fs ex H H1 h h1){b:Addr}{ob:Obj}(q:h.get? b=some ob) (n:H b=none) (hx:b ∉ ex):∃ sl,h1.get? b=some { ob with slots:=sl }:=by
 by_cases hb:b∈fs
 ·exact u.slot b ob q n hb hx
 ·exact⟨ob.slots,u.keep b ob q n hb hx⟩
theorem Un.kept (k:∀ b u,h.get? b=some u→h'.get? b=some u):Un fs ex H H h h':=
 ⟨fun b ob q _ _ _=>k b ob q,fun b ob q _ _ _=>⟨ob.slots,k b ob q⟩,fun _ _ _ n _=>n,fun b ob q _=>⟨ob,k b ob q⟩,fun _ _ q=>q,fun _ _ _ q=>q,fun _ ps q=>⟨#[],by rw [q];simp⟩⟩
theorem Un.refl:Un fs ex H H h h:=Un.kept fun _ _ q=>q
theorem Un.laid (k:∀ b u,h.get? b=some u→h'.get? b=some u) (hp:h.objs.size≤a) (hn:H a=none):Un fs ex H (upd H a o) h h' where
 keep:=fun b u q _ _ _=>k b u q
 slot:=fun b u q _ _ _=>⟨u.slots,k b u q⟩
 free:=fun b u q n _=>by rw [upd_ne (Nat.ne_of_lt (Nat.lt_of_lt_of_le (Heap.lt_size q) hp))];exact n
 there:=fun b u q _=>⟨u,k b u q⟩
 tups:=fun b xs q=>by rw [upd_ne (ne_of_none q hn)];exact q
 frzs:=fun b u xs q=>by rw [upd_ne (ne_of_none q hn)];exact q
 tbls:=fun b ps q=>⟨#[],by rw [upd_ne (ne_of_none q hn),q];simp⟩
theorem Un.write (mu:Mut (H x)) (he:e=x∨H e=some (.own x)) (k:∀ b u,b≠e→h.get? b=some u→h'.get? b=some u) (heo:∃ u,h'.get? e=some u):Un fs ex H (upd H x o) h h':=by
 have hx:∀ b,H b=none→b≠x:=fun b n z=>by subst z;rw [n] at mu;exact mu
 have hb:∀ b,H b=none→b≠e:=fun b n z=>by
  subst z
  rcases he with r | r
  ·exact hx b n r
  ·rw [n] at r;cases r
 have hm:∀ b u,H b=some u→¬ Mut (some u)→b≠x:=fun b u q nm z=>by subst z;rw [q] at mu;exact nm mu
 refine⟨fun b u q n _ _=>k b u (hb b n) q,fun b u q n _ _=>⟨u.slots,k b u (hb b n) q⟩,fun b u q n _=>by rw [upd_ne (hx b n)];exact n,fun b u q _=>?_,
  fun b xs q=>by rw [upd_ne (hm b _ q fun z=>z)];exact q,fun b u xs q=>by rw [upd_ne (hm b _ q fun z=>z)];exact q,fun b ps q=>⟨#[],by rw [upd_ne (hm b _ q fun z=>z),q];simp⟩⟩
 by_cases hbe:b=e
 ·subst hbe;exact heo
 ·exact⟨u,k b u hbe q⟩
end
def trk (h:Heap) (H:Hp):List Addr:=(List.range h.objs.size).filter fun a=>(H a).isSome
def hidT (h:Heap) (H:Hp):Heap:=PySem.W.hideAll h (trk h H)
theorem hidT_size (h:Heap) (H:Hp):(hidT h H).objs.size=h.objs.size:=PySem.W.hideAll_size _ _
theorem hidT_get {h:Heap}{H:Hp}{b:Addr}{o:Obj}(e:h.get? b=some o) (n:H b=none):(hidT h H).get? b=some o:=
 PySem.W.hideAll_get _ e fun hm=>by
  have q:(H b).isSome=true:=(List.mem_filter.mp hm).2
  rw [n] at q;simp at q
theorem of_hidT {h:Heap}{H:Hp}{b:Addr}{o:Obj}(e:(hidT h H).get? b=some o):h.get? b=some o∧H b=none:=by
 have e':h.get? b=some o:=PySem.W.of_hideAll (trk h H) e
 refine⟨e',?_⟩
 cases q:H b with
 | none=>rfl
 | some x=>
  have hm:b∈trk h H:=List.mem_filter.mpr ⟨List.mem_range.mpr (Heap.lt_size e'),by simp [q]⟩
  have z:(hidT h H).get? b=none:=PySem.W.hideAll_none (trk h H) hm
  rw [z] at e;cases e
def allNews (g h:Heap) (L:Addr):List (Addr × Obj):=(List.range h.objs.size).filterMap fun a=>if a=L∨(g.get? a).isSome=true then none else(h.get? a).map fun o=>(a,o)
def rest (g h:Heap) (L d:Addr):List (Addr × Obj):=(allNews g h L).filter fun p=>decide (p.1≠d)
end L2
namespace L2
open PySem PySem.Spec PyProof.Rows
structure Mod (K:PySem.W.Frag) (mg:Str→Option Value) (base:Heap):Prop where
 kin:K.In base
 glob:base.Ns mainGlobals mg
 blt:∃ mb,base.Ns builtinsNs mb∧∀ x:Str,x≠"__name__"→mb x=bootBuiltins x
 nolimit:base.NoLimit
structure Cx where
 prog:Program
 w:World
 K:PySem.W.Frag
 mg:Str→Option Value
 base:Heap
 A:Around
 N:List Str
 s₀:Shared
 H₀:Hp
 env:Env
 outer:List Env
 stack:List Env
 ex:List Addr
 fn:Str→Bool
 calm:Bool
 pn:List (Addr × Obj)
 xe:Value→Shared→Prop
def frs (l:List Env):List Addr:=l.filterMap (·.frame)
abbrev Cx.fs (X:Cx):List Addr:=frs X.outer
def Vis (sc:Scope) (x:Str):Prop:=sc.names.lookup x=some .local∨sc.names.lookup x=some .cell∨sc.names.lookup x=some .free
def Loc (sc:Scope) (x:Str):Prop:=sc.names.lookup x=some .local∨sc.names.lookup x=some .cell
def Look (env:Env) (h:Heap) (m:Str→Option Value) (x:Str) (u:Value):Prop:=
 (env.kindOf x=some .local∧m x=some u)∨((env.kindOf x=some .cell∨env.kindOf x=some .free)∧∃ c,env.cells.lookup x=some c∧h.IsCell c (some u))
structure Cx.Ok (X:Cx):Prop where
 mod:Mod X.K X.mg X.base
 kind:X.env.scope.kind=.function
 glob:X.env.globals=mainGlobals
 blt:X.env.builtins=builtinsNs
 above:X.s₀.heap.objs.size≤X.env.locals
 inj:∀ x y c,X.env.cells.lookup x=some c→X.env.cells.lookup y=some c→x=y
 has:∀ x,(X.env.kindOf x=some .cell∨X.env.kindOf x=some .free)→∃ c,X.env.cells.lookup x=some c
 cab:∀ x c,X.fn x=true→X.env.cells.lookup x=some c→X.s₀.heap.objs.size≤c
 hd:X.calm=true→X.A.handled=none
 frames:X.A.frames=some X.stack
 stk:X.stack=X.outer∨(X.stack=X.env::X.outer∧X.env.frame=some X.env.locals)
 exf:∀ b∈X.ex,b≠X.env.locals∧∀ x c,X.env.cells.lookup x=some c→c≠b
 bs:∀ b o,X.base.get? b=some o→X.s₀.heap.get? b=some o∧X.H₀ b=none
 bsz:X.base.objs.size≤X.s₀.heap.objs.size
 noex:∀ b o,X.base.get? b=some o→b ∉ X.ex
 exfs:∀ b∈X.ex,b ∉ X.fs
 funs:X.s₀.heap.FunFrames X.base X.outer
 frf:∀ b∈X.fs,X.H₀ b=none
structure Inv (X:Cx) (pins:List (Addr × Obj)) (σ:List (Option V)) (H:Hp) (s:Shared):Prop where
 ok:X.Ok
 os:s.os=X.s₀.os
 bare:AllBare s.gens
 base:Un X.fs X.ex X.H₀ H X.s₀.heap s.heap
 loc:∃ m,s.heap.Ns X.env.locals m∧∀ (i:Nat) (x:Str) (v:V),X.N[i]?=some x→σ[i]?=some (some v)→Vis X.env.scope x→∃ u,RelV v u∧Look X.env s.heap m x u
 cell:∀ x c,X.env.cells.lookup x=some c→∃ v,s.heap.IsCell c v
 free:H X.env.locals=none
 freeC:∀ x c,X.env.cells.lookup x=some c→H c=none
 pin:∀ p∈X.pn++pins,s.heap.get? p.1=some p.2∧H p.1=none∧p.1≠X.env.locals∧p.1 ∉ X.fs∧∀ v,p.2.data≠.cell v
 hok:HOk X.prog X.w H s.heap
 len:σ.length=X.N.length
section
variable {X:Cx}{pins:List (Addr × Obj)}{σ:List (Option V)}{H H':Hp}{s:Shared}{h':Heap}
theorem Cx.Ok.nofr (ok:X.Ok){b:Addr}{o:Obj}(e:X.base.get? b=some o):b ∉ X.fs:=fun hb=>by
 have:=(ok.funs.mem hb).1
 rw [e] at this;cases this
theorem Inv.bs (I:Inv X pins σ H s):∀ b o,X.base.get? b=some o→s.heap.get? b=some o∧H b=none:=fun b o e=>
 ⟨I.base.keep b o (I.ok.bs b o e).1 (I.ok.bs b o e).2 (I.ok.nofr e) (I.ok.noex b o e),I.base.free b o (I.ok.bs b o e).1 (I.ok.bs b o e).2 (I.ok.noex b o e)⟩
theorem Inv.bk (I:Inv X pins σ H s):∀ b o,X.base.get? b=some o→s.heap.get? b=some o:=fun b o e=>(I.bs b o e).1
theorem Inv.mod (I:Inv X pins σ H s):Mod X.K X.mg X.base:=I.ok.mod
theorem Inv.kIn (I:Inv X pins σ H s):X.K.In s.heap:=I.ok.mod.kin.keeps I.bk
theorem Inv.fr (I:Inv X pins σ H s):∃ m,Fr X.base X.env.locals s.heap m:=
 let ⟨m,hn,_⟩:=I.loc
 ⟨m,hn,I.bk,Nat.le_trans I.ok.bsz I.ok.above⟩
theorem Inv.lt (I:Inv X pins σ H s):X.env.locals < s.heap.objs.size:=let ⟨_,hn,_⟩:=I.loc;hn.lt
theorem Inv.sz (I:Inv X pins σ H s):X.s₀.heap.objs.size≤s.heap.objs.size:=Nat.le_trans I.ok.above (Nat.le_of_lt I.lt)
theorem Inv.nofs (I:Inv X pins σ H s){a:Addr}(h:s.heap.objs.size≤a):a ∉ X.fs:=fun hb=>by
 obtain⟨_,o,ho,_⟩:=I.ok.funs.mem hb
 exact absurd (Nat.lt_of_lt_of_le (Heap.lt_size ho) (Nat.le_trans I.sz h)) (Nat.lt_irrefl _)
theorem Inv.cne (I:Inv X pins σ H s):∀ x c,X.env.cells.lookup x=some c→c≠X.env.locals:=fun x c e z=>by
 obtain⟨v,o,ho,hd⟩:=I.cell x c e
 obtain⟨m,⟨o',es,ep,ho',hd',_⟩,_⟩:=I.loc
 rw [z,ho'] at ho;cases ho;rw [hd'] at hd;cases hd
theorem Inv.funs (I:Inv X pins σ H s):s.heap.FunFrames X.base X.outer:=by
 have all:∀ (l:List Env),(∀ b∈frs l,b∈X.fs)→X.s₀.heap.FunFrames X.base l→s.heap.FunFrames X.base l:=by
  intro l
  induction l with
  | nil=>intro _ _;trivial
  | cons env r ih=>
   intro hs hl
   obtain⟨hk,⟨L,o,hf,hn,ho,hd⟩,hr⟩:=hl
   have hL:L∈X.fs:=hs L (by unfold frs;rw [List.filterMap_cons,hf];exact List.mem_cons_self)
   obtain⟨sl,e⟩:=I.base.slot L o ho (I.ok.frf L hL) hL fun z=>I.ok.exfs L z hL
   exact⟨hk,⟨L,_,hf,hn,e,hd⟩,ih (fun b hb=>hs b (by unfold frs;rw [List.filterMap_cons,hf];exact List.mem_cons_of_mem _ hb)) hr⟩
 exact all X.outer (fun _ hb=>hb) I.ok.funs
theorem Inv.stack (I:Inv X pins σ H s):s.heap.FunFrames X.base X.stack:=by
 rcases I.ok.stk with e | ⟨e,hf⟩
 ·rw [e];exact I.funs
 ·rw [e]
  obtain⟨m,hn,_⟩:=I.loc
  refine .cons (by rw [I.ok.kind];decide) hf hn ?_ I.funs
  exact Heap.get?_none_of_le (Nat.le_trans I.ok.bsz I.ok.above)
theorem Inv.stkSub (I:Inv X pins σ H s):∀ b∈frs X.stack,b∈X.env.locals::X.fs:=fun b hb=>by
 rcases I.ok.stk with e | ⟨e,hf⟩
 ·rw [e] at hb;exact List.mem_cons_of_mem _ hb
 ·rw [e] at hb
  unfold frs at hb
  rw [List.filterMap_cons,hf] at hb
  exact hb
theorem Inv.stkFree (I:Inv X pins σ H s):∀ b∈frs X.stack,H b=none:=fun b hb=>by
 rcases List.mem_cons.mp (I.stkSub b hb) with e | hb
 ·rw [e];exact I.free
 ·obtain⟨_,o,ho,_⟩:=I.ok.funs.mem hb
  exact I.base.free b o ho (I.ok.frf b hb) fun z=>I.ok.exfs b z hb
theorem Inv.step {g':Array GenState}{t':Nat}{d':Drawn}{ch:List Addr}(I:Inv X pins σ H s)
  (hch:∀ b∈ch,(b∈X.ex∨X.s₀.heap.objs.size≤b)∧b≠X.env.locals∧(∀ x c,X.env.cells.lookup x=some c→c≠b)∧∀ p∈X.pn++pins,p.1≠b)
  (keep:∀ b o,b≠X.env.locals→b ∉ X.fs→b ∉ ch→s.heap.get? b=some o→H b=none→h'.get? b=some o)
  (slot:∀ b o,b≠X.env.locals→b∈X.fs→b ∉ ch→s.heap.get? b=some o→H b=none→∃ sl,h'.get? b=some { o with slots:=sl }) (free:∀ b o,b ∉ ch→s.heap.get? b=some o→H b=none→H' b=none)
  (there:∀ b o,b ∉ ch→s.heap.get? b=some o→∃ o',h'.get? b=some o')
  (tups:∀ b xs,H b=some (.tup xs)→H' b=some (.tup xs)) (frzs:∀ b o u,H b=some (.frz o u)→H' b=some (.frz o u)) (tbls:∀ b ps,H b=some (.tbl ps)→∃ more,H' b=some (.tbl (ps++more)))
  (ns:∀ m,s.heap.Ns X.env.locals m→h'.Ns X.env.locals m) (hok:HOk X.prog X.w H' h') (hg:AllBare g'):
  Inv X pins σ H' { s with heap:=h',gens:=g',drawn:=d',toks:=t' }:=by
 have neL:∀ b o,X.s₀.heap.get? b=some o→b≠X.env.locals:=fun b o e=>Nat.ne_of_lt (Nat.lt_of_lt_of_le (Heap.lt_size e) I.ok.above)
 have neC:∀ b o,X.s₀.heap.get? b=some o→b ∉ X.ex→b ∉ ch:=fun b o e hx hb=>by
  rcases (hch b hb).1 with z | z
  ·exact hx z
  ·exact absurd (Nat.lt_of_lt_of_le (Heap.lt_size e) z) (Nat.lt_irrefl _)
 have cellK:∀ x c,X.env.cells.lookup x=some c→∀ v,s.heap.IsCell c v→h'.IsCell c v:=fun x c e v ⟨o,ho,hd⟩=>by
  have nch:c ∉ ch:=fun z=>(hch c z).2.2.1 x c e rfl
  by_cases hc:c∈X.fs
  ·obtain⟨sl,q⟩:=slot c o (I.cne x c e) hc nch ho (I.freeC x c e)
   exact⟨_,q,hd⟩
  ·exact⟨o,keep c o (I.cne x c e) hc nch ho (I.freeC x c e),hd⟩
 refine⟨I.ok,I.os,hg,⟨fun b o e n hb hx=>?_,fun b o e n hb hx=>?_,fun b o e n hx=>?_,fun b o e hx=>?_,fun b xs e=>tups b xs (I.base.tups b xs e),fun b o xs e=>frzs b o xs (I.base.frzs b o xs e),fun b ps e=>?_⟩,?_,fun x c e=>?_,?_,fun x c e=>?_,fun p hp=>?_,hok,I.len⟩
 ·exact keep b o (neL b o e) hb (neC b o e hx) (I.base.keep b o e n hb hx) (I.base.free b o e n hx)
 ·obtain⟨sl,e1⟩:=I.base.slot b o e n hb hx
  obtain⟨sl',e2⟩:=slot b _ (neL b o e) hb (neC b o e hx) e1 (I.base.free b o e n hx)
  exact⟨sl',e2⟩
 ·obtain⟨o',e1⟩:=I.base.there b o e hx
  exact free b o' (neC b o e hx) e1 (I.base.free b o e n hx)
 ·obtain⟨o',e1⟩:=I.base.there b o e hx
  exact there b o' (neC b o e hx) e1
 ·obtain⟨m1,e1⟩:=I.base.tbls b ps e
  obtain⟨m2,e2⟩:=tbls b _ e1
  exact⟨m1++m2,by rw [e2,Array.append_assoc]⟩
 ·obtain⟨m,hn,hl⟩:=I.loc
  refine⟨m,ns m hn,fun i x v e1 e2 e3=>?_⟩
  obtain⟨u,r,l⟩:=hl i x v e1 e2 e3
  refine⟨u,r,?_⟩
  rcases l with l | ⟨k,c,e,z⟩
  ·exact .inl l
  ·exact .inr ⟨k,c,e,cellK x c e _ z⟩
 ·obtain⟨v,z⟩:=I.cell x c e
  exact⟨v,cellK x c e v z⟩
 ·obtain⟨m,⟨o,_,_,ho,_⟩,_⟩:=I.loc
  exact free _ o (fun z=>(hch _ z).2.1 rfl) ho I.free
 ·obtain⟨v,o,ho,hd⟩:=I.cell x c e
  exact free c o (fun z=>(hch c z).2.2.1 x c e rfl) ho (I.freeC x c e)
 ·obtain⟨e,n,ne,nf,d⟩:=I.pin p hp
  have nch:p.1 ∉ ch:=fun z=>(hch p.1 z).2.2.2 p hp rfl
  exact⟨keep p.1 p.2 ne nf nch e n,free p.1 p.2 nch e n,ne,nf,d⟩
theorem Inv.un {t':Nat}(I:Inv X pins σ H s) (u:Un X.fs [] H H' s.heap h') (hok:HOk X.prog X.w H' h'):Inv X pins σ H' { s with heap:=h',toks:=t' }:=by
 obtain⟨m,⟨o,es,ep,ho,r⟩,_⟩:=id I.loc
 obtain⟨sl,hL⟩:=u.any ho I.free (by simp)
 exact I.step (g':=s.gens) (d':=s.drawn) (ch:=[]) (fun _ z=>nomatch z) (fun b o _ hb _ e n=>u.keep b o e n hb (by simp)) (fun b o _ hb _ e n=>u.slot b o e n hb (by simp)) (fun b o _ e n=>u.free b o e n (by simp)) (fun b o _ e=>u.there b o e (by simp)) u.tups u.frzs u.tbls (fun m' hm=>by
  obtain⟨o',es',ep',ho',r'⟩:=hm
  rw [ho] at ho';cases ho'
  exact⟨_,es',ep',hL,r'⟩) hok I.bare
theorem Inv.call {g':Array GenState}{t':Nat}{d':Drawn}{ch:List Addr}(I:Inv X pins σ H s) (u:Un (frs X.stack) ch H H' s.heap h') (hok:HOk X.prog X.w H' h') (hg:AllBare g')
  (hch:∀ b∈ch,(b∈X.ex∨X.s₀.heap.objs.size≤b)∧b≠X.env.locals∧(∀ x c,X.env.cells.lookup x=some c→c≠b)∧∀ p∈X.pn++pins,p.1≠b):
  Inv X pins σ H' { s with heap:=h',gens:=g',drawn:=d',toks:=t' }:=by
 obtain⟨m,⟨o,es,ep,ho,r⟩,_⟩:=id I.loc
 obtain⟨sl,hL⟩:=u.any ho I.free fun z=>(hch _ z).2.1 rfl
 exact I.step (ch:=ch) hch (fun b o hL hb hc e n=>u.keep b o e n (fun z=>(List.mem_cons.mp (I.stkSub b z)).elim hL hb) hc) (fun b o _ _ hc e n=>u.any e n hc) (fun b o hc e n=>u.free b o e n hc) (fun b o hc e=>u.there b o e hc) u.tups u.frzs u.tbls (fun m' hm=>by
  obtain⟨o',es',ep',ho',r'⟩:=hm
  rw [ho] at ho';cases ho'
  exact⟨_,es',ep',hL,r'⟩) hok hg
theorem Inv.turned {t':Nat}{it:Addr}(I:Inv X pins σ H s) (k:∀ b o,b≠it→s.heap.get? b=some o→h'.get? b=some o) (hn:H it=none) (hL:it≠X.env.locals)
  (h1:it∈X.ex∨X.s₀.heap.objs.size≤it) (h2:∀ x c,X.env.cells.lookup x=some c→c≠it) (h3:∀ p∈X.pn++pins,p.1≠it):Inv X pins σ H { s with heap:=h',toks:=t' }:=by
 have nit:∀ b u,H b=some u→b≠it:=fun b u e z=>by rw [z,hn] at e;cases e
 refine I.step (g':=s.gens) (d':=s.drawn) (ch:=[it]) (fun b hb=>?_) (fun b o _ _ hc e _=>k b o (fun z=>hc (by simp [z])) e) (fun b o _ _ hc e _=>⟨o.slots,k b o (fun z=>hc (by simp [z])) e⟩) (fun _ _ _ _ n=>n)
  (fun b o hc e=>⟨o,k b o (fun z=>hc (by simp [z])) e⟩) (fun _ _ e=>e) (fun _ _ _ e=>e) (fun b ps e=>⟨#[],by rw [e];simp⟩) (fun m hm=>?_) (fun b u e=>?_) I.bare
 ·have e:b=it:=by simpa using hb
  subst e
  exact⟨h1,hL,h2,h3⟩
 ·obtain⟨o,es,ep,ho,r⟩:=hm
  exact⟨o,es,ep,k _ o (Ne.symm hL) ho,r⟩
 ·refine(I.hok b u e).stay (fun c v hc q=>k c v ?_ q) (fun _ q=>q) fun _ _ q=>q
  rcases hc with z | z
  ·rw [z];exact nit b u e
  ·exact nit c _ z
theorem Inv.tok (I:Inv X pins σ H s) (t:Nat):Inv X pins σ H { s with toks:=t }:=I.un (h':=s.heap) (t':=t) Un.refl I.hok
theorem Inv.kept {t':Nat}(I:Inv X pins σ H s) (k:∀ b u,s.heap.get? b=some u→h'.get? b=some u):Inv X pins σ H { s with heap:=h',toks:=t' }:=I.un (Un.kept k) (I.hok.kept k)
theorem Inv.laid {a:Addr}{o:HO}{t':Nat}(I:Inv X pins σ H s) (k:∀ b u,s.heap.get? b=some u→h'.get? b=some u) (hp:s.heap.objs.size≤a) (new:ObjOk X.prog X.w (upd H a o) h' a o):
  Inv X pins σ (upd H a o) { s with heap:=h',toks:=t' }:=I.un (Un.laid k hp (I.hok.fresh hp)) (I.hok.laid k hp new)
theorem Inv.write {x e:Addr}{o:HO}{t':Nat}(I:Inv X pins σ H s) (mu:Mut (H x)) (he:e=x∨H e=some (.own x)) (k:∀ b u,b≠e→s.heap.get? b=some u→h'.get? b=some u) (heo:∃ u,h'.get? e=some u)
  (new:ObjOk X.prog X.w (upd H x o) h' x o):Inv X pins σ (upd H x o) { s with heap:=h',toks:=t' }:=I.un (Un.write mu he k heo) (I.hok.write mu he k heo new)
theorem Inv.weak {σ':List (Option V)} (I:Inv X pins σ H s) (hl:σ'.length=σ.length) (w:∀ (i:Nat) v,σ'[i]?=some (some v)→σ[i]?=some (some v)):Inv X pins σ' H s:=
 ⟨I.ok,I.os,I.bare,I.base,let ⟨m,hn,hl'⟩:=I.loc;⟨m,hn,fun i x v e1 e2 e3=>hl' i x v e1 (w i v e2) e3⟩,I.cell,I.free,I.freeC,I.pin,I.hok,hl.trans I.len⟩
def Calm (X:Cx):Prop:=X.calm=true∨∃ (ea C:Addr) (dx:Option Addr) (vs:Array Value) (sl:Array (Option Value)),X.A.handled=some (.ref ea)∧vs[2]?=some Value.none∧(ea,(⟨.ref C,dx,.fields vs,sl⟩:Obj))∈X.pn
theorem calm0 {X:Cx}(h:X.calm=true):Calm X:=.inl h
theorem Inv.calm (I:Inv X pins σ H s) (c:Calm X):Hd X.A s.heap:=by
 rcases c with c | ⟨ea,C,dx,vs,sl,h1,h2,h3⟩
 ·exact .inl (I.ok.hd c)
 ·exact .inr ⟨ea,C,dx,vs,sl,h1,(I.pin _ (List.mem_append_left _ h3)).1,h2⟩
theorem Inv.pins_of {pins':List (Addr × Obj)} (I:Inv X pins σ H s) (h:∀ p∈pins',s.heap.get? p.1=some p.2∧H p.1=none∧p.1≠X.env.locals∧p.1 ∉ X.fs∧∀ v,p.2.data≠.cell v):Inv X pins' σ H s:=
 ⟨I.ok,I.os,I.bare,I.base,I.loc,I.cell,I.free,I.freeC,fun p hp=>(List.mem_append.mp hp).elim (fun z=>I.pin p (List.mem_append_left _ z)) (h p),I.hok,I.len⟩
theorem nodup_ix {N:List Str}(hN:N.Nodup){i j:Nat}{x:Str}(a:N[i]?=some x) (b:N[j]?=some x):i=j:=by
 obtain⟨h1,e1⟩:=List.getElem?_eq_some_iff.mp a
 obtain⟨h2,e2⟩:=List.getElem?_eq_some_iff.mp b
 exact(List.getElem_inj hN).mp (e1.trans e2.symm)
theorem store_ok2 {M:Model}{A:Around}{E:Value→Shared→Prop}{i:Nat}{x:Str}{v:V}{u:Value}{Q:Unit→Shared→Prop}(I:Inv X pins σ H s) (hN:X.N.Nodup) (hi:X.N[i]?=some x) (hx:Loc X.env.scope x) (r:RelV v u)
  (h:∀ s',Inv X pins (σ.set i (some v)) H s'→(∃ a,Heap.SameBut a s.heap s'.heap∧(a=X.env.locals∨X.env.cells.lookup x=some a))→Q () s') (hf:X.fn x=true∨X.env.scope.names.lookup x=some .local:=by first | exact .inl rfl | exact .inr rfl | assumption):wpAny M A (storeName X.env x u) Q E s:=by
 obtain⟨m,hn,hl⟩:=id I.loc
 have hcls:(X.env.scope.kind == .class || (X.env.scope.kind == .module && X.env.locals != X.env.globals))=false:=by rw [I.ok.kind];rfl
 have hiσ:i < σ.length:=by rw [I.len];exact(List.getElem?_eq_some_iff.mp hi).1
 have cne:=I.cne
 have tracked:∀ {a:Addr}{h':Heap},(∃ o,s.heap.get? a=some o∧H a=none)→Heap.SameBut a s.heap h'→HOk X.prog X.w H h':=fun{a h'} ha hs b ob e=>by
  obtain⟨_,_,hfree⟩:=ha
  refine(I.hok b ob e).stay (fun c w' hc q=>(hs.2 c ?_).trans q) (fun _ q=>q) fun _ _ q=>q
  rintro rfl
  rcases hc with rfl | hc
  ·rw [hfree] at e;cases e
  ·rw [hfree] at hc;cases hc
 rcases hx with hk | hk
 ·refine wpAny_storeName_local hk hn (fun h' hn' hs=>?_) hcls
  obtain⟨oL,_,_,hoL,_⟩:=id hn
  refine h _ ⟨I.ok,I.os,I.bare,⟨fun b o e n hb hx=>?_,fun b o e n hb hx=>?_,I.base.free,fun b o e hx=>?_,I.base.tups,I.base.frzs,I.base.tbls⟩,⟨_,hn',fun j y v' e1 e2 e3=>?_⟩,fun y c e=>?_,I.free,I.freeC,fun p hp=>?_,tracked ⟨oL,hoL,I.free⟩ hs,by simpa using I.len⟩ ⟨_,hs,.inl rfl⟩
  ·exact(hs.2 b (Nat.ne_of_lt (Nat.lt_of_lt_of_le (Heap.lt_size e) I.ok.above))).trans (I.base.keep b o e n hb hx)
  ·obtain⟨sl,e1⟩:=I.base.slot b o e n hb hx
   exact⟨sl,(hs.2 b (Nat.ne_of_lt (Nat.lt_of_lt_of_le (Heap.lt_size e) I.ok.above))).trans e1⟩
  ·obtain⟨o',e1⟩:=I.base.there b o e hx
   exact⟨o',(hs.2 b (Nat.ne_of_lt (Nat.lt_of_lt_of_le (Heap.lt_size e) I.ok.above))).trans e1⟩
  ·by_cases hj:j=i
   ·subst hj
    rw [hi] at e1;cases e1
    rw [List.getElem?_set_self hiσ] at e2
    cases e2
    exact⟨u,r,.inl ⟨hk,by simp⟩⟩
   ·rw [List.getElem?_set_ne (Ne.symm hj)] at e2
    obtain⟨u',r',q⟩:=hl j y v' e1 e2 e3
    refine⟨u',r',?_⟩
    rcases q with ⟨k,e⟩ | ⟨k,c,e,z⟩
    ·refine .inl ⟨k,?_⟩
     have:y≠x:=fun e=>hj (nodup_ix hN e1 (e ▸ hi))
     simp [this,e]
    ·exact .inr ⟨k,c,e,z.sameBut hs (cne y c e)⟩
  ·obtain⟨w',z⟩:=I.cell y c e
   exact⟨w',z.sameBut hs (cne y c e)⟩
  ·obtain⟨e,n,ne,nf,d⟩:=I.pin p hp
   exact⟨(hs.2 p.1 ne).trans e,n,ne,nf,d⟩
 ·have hfn:X.fn x=true:=by
   rcases hf with z | z
   ·exact z
   ·rw [z] at hk;cases hk
  obtain⟨c,hc⟩:=I.ok.has x (.inl hk)
  obtain⟨w',z⟩:=I.cell x c hc
  refine wpAny_storeName_cell I.ok.kind hk hc z (fun h' hc' hs=>?_)
  obtain⟨oc,hoc,hocd⟩:=id z
  refine h { s with heap:=h' } ⟨I.ok,I.os,I.bare,⟨fun b o e n hb hx=>?_,fun b o e n hb hx=>?_,I.base.free,fun b o e hx=>?_,I.base.tups,I.base.frzs,I.base.tbls⟩,⟨m,hn.sameBut hs (Ne.symm (cne x c hc)),fun j y v' e1 e2 e3=>?_⟩,fun y c' e=>?_,I.free,I.freeC,fun p hp=>?_,tracked ⟨oc,hoc,I.freeC x c hc⟩ hs,by simpa using I.len⟩ ⟨c,hs,.inr hc⟩
  ·exact(hs.2 b (Nat.ne_of_lt (Nat.lt_of_lt_of_le (Heap.lt_size e) (I.ok.cab x c hfn hc)))).trans (I.base.keep b o e n hb hx)
  ·obtain⟨sl,e1⟩:=I.base.slot b o e n hb hx
   exact⟨sl,(hs.2 b (Nat.ne_of_lt (Nat.lt_of_lt_of_le (Heap.lt_size e) (I.ok.cab x c hfn hc)))).trans e1⟩
  ·obtain⟨o',e1⟩:=I.base.there b o e hx
   exact⟨o',(hs.2 b (Nat.ne_of_lt (Nat.lt_of_lt_of_le (Heap.lt_size e) (I.ok.cab x c hfn hc)))).trans e1⟩
  ·by_cases hj:j=i
   ·subst hj
    rw [hi] at e1;cases e1
    rw [List.getElem?_set_self hiσ] at e2
    cases e2
    exact⟨u,r,.inr ⟨.inl hk,c,hc,hc'⟩⟩
   ·rw [List.getElem?_set_ne (Ne.symm hj)] at e2
    obtain⟨u',r',q⟩:=hl j y v' e1 e2 e3
    refine⟨u',r',?_⟩
    rcases q with q | ⟨k,c',e,z'⟩
    ·exact .inl q
    ·refine .inr ⟨k,c',e,z'.sameBut hs ?_⟩
     rintro rfl
     exact hj (nodup_ix hN e1 (I.ok.inj _ _ _ e hc ▸ hi))
  ·by_cases hcc:c'=c
   ·subst hcc;exact⟨_,hc'⟩
   ·obtain⟨w2,z2⟩:=I.cell y c' e
    exact⟨w2,z2.sameBut hs hcc⟩
  ·obtain⟨e,n,ne,nf,d⟩:=I.pin p hp
   refine⟨(hs.2 p.1 ?_).trans e,n,ne,nf,d⟩
   intro q
   rw [q,hoc] at e
   have q':oc=p.2:=Option.some.inj e
   exact d w' (by rw [← q'];exact hocd)
theorem store_ok {M:Model}{A:Around}{E:Value→Shared→Prop}{i:Nat}{x:Str}{v:V}{u:Value}{Q:Unit→Shared→Prop}(I:Inv X pins σ H s) (hN:X.N.Nodup) (hi:X.N[i]?=some x) (hx:Loc X.env.scope x) (r:RelV v u)
  (h:∀ s',Inv X pins (σ.set i (some v)) H s'→Q () s') (hf:X.fn x=true∨X.env.scope.names.lookup x=some .local:=by first | exact .inl rfl | exact .inr rfl | assumption):wpAny M A (storeName X.env x u) Q E s:=
 store_ok2 I hN hi hx r (fun s' I' _=>h s' I') hf
theorem Inv.call' {s':Shared}{ch:List Addr}(I:Inv X pins σ H s) (ho:s'.os=s.os) (u:Un (frs X.stack) ch H H' s.heap s'.heap) (hok:HOk X.prog X.w H' s'.heap) (hg:AllBare s'.gens)
  (hch:∀ b∈ch,(b∈X.ex∨X.s₀.heap.objs.size≤b)∧b≠X.env.locals∧(∀ x c,X.env.cells.lookup x=some c→c≠b)∧∀ p∈X.pn++pins,p.1≠b):Inv X pins σ H' s':=by
 obtain⟨h',g',d',t',o'⟩:=s'
 have e:o'=s.os:=ho
 subst e
 exact I.call (g':=g') (t':=t') (d':=d') u hok hg hch
end
abbrev XK:=Value→Option Addr→Hp→Prop
abbrev St:=List (Option V)
abbrev VK:=V→Hp→Prop
abbrev TE:=St→Hp→VK→Prop
abbrev TT:=St→Hp→(Bool→Hp→Prop)→Prop
abbrev TA:=St→Hp→(List V→Hp→Prop)→Prop
structure Ends where
 nx:St→Hp→Prop
 rt:VK
 bk:St→Hp→Prop:=fun _ _=>False
 ct:St→Hp→Prop:=fun _ _=>False
abbrev TS:=Ends→St→Hp→Prop
def EP (X:Cx) (pins:List (Addr × Obj)) (σ:St) (Q:VK) (u:Value) (s':Shared):Prop:=∃ v H',Inv X pins σ H' s'∧RelV v u∧Q v H'
def TP (X:Cx) (pins:List (Addr × Obj)) (σ:St) (Q:Bool→Hp→Prop) (b:Bool) (s':Shared):Prop:=∃ H',Inv X pins σ H' s'∧Q b H'
def AP (X:Cx) (pins:List (Addr × Obj)) (σ:St) (Q:List V→Hp→Prop) (us:List Value) (s':Shared):Prop:=∃ vs H',Inv X pins σ H' s'∧Vals vs us∧Q vs H'
def SP (X:Cx) (pins:List (Addr × Obj)) (D:Ends) (f:Flow) (s':Shared):Prop:=
 match f with
 | .next=>∃ σ' H',Inv X pins σ' H' s'∧D.nx σ' H'
 | .brk=>∃ σ' H',Inv X pins σ' H' s'∧D.bk σ' H'
 | .cont=>∃ σ' H',Inv X pins σ' H' s'∧D.ct σ' H'
 | .ret u=>∃ v σ' H',Inv X pins σ' H' s'∧RelV v u∧D.rt v H'
def PE (X:Cx) (e:Expr) (t:TE):Prop:=
 ∀ (pins:List (Addr × Obj)) (s:Shared) (σ:St) (H:Hp) (Q:VK),Inv X pins σ H s→t σ H Q→wpAny (model X.prog X.w) X.A (eval e X.env) (EP X pins σ Q) X.xe s
def PT (X:Cx) (e:Expr) (t:TT):Prop:=
 ∀ (pins:List (Addr × Obj)) (s:Shared) (σ:St) (H:Hp) (Q:Bool→Hp→Prop),Inv X pins σ H s→t σ H Q→wpAny (model X.prog X.w) X.A (isTrue e X.env (eval e X.env)) (TP X pins σ Q) X.xe s
def PW (X:Cx) (e:Expr) (t:TT):Prop:=
 ∀ (whole:Sem Value) (pins:List (Addr × Obj)) (s:Shared) (σ:St) (H:Hp) (Q:Bool→Hp→Prop),Inv X pins σ H s→t σ H Q→wpAny (model X.prog X.w) X.A (isTrue e X.env whole) (TP X pins σ Q) X.xe s
theorem PW.pt {X:Cx}{e:Expr}{t:TT}(h:PW X e t):PT X e t:=h _
def PA (X:Cx) (es:List Expr) (t:TA):Prop:=
 ∀ (pos:Pos) (pins:List (Addr × Obj)) (s:Shared) (σ:St) (H:Hp) (Q:List V→Hp→Prop),Inv X pins σ H s→t σ H Q→wpAny (model X.prog X.w) X.A (spliced (backTo pos (starEach es X.env))) (AP X pins σ Q) X.xe s
def PS (X:Cx) (st:Stmt) (t:TS):Prop:=
 ∀ (pins:List (Addr × Obj)) (s:Shared) (σ:St) (H:Hp) (D:Ends),Inv X pins σ H s→t D σ H→wpAny (model X.prog X.w) X.A (exec st X.env) (SP X pins D) X.xe s
def PSs (X:Cx) (st:List Stmt) (t:TS):Prop:=
 ∀ (pins:List (Addr × Obj)) (s:Shared) (σ:St) (H:Hp) (D:Ends),Inv X pins σ H s→t D σ H→wpAny (model X.prog X.w) X.A (execs st X.env) (SP X pins D) X.xe s
theorem thn {α:Type}{t:Sem α}{Q Q':α→Shared→Prop}{M:Model}{A:Around}{E:Value→Shared→Prop}{s:Shared}(h:wpAny M A t Q E s) (hQ:∀ a s,Q a s→Q' a s):wpAny M A t Q' E s:=wpAny_mono h hQ fun _ _ x=>x
end L2
namespace L2
open PySem PySem.Spec PyProof.Rows
section
variable {X:Cx}
def tVar (i:Nat):TE:=fun σ H Q=>∃ v,σ[i]?=some (some v)∧Q v H
def tC (v:V):TE:=fun _ H Q=>Q v H
theorem pe_var {i:Nat}{x:Str}{pos:Pos}(hN:X.N[i]?=some x) (hv:Vis X.env.scope x) (hd:(x == ("__debug__":Str))=false:=by decide) (hcd:(x == ("__classdict__":Str))=false:=by decide):PE X (.Name x pos) (tVar i):=by
 intro pins s σ H Q I h
 obtain⟨v,e,h⟩:=h
 obtain⟨m,hn,hl⟩:=I.loc
 obtain⟨u,r,l⟩:=hl i x v hN e hv
 have fin:EP X pins σ Q u s:=⟨v,H,I,r,h⟩
 rcases l with ⟨hk,hm⟩ | ⟨hk,c,hc,hcell⟩
 ·exact wpAny_Name (wpAny_loadName_local I.ok.kind hk hn hm fin) hd
 ·rcases hk with hk | hk
  ·exact wpAny_Name (wpAny_loadName_cell I.ok.kind hk hc hcell fin) hd
  ·exact wpAny_Name (wpAny_loadName_free I.ok.kind hk hc hcell fin hcd) hd
theorem pe_int {i j pos}:PE X (.Constant (.int i) j pos) (tC (.int i)):=fun _ _ _ H _ I h=>wpAny_Constant_int ⟨.int i,H,I.tok _,⟨_,rfl⟩,h⟩
theorem pe_bl {b j pos}:PE X (.Constant (.bool b) j pos) (tC (.bl b)):=fun _ _ _ H _ I h=>Constant_bool ⟨.bl b,H,I,rfl,h⟩
theorem pe_non {j pos}:PE X (.Constant .none j pos) (tC .non):=fun _ _ _ H _ I h=>Constant_none ⟨.non,H,I,rfl,h⟩
theorem pe_str {x j pos}:PE X (.Constant (.str x) j pos) (tC (.str x)):=fun _ _ _ H _ I h=>Calls.Constant_str ⟨.str x,H,I.tok _,⟨_,rfl⟩,h⟩
def Gl (X:Cx) (x:Str):Prop:=X.env.kindOf x=some .globalImplicit
theorem ld_glob {E:Value→Shared→Prop}{pins:List (Addr × Obj)}{s:Shared}{σ:St}{H:Hp}{x:Str}{u:Value}{pos:Pos}{Q:Value→Shared→Prop}(I:Inv X pins σ H s) (hg:Gl X x) (hm:X.mg x=some u) (h:Q u s)
  (hd:(x == ("__debug__":Str))=false:=by decide):wpAny (model X.prog X.w) X.A (eval (.Name x pos) X.env) Q E s:=
 Calls.Name_function_global I.ok.kind hg (Calls.loadGlobal_global (by rw [I.ok.glob];exact I.mod.glob.keeps I.bk) hm h) hd
theorem ld_blt {E:Value→Shared→Prop}{pins:List (Addr × Obj)}{s:Shared}{σ:St}{H:Hp}{x:Str}{u:Value}{pos:Pos}{Q:Value→Shared→Prop}(I:Inv X pins σ H s) (hg:Gl X x) (hm:X.mg x=none) (hv:bootBuiltins x=some u) (h:Q u s)
  (hn:x≠"__name__":=by decide) (hd:(x == ("__debug__":Str))=false:=by decide):wpAny (model X.prog X.w) X.A (eval (.Name x pos) X.env) Q E s:=by
 obtain⟨mb,h1,h2⟩:=I.mod.blt
 exact Calls.Name_function_global I.ok.kind hg (Calls.loadGlobal_builtin (by rw [I.ok.glob];exact I.mod.glob.keeps I.bk) hm (by rw [I.ok.blt];exact h1.keeps I.bk) ((h2 x hn).trans hv) h) hd
theorem pe_glob {x:Str}{v:V}{u:Value}{pos:Pos}(hg:Gl X x) (hm:X.mg x=some u) (r:RelV v u) (hd:(x == ("__debug__":Str))=false:=by decide):PE X (.Name x pos) (tC v):=
 fun _ _ _ H _ I h=>ld_glob I hg hm ⟨v,H,I,r,h⟩ hd
theorem pe_bltn {x:Str}{v:V}{u:Value}{pos:Pos}(hg:Gl X x) (hm:X.mg x=none) (hv:bootBuiltins x=some u) (r:RelV v u) (hn:x≠"__name__":=by decide) (hd:(x == ("__debug__":Str))=false:=by decide):PE X (.Name x pos) (tC v):=
 fun _ _ _ H _ I h=>ld_blt I hg hm hv ⟨v,H,I,r,h⟩ hn hd
variable {a b:Expr}{ta tb:TE}{pos:Pos}
def PC (X:Cx) (op:CmpOp) (a b:Expr) (t:TE):Prop:=
 ∀ (pins:List (Addr × Obj)) (s:Shared) (σ:St) (H:Hp) (Q:VK),Inv X pins σ H s→t σ H Q→
  wpAny (model X.prog X.w) X.A (eval a X.env) (fun v s₁=>wpAny (model X.prog X.w) X.A (eval b X.env) (fun u s₂=>wpAny (model X.prog X.w) X.A (compareOp op v u) (EP X pins σ Q) X.xe s₂) X.xe s₁) X.xe s
theorem nobehind (b:Expr){op:CmpOp}(h:op≠.In) (h2:op≠.NotIn):behindInMarks op b=false:=by
 have e1:(op == CmpOp.In)=false:=by cases op <;> first | rfl | exact absurd rfl h
 have e2:(op == CmpOp.NotIn)=false:=by cases op <;> first | rfl | exact absurd rfl h2
 cases b <;> simp [behindInMarks,e1,e2]
def tB (t:TE):TT:=fun σ H Q=>t σ H fun x H1=>∃ c,x=.bl c∧Q c H1
theorem pe_cmp {op:CmpOp}{t:TE}(h:PC X op a b t) (h1:behindInMarks op b=false:=by first | exact nobehind _ (by decide) (by decide) | rfl):PE X (.Compare a [op] [b] pos) t:=fun pins s σ H Q I hw=>wpAny_Compare1 (h pins s σ H Q I hw) h1
theorem pt_cmp {op:CmpOp}{t:TE}(h:PC X op a b t) (h1:behindInMarks op b=false:=by first | exact nobehind _ (by decide) (by decide) | rfl):PT X (.Compare a [op] [b] pos) (tB t):=by
 intro pins s σ H Q I hw
 refine wpAny_isTrue_Compare1 (thn (h pins s σ H _ I hw) fun v s1 h1=>thn h1 fun u s2 h2=>thn h2 fun c s3 ⟨x,H1,I1,r1,q1⟩=>?_) h1
 obtain⟨d,rfl,q⟩:=q1
 cases r1
 exact wpAny_truthy_bool ⟨H1,I1,q⟩
theorem pt_val {e:Expr}{t:TE}(h:PE X e t) (he:∀ whole,isTrue e X.env whole=(do let v ← whole;standAt e.pos;holding [v] (truthy v)):=by intro _;rfl):PT X e (tB t):=by
 intro pins s σ H Q I hw
 refine isTrue_plain (thn (h pins s σ H _ I hw) fun v s1 ⟨x,H1,I1,r1,q1⟩=>?_) (he _)
 obtain⟨d,rfl,q⟩:=q1
 cases r1
 exact wpAny_truthy_bool ⟨H1,I1,q⟩
variable {tA tB':TT}{rest:List Expr}
def tAnd (t u:TT):TT:=fun σ H Q=>t σ H fun c H1=>if c=true then u σ H1 Q else Q false H1
def tOr (t u:TT):TT:=fun σ H Q=>t σ H fun c H1=>if c=true then Q true H1 else u σ H1 Q
def tNot (t:TT):TT:=fun σ H Q=>t σ H fun c H1=>Q (!c) H1
theorem pw_and1 (ha:PT X a tA):PW X (.BoolOp .And [a] pos) tA:=by
 intro wh pins s σ H Q I h
 refine isTrue_and (thn (ha pins s σ H Q I h) fun c s1 e=>?_)
 cases c with
 | true=>exact isTrue_and_nil e
 | false=>exact e
theorem pw_or1 (ha:PT X a tA):PW X (.BoolOp .Or [a] pos) tA:=by
 intro wh pins s σ H Q I h
 refine isTrue_or (thn (ha pins s σ H Q I h) fun c s1 e=>?_)
 cases c with
 | false=>exact isTrue_or_nil e
 | true=>exact e
theorem pw_and (ha:PT X a tA) (hb:PW X (.BoolOp .And (b::rest) pos) tB'):PW X (.BoolOp .And (a::b::rest) pos) (tAnd tA tB'):=by
 intro wh pins s σ H Q I h
 refine isTrue_and (thn (ha pins s σ H _ I h) fun c s1 ⟨H1,I1,q1⟩=>?_)
 cases c with
 | true=>exact hb wh pins s1 σ H1 Q I1 q1
 | false=>exact⟨H1,I1,q1⟩
theorem pw_or (ha:PT X a tA) (hb:PW X (.BoolOp .Or (b::rest) pos) tB'):PW X (.BoolOp .Or (a::b::rest) pos) (tOr tA tB'):=by
 intro wh pins s σ H Q I h
 refine isTrue_or (thn (ha pins s σ H _ I h) fun c s1 ⟨H1,I1,q1⟩=>?_)
 cases c with
 | true=>exact⟨H1,I1,q1⟩
 | false=>exact hb wh pins s1 σ H1 Q I1 q1
theorem pt_not (ha:PT X a tA):PT X (.UnaryOp .Not a pos) (tNot tA):=by
 intro pins s σ H Q I h
 exact isTrue_not (ha pins s σ H (fun c H1=>Q (!c) H1) I h)
def tAndV (ta tb:TE):TE:=fun σ H Q=>ta σ H fun x H1=>∃ c,x=.bl c∧if c=true then tb σ H1 Q else Q (.bl false) H1
def tOrV (ta tb:TE):TE:=fun σ H Q=>ta σ H fun x H1=>∃ c,x=.bl c∧if c=true then Q (.bl true) H1 else tb σ H1 Q
def tNotV (ta:TE):TE:=fun σ H Q=>ta σ H fun x H1=>∃ c,x=.bl c∧Q (.bl (!c)) H1
theorem pe_one {op}{t:TE}(h:PE X a t):PE X (.BoolOp op [a] pos) t:=fun pins s σ H Q I hw=>BoolOp_one (h pins s σ H Q I hw)
theorem pe_and (ha:PE X a ta) (hb:PE X (.BoolOp .And (b::rest) pos) tb):PE X (.BoolOp .And (a::b::rest) pos) (tAndV ta tb):=by
 intro pins s σ H Q I h
 refine BoolOp_and (thn (ha pins s σ H _ I h) fun v s1 ⟨x,H1,I1,r1,q1⟩=>?_)
 obtain⟨c,rfl,q1⟩:=q1
 cases r1
 refine wpAny_truthy_bool ?_
 cases c with
 | true=>exact hb pins s1 σ H1 Q I1 q1
 | false=>exact⟨.bl false,H1,I1,rfl,q1⟩
theorem pe_or (ha:PE X a ta) (hb:PE X (.BoolOp .Or (b::rest) pos) tb):PE X (.BoolOp .Or (a::b::rest) pos) (tOrV ta tb):=by
 intro pins s σ H Q I h
 refine BoolOp_or (thn (ha pins s σ H _ I h) fun v s1 ⟨x,H1,I1,r1,q1⟩=>?_)
 obtain⟨c,rfl,q1⟩:=q1
 cases r1
 refine wpAny_truthy_bool ?_
 cases c with
 | false=>exact hb pins s1 σ H1 Q I1 q1
 | true=>exact⟨.bl true,H1,I1,rfl,q1⟩
theorem pe_not (ha:PE X a ta):PE X (.UnaryOp .Not a pos) (tNotV ta):=by
 intro pins s σ H Q I h
 refine UnaryOp_ (thn (ha pins s σ H _ I h) fun v s1 ⟨x,H1,I1,r1,q1⟩=>?_)
 obtain⟨c,rfl,q1⟩:=q1
 cases r1
 exact not_of (wpAny_truthy_bool ⟨.bl (!c),H1,I1,rfl,q1⟩)
def tIf (t:TT) (ta tb:TE):TE:=fun σ H Q=>t σ H fun c H1=>if c=true then ta σ H1 Q else tb σ H1 Q
theorem pe_ifExp {c:Expr}(hc:PT X c tA) (ha:PE X a ta) (hb:PE X b tb):PE X (.IfExp c a b pos) (tIf tA ta tb):=by
 intro pins s σ H Q I h
 refine wpAny_IfExp (thn (hc pins s σ H _ I h) fun d s1 ⟨H1,I1,q1⟩=>?_)
 cases d with
 | true=>exact ha pins s1 σ H1 Q I1 q1
 | false=>exact hb pins s1 σ H1 Q I1 q1
end
end L2
namespace L2
open PySem PySem.Spec PyProof.Rows
def SqL (K:PySem.W.Frag) (H:Hp) (a:Addr) (xs:List V):Prop:=
 Rd H a (.lst xs)∨
  ∃ (o:Obj) (its:Array Value) (n:Nat),K.lookup a=some o∧o.cls=.type "list"∧o.dict=none∧o.data=.seq its n∧its.size≤sizeLine∧Vals xs its.toList
def SqT (K:PySem.W.Frag) (H:Hp) (a:Addr) (xs:List V):Prop:=
 Rd H a (.tup xs)∨
  ∃ (o:Obj) (its:Array Value) (n:Nat),K.lookup a=some o∧o.cls=.type "tuple"∧o.data=.seq its n∧its.size≤sizeLine∧Vals xs its.toList
def absV:Value→Option V
 | .none=>some .non
 | .bool b=>some (.bl b)
 | .int i _=>some (.int i)
 | .str x _=>some (.str x)
 | .bytes b _=>some (.byt b)
 | .float b _=>some (.flt b)
 | .ref a=>some (.ref a)
 | .type n=>some (.ty n)
 | _=>none
theorem RelV.abs {x:V}{u:Value}(r:RelV x u):absV u=some x:=by
 cases x with
 | non=>cases r;rfl
 | bl _=>cases r;rfl
 | int _=>obtain⟨t,rfl⟩:=r;rfl
 | str _=>obtain⟨t,rfl⟩:=r;rfl
 | byt _=>obtain⟨t,rfl⟩:=r;rfl
 | flt _=>obtain⟨t,rfl⟩:=r;rfl
 | ref _=>cases r;rfl
 | ty _=>cases r;rfl
theorem RelV.inj {x y:V}{u:Value}(r:RelV x u) (q:RelV y u):x=y:=Option.some.inj (r.abs.symm.trans q.abs)
theorem Vals.inj:∀ {xs ys:List V}{us:List Value},Vals xs us→Vals ys us→xs=ys
 | _,_,_,.nil,.nil=>rfl
 | _,_,_,.cons r t,.cons r' t'=>by rw [r.inj r',Vals.inj t t']
section
variable {X:Cx}{pins:List (Addr × Obj)}{σ:St}{H:Hp}{s:Shared}{a:Addr}{xs ys:List V}
theorem SqL.of {K:PySem.W.Frag}(h:H a=some (.lst xs)):SqL K H a xs:=.inl (.inl h)
theorem SqT.of {K:PySem.W.Frag}(h:H a=some (.tup xs)):SqT K H a xs:=.inl (.inl h)
theorem Inv.list (I:Inv X pins σ H s) (h:SqL X.K H a xs):∃ its:List Value,Vals xs its∧PlainL s.heap a its.toArray∧xs.length≤sizeLine:=by
 rcases h with h | ⟨o,its,n,hk,hc,hd,hs,hz,r⟩
 ·obtain⟨z,its,n,r,e⟩:=h.ok I.hok
  exact⟨its,r,⟨_,n,e,rfl,rfl,rfl⟩,z⟩
 ·refine⟨its.toList,r,⟨o,n,I.kIn a o hk,hc,hd,by simpa using hs⟩,?_⟩
  have e:=r.length
  simp only [Array.length_toList] at e
  omega
theorem Inv.tuple (I:Inv X pins σ H s) (h:SqT X.K H a xs):∃ its:List Value,Vals xs its∧IsTup s.heap a its.toArray∧xs.length≤sizeLine:=by
 rcases h with h | ⟨o,its,n,hk,hc,hs,hz,r⟩
 ·obtain⟨z,its,r,p⟩:=h.ok I.hok
  exact⟨its,r,p,z⟩
 ·refine⟨its.toList,r,⟨o,I.kIn a o hk,hc,n,by simpa using hs⟩,?_⟩
  have e:=r.length
  simp only [Array.length_toList] at e
  omega
theorem Inv.list_inj (I:Inv X pins σ H s) (h:SqL X.K H a xs) (h':SqL X.K H a ys):xs=ys:=by
 obtain⟨its,r,⟨o,n,e,_,_,d⟩,_⟩:=I.list h
 obtain⟨its',r',⟨o',n',e',_,_,d'⟩,_⟩:=I.list h'
 rw [e] at e';cases e'
 rw [d] at d'
 injection d' with d1 _
 have:its=its':=by simpa using congrArg Array.toList d1
 subst this
 exact r.inj r'
end
abbrev Cx.wish (X:Cx) (E:Value→Shared→Prop):Cx:={ X with xe:=E }
abbrev Cx.nox (X:Cx):Cx:=X.wish fun _ _=>False
theorem Cx.Ok.wish {X:Cx}(ok:X.Ok) (E:Value→Shared→Prop):(X.wish E).Ok:=
 ⟨ok.mod,ok.kind,ok.glob,ok.blt,ok.above,ok.inj,ok.has,ok.cab,ok.hd,ok.frames,ok.stk,ok.exf,ok.bs,ok.bsz,ok.noex,ok.exfs,ok.funs,ok.frf⟩
theorem Cx.Ok.unwish {X:Cx}{E:Value→Shared→Prop}(ok:(X.wish E).Ok):X.Ok:=
 ⟨ok.mod,ok.kind,ok.glob,ok.blt,ok.above,ok.inj,ok.has,ok.cab,ok.hd,ok.frames,ok.stk,ok.exf,ok.bs,ok.bsz,ok.noex,ok.exfs,ok.funs,ok.frf⟩
section
variable {X:Cx}{pins:List (Addr × Obj)}{σ:St}{H:Hp}{s:Shared}{E:Value→Shared→Prop}
theorem Inv.wish (I:Inv X pins σ H s) (E:Value→Shared→Prop):Inv (X.wish E) pins σ H s:=⟨I.ok.wish E,I.os,I.bare,I.base,I.loc,I.cell,I.free,I.freeC,I.pin,I.hok,I.len⟩
theorem Inv.unwish (I:Inv (X.wish E) pins σ H s):Inv X pins σ H s:=⟨I.ok.unwish,I.os,I.bare,I.base,I.loc,I.cell,I.free,I.freeC,I.pin,I.hok,I.len⟩
theorem SP.unwish {D:Ends}{f:Flow}{s':Shared}(h:SP (X.wish E) pins D f s'):SP X pins D f s':=by
 cases f with
 | next=>obtain⟨σ',H',I,q⟩:=h;exact⟨σ',H',I.unwish,q⟩
 | brk=>obtain⟨σ',H',I,q⟩:=h;exact⟨σ',H',I.unwish,q⟩
 | cont=>obtain⟨σ',H',I,q⟩:=h;exact⟨σ',H',I.unwish,q⟩
 | ret u=>obtain⟨v,σ',H',I,r,q⟩:=h;exact⟨v,σ',H',I.unwish,r,q⟩
theorem PSs.nox {st:List Stmt}{t:TS}(h:PSs X.nox st t):PSs X st t:=fun pins s σ H D I hw=>
 wpAny_mono (h pins s σ H D (I.wish _) hw) (fun _ _ q=>q.unwish) fun _ _ z=>False.elim z
end
section
variable {X:Cx}{st:Stmt}{rest:List Stmt}{t u:TS}{e:Expr}{te:TE}{pos:Pos}
def tNext:TS:=fun D σ H=>D.nx σ H
def tSeq (t u:TS):TS:=fun D σ H=>t { D with nx:=u D } σ H
theorem pss_nil:PSs X [] tNext:=fun _ _ σ H _ I h=>wpAny_execs_nil ⟨σ,H,I,h⟩
theorem pss_cons (h1:PS X st t) (h2:PSs X rest u):PSs X (st::rest) (tSeq t u):=by
 intro pins s σ H D I h
 refine wpAny_execs_cons (thn (h1 pins s σ H { D with nx:=u D } I h) fun f s1 q=>?_)
 cases f with
 | next=>
  obtain⟨σ',H',I',q⟩:=q
  exact h2 pins s1 σ' H' D I' q
 | ret v=>exact q
 | brk=>exact q
 | cont=>exact q
theorem pss_one (h1:PS X st t):PSs X [st] t:=by
 intro pins s σ H D I h
 refine wpAny_execs_cons (thn (h1 pins s σ H D I h) fun f s1 q=>?_)
 cases f with
 | next=>exact wpAny_execs_nil q
 | ret v=>exact q
 | brk=>exact q
 | cont=>exact q
theorem Inv.quiet {pins:List (Addr × Obj)}{σ:St}{H:Hp}{s:Shared}(I:Inv X pins σ H s):interactive X.env=false:=by simp [interactive,I.ok.kind]
def tDrop (te:TE):TS:=fun D σ H=>te σ H fun _ H1=>D.nx σ H1
theorem ps_expr (he:PE X e te) (hs:swapsWith e none pos.line X.env=pure false:=by rfl):PS X (.Expr e pos) (tDrop te):=by
 intro pins s σ H D I h
 exact wpAny_Expr_any (thn (he pins s σ H _ I h) fun v s1 ⟨x,H1,I1,r1,q1⟩=>⟨σ,H1,I1,q1⟩) I.quiet hs
def tRet (te:TE):TS:=fun D σ H=>te σ H D.rt
theorem ps_ret (he:PE X e te):PS X (.Return (some e) pos) (tRet te):=by
 intro pins s σ H D I h
 exact wpAny_Return_some (thn (he pins s σ H _ I h) fun v s1 ⟨x,H1,I1,r1,q1⟩=>⟨x,σ,H1,I1,r1,q1⟩)
def tIfS (c:TT) (t u:TS):TS:=fun D σ H=>c σ H fun b H1=>if b=true then t D σ H1 else u D σ H1
theorem ps_if {c:Expr}{a b:List Stmt}{tc:TT}(hc:PT X c tc) (ha:PSs X a t) (hb:PSs X b u):PS X (.If c a b pos) (tIfS tc t u):=by
 intro pins s σ H D I h
 refine wpAny_If (thn (hc pins s σ H _ I h) fun d s1 ⟨H1,I1,q1⟩=>?_)
 cases d with
 | true=>exact ha pins s1 σ H1 D I1 q1
 | false=>exact hb pins s1 σ H1 D I1 q1
def tNever:TS:=fun _ _ _=>False
theorem pss_never {sts:List Stmt}:PSs X sts tNever:=fun _ _ _ _ _ _ h=>h.elim
end
abbrev TG:=V→St→Hp→(St→Hp→Prop)→Prop
abbrev TGs:=List V→St→Hp→(St→Hp→Prop)→Prop
def PG (X:Cx) (target:Expr) (t:TG):Prop:=
 ∀ (pins:List (Addr × Obj)) (s:Shared) (σ:St) (H:Hp) (v:V) (u:Value) (Q:St→Hp→Prop),Inv X pins σ H s→RelV v u→t v σ H Q→
  wpAny (model X.prog X.w) X.A (assign target X.env u) (fun _ s'=>∃ σ' H',Inv X pins σ' H' s'∧Q σ' H') X.xe s
def PGs (X:Cx) (ts:List Expr) (t:TGs):Prop:=
 ∀ (pins:List (Addr × Obj)) (s:Shared) (σ:St) (H:Hp) (vs:List V) (us:List Value) (Q:St→Hp→Prop),Inv X pins σ H s→Vals vs us→t vs σ H Q→
  wpAny (model X.prog X.w) X.A (assignInOrder ((assignEach ts X.env).map (·.2)) us) (fun _ s'=>∃ σ' H',Inv X pins σ' H' s'∧Q σ' H') X.xe s
abbrev TSet:=V→V→V→Hp→(Hp→Prop)→Prop
def PSet (X:Cx) (t:TSet):Prop:=
 ∀ (pins:List (Addr × Obj)) (s:Shared) (σ:St) (H:Hp) (o i v:V) (ov iv u:Value) (Q:Hp→Prop),Inv X pins σ H s→RelV o ov→RelV i iv→RelV v u→t o i v H Q→
  wpAny (model X.prog X.w) X.A (setItem ov iv u) (fun _ s'=>∃ H',Inv X pins σ H' s'∧Q H') X.xe s
section
variable {X:Cx}{pos:Pos}
def gName (i:Nat):TG:=fun v σ H Q=>Q (σ.set i (some v)) H
theorem pg_name {i:Nat}{x:Str}(hN:X.N.Nodup) (hi:X.N[i]?=some x) (hx:Loc X.env.scope x) (hf:X.fn x=true∨X.env.scope.names.lookup x=some .local:=by first | exact .inl rfl | exact .inr rfl | assumption):PG X (.Name x pos) (gName i):=by
 intro pins s σ H v u Q I r h
 exact wpAny_assign_Name (store_ok I hN hi hx r (fun s' I'=>⟨_,H,I',h⟩) hf)
def gNil:TGs:=fun vs σ H Q=>vs=[]∧Q σ H
def gCons (t:TG) (u:TGs):TGs:=fun vs σ H Q=>∃ v r,vs=v::r∧t v σ H fun σ' H'=>u r σ' H' Q
theorem pgs_nil:PGs X [] gNil:=by
 intro pins s σ H vs us Q I r h
 obtain⟨e,h⟩:=h
 subst e
 cases r
 exact assignInOrder_nil ⟨σ,H,I,h⟩
theorem pgs_cons {e:Expr}{es:List Expr}{t:TG}{u:TGs}(h1:PG X e t) (h2:PGs X es u)
  (hs:(assignEach (e::es) X.env).map (·.2)=assign e X.env::(assignEach es X.env).map (·.2):=by rfl):PGs X (e::es) (gCons t u):=by
 intro pins s σ H vs us Q I r h
 obtain⟨v,vr,e1,h⟩:=h
 subst e1
 cases r with
 | cons r rr=>
  rw [hs]
  refine assignInOrder_cons (thn (h1 pins s σ H _ _ _ I r h) fun _ s1 ⟨σ1,H1,I1,q1⟩=>?_)
  exact h2 pins s1 σ1 H1 _ _ Q I1 rr q1
def gTup (K:PySem.W.Frag) (n:Nat) (t:TGs):TG:=fun v σ H Q=>∃ a xs,v=.ref a∧SqT K H a xs∧xs.length=n∧t xs σ H Q
theorem pg_tup {es:List Expr}{k:Nat}{t:TGs}{n:Nat}(hc:Calm X) (h:PGs X es t)
  (hn:(assignEach es X.env).length=n:=by rfl) (hst:(assignEach es X.env).findIdx? (·.1)=none:=by rfl):PG X (.Tuple es k pos) (gTup X.K n t):=by
 intro pins s σ H v u Q I r hw
 obtain⟨a,xs,e1,hq,hl,hw⟩:=hw
 subst e1
 cases r
 obtain⟨its,rv,ht,hz⟩:=I.tuple hq
 refine z483 (I.calm hc) ht (by simp [hn,← hl,rv.length]) hst fun h' hx=>?_
 have I1:Inv X pins σ H { s with heap:=h' }:=I.kept (t':=s.toks) fun b o e=>hx b o (Nat.ne_of_lt (Heap.lt_size e)) e
 exact h pins _ σ H xs _ Q I1 (by simpa using rv) hw
def gSub (to ti:TE) (t:TSet):TG:=fun v σ H Q=>to σ H fun o H1=>ti σ H1 fun i H2=>t o i v H2 fun H3=>Q σ H3
theorem pg_sub {o i:Expr}{to ti:TE}{t:TSet}(ho:PE X o to) (hi:PE X i ti) (hs:PSet X t)
  (ha:∀ v,assign (.Subscript o i pos) X.env v=(do
   let ov ← holding [v] (eval o X.env)
   let iv ← holding [v,ov] (eval i X.env)
   standAt pos
   holding [v,ov,iv] (setItem ov iv v)
   release [v,ov,iv] []):=by intro _;rfl):PG X (.Subscript o i pos) (gSub to ti t):=by
 intro pins s σ H v u Q I r h
 rw [ha]
 refine wpAny_bind (wpAny_holding (thn (ho pins s σ H _ I h) fun ov s1 ⟨x,H1,I1,r1,q1⟩=>?_))
 refine wpAny_bind (wpAny_holding (thn (hi pins s1 σ H1 _ I1 q1) fun iv s2 ⟨y,H2,I2,r2,q2⟩=>?_))
 refine wpAny_bind (wpAny_standAt (wpAny_bind (wpAny_holding (thn (hs pins s2 σ H2 x y v ov iv u _ I2 r1 r2 r q2) fun _ s3 ⟨H3,I3,q3⟩=>?_))))
 exact wpAny_release ⟨σ,H3,I3,q3⟩
def tAsg (te:TE) (g:TG):TS:=fun D σ H=>te σ H fun x H1=>g x σ H1 D.nx
theorem ps_asg {tg e:Expr}{te:TE}{g:TG}(he:PE X e te) (hg:PG X tg g) (hs:swapsWithSole [tg] e pos.line X.env=pure false:=by rfl) (hw:swappedStores [tg] e X.env=pure none:=by rfl)
  (h1:(assignEach [tg] X.env).map (·.2)=[assign tg X.env]:=by rfl):PS X (.Assign [tg] e pos) (tAsg te g):=by
 intro pins s σ H D I h
 refine wpAny_Assign_stores (thn (he pins s σ H _ I h) fun v s1 ⟨x,H1,I1,r1,q1⟩=>?_) hs hw
 rw [h1]
 exact thn (hg pins s1 σ H1 x v _ I1 r1 q1) fun _ s2 q=>q
theorem ps_set {i:Nat}{x:Str}{e:Expr}{te:TE}{pos':Pos}(hN:X.N.Nodup) (hi:X.N[i]?=some x) (hx:Loc X.env.scope x) (he:PE X e te) (hs:swapsWith e (some (.Name x pos')) pos.line X.env=pure false:=by rfl) (hf:X.fn x=true∨X.env.scope.names.lookup x=some .local:=by first | exact .inl rfl | exact .inr rfl | assumption):
  PS X (.Assign [.Name x pos'] e pos) (tAsg te (gName i)):=by
 intro pins s σ H D I h
 refine wpAny_Assign_Name (thn (he pins s σ H _ I h) fun v s1 ⟨y,H1,I1,r1,q1⟩=>?_) hs
 exact store_ok I1 hN hi hx r1 (fun s2 I2=>⟨_,H1,I2,q1⟩) hf
end
section
variable {X:Cx}{pos:Pos}
def tWhile (c:TT) (tb:TS):TS:=fun D σ H=>∃ W:Nat→St→Hp→Prop,(∃ m,W m σ H)∧∀ m σ H,W m σ H→
 c σ H fun b H1=>if b=true then ∃ N:St→Hp→Prop,(∀ σ' H',N σ' H'→∃ m',m' < m∧W m' σ' H')∧tb { D with nx:=N,ct:=N,bk:=D.nx } σ H1 else D.nx σ H1
theorem ps_while {c:Expr}{body:List Stmt}{tc:TT}{tb:TS}(hp:PassesOwn (model X.prog X.w) X.A X.env X.xe) (hc:PT X c tc) (hb:PSs X body tb):PS X (.While c body [] pos) (tWhile tc tb):=by
 intro pins s σ H D I h
 obtain⟨W,⟨m0,w0⟩,turn⟩:=h
 refine wpAny_While (codeAny_whileLoop (fun n s'=>∃ σ' H',Inv X pins σ' H' s'∧W n σ' H') ?_ m0 ⟨σ,H,I,w0⟩)
 rintro n s1 ⟨σ1,H1,I1,w1⟩
 refine wpAny_passesOwn hp (thn (hc pins s1 σ1 H1 _ I1 (turn n σ1 H1 w1)) fun b s2 ⟨H2,I2,q2⟩=>?_)
 cases b with
 | true=>
  obtain⟨N,hN,q2⟩:=q2
  rw [if_pos rfl]
  refine wpAny_passesOwn hp (thn (hb pins s2 σ1 H2 _ I2 q2) fun f s3 q3=>?_)
  cases f with
  | next=>
   obtain⟨σ3,H3,I3,n3⟩:=q3
   obtain⟨m',hm,w3⟩:=hN σ3 H3 n3
   exact⟨m',hm,σ3,H3,I3,w3⟩
  | cont=>
   obtain⟨σ3,H3,I3,n3⟩:=q3
   obtain⟨m',hm,w3⟩:=hN σ3 H3 n3
   exact⟨m',hm,σ3,H3,I3,w3⟩
  | brk=>exact q3
  | ret v=>exact q3
 | false=>
  rw [if_neg Bool.false_ne_true]
  exact wpAny_execs_nil ⟨σ1,H2,I2,q2⟩
end
structure It where
 go:Nat→Hp→Prop
 yld:Nat→Hp→V→Hp→Prop
 stop:Nat→Hp→Prop
def FpOk (X:Cx) (pins:List (Addr × Obj)) (H:Hp) (b:Addr):Prop:=
 H b=none∧b≠X.env.locals∧b ∉ X.fs∧(b∈X.ex∨X.s₀.heap.objs.size≤b)∧(∀ x c,X.env.cells.lookup x=some c→c≠b)∧∀ p∈X.pn++pins,p.1≠b
theorem Inv.fpOk {X:Cx}{pins:List (Addr × Obj)}{σ:St}{H H':Hp}{s:Shared}{b:Addr}(I:Inv X pins σ H s) (hb:s.heap.objs.size≤b) (hn:H' b=none):FpOk X pins H' b:=by
 refine⟨hn,Nat.ne_of_gt (Nat.lt_of_lt_of_le I.lt hb),I.nofs hb,.inr (Nat.le_trans I.sz hb),fun x c e z=>?_,fun p hp z=>?_⟩
 ·obtain⟨v,q⟩:=I.cell x c e
  exact absurd (Nat.lt_of_lt_of_le q.lt (by rw [z];exact hb)) (Nat.lt_irrefl _)
 ·exact absurd (Nat.lt_of_lt_of_le (Heap.lt_size (I.pin p hp).1) (by rw [z];exact hb)) (Nat.lt_irrefl _)
structure Turn (P:Program) (w:World) (K:PySem.W.Frag) (tg:Expr) (J:It) (fp:List Addr) (it:Addr) (tn:Nat→Heap→Prop):Prop where
 mem:it∈fp
 obj:∀ i h,tn i h→∀ b∈fp,∃ o,h.get? b=some o∧∀ v,o.data≠.cell v
 keep:∀ i h h',tn i h→(∀ b∈fp,∀ o,h.get? b=some o→h'.get? b=some o)→tn i h'
 item:∀ (X:Cx),X.prog=P→X.w=w→X.K=K→Calm X→∀ (i:Nat) (pins:List (Addr × Obj)) (s:Shared) (σ:St) (H:Hp) (E:Value→Shared→Prop),Inv X pins σ H s→(∀ b∈fp,FpOk X pins H b)→tn i s.heap→J.go i H→
  wpAny (model P w) X.A (pyNext (.ref it)) (fun r s1=>∃ u,r=some u∧
   wpAny (model P w) X.A (letOwnedTupleGo tg (.ref it) u) (fun _ s2=>∃ x H',Inv X pins σ H' s2∧RelV x u∧J.yld i H x H'∧tn (i + 1) s2.heap∧∀ b∈fp,H' b=none) E s1) E s
 done:∀ (X:Cx),X.prog=P→X.w=w→X.K=K→Calm X→∀ (i:Nat) (pins:List (Addr × Obj)) (s:Shared) (σ:St) (H:Hp) (E:Value→Shared→Prop),Inv X pins σ H s→(∀ b∈fp,FpOk X pins H b)→tn i s.heap→J.stop i H→
  wpAny (model P w) X.A (pyNext (.ref it)) (fun r s1=>r=none∧Inv X pins σ H s1) E s
 self:∀ (A:Around) (i:Nat) (s:Shared) (Q:Value→Shared→Prop) (E:Value→Shared→Prop),tn i s.heap→Q (.ref it) s→wpAny (model P w) A (pyIter (.ref it)) Q E s
abbrev TI:=St→Hp→(It→Hp→Prop)→Prop
def PIE (X:Cx) (pins:List (Addr × Obj)) (σ:St) (tg:Expr) (R:It→Hp→Prop) (itv:Value) (s2:Shared):Prop:=
 ∃ (it:Addr) (fp:List Addr) (tn:Nat→Heap→Prop) (J:It) (H':Hp),itv=.ref it∧Inv X pins σ H' s2∧Turn X.prog X.w X.K tg J fp it tn∧tn 0 s2.heap∧(∀ b∈fp,FpOk X pins H' b)∧R J H'
def PI (X:Cx) (tg iter:Expr) (wi:TI):Prop:=
 ∀ (pins:List (Addr × Obj)) (s:Shared) (σ:St) (H:Hp) (R:It→Hp→Prop),Inv X pins σ H s→wi σ H R→
  wpAny (model X.prog X.w) X.A (eval iter X.env) (fun v s1=>wpAny (model X.prog X.w) X.A (pyIter v) (PIE X pins σ tg R) X.xe s1) X.xe s
theorem go_of {M:Model}{A:Around}{E:Value→Shared→Prop}{s:Shared}{tg:Expr}{it:Addr}{u:Value}{o:Obj}{n:String}{vs:Array Value}{Q:Unit→Shared→Prop}(ho:s.heap.get? it=some o) (hc:o.cls=.type n) (hd:o.data=.fields vs)
  (hn:["enumerate","zip","dict_itemiterator","dict_reverseitemiterator","odict_iterator","itertools.zip_longest","itertools.pairwise"].contains n=false) (hQ:Q () s):wpAny M A (letOwnedTupleGo tg (.ref it) u) Q E s:=by
 unfold letOwnedTupleGo
 cases tg <;> first
  | exact wpAny_pure hQ
  | (cases u <;> first
    | exact wpAny_pure hQ
    | (
      refine wpAny_bind (wpAny_load ho ?_)
      rw [hc,hd]
      show wpAny M A (if (["enumerate","zip","dict_itemiterator","dict_reverseitemiterator","odict_iterator","itertools.zip_longest","itertools.pairwise"].contains n && vs[0]? == some (rawInt _))=true then _ else _) Q E s
      rw [if_neg (by intro h;rw [hn,Bool.false_and] at h;cases h)]
      exact wpAny_pure hQ))
def Itl (K:PySem.W.Frag) (a:Addr):It:=
 ⟨fun i H=>∃ xs x,SqL K H a xs∧xs[i]?=some x,fun i H x H'=>H'=H∧∀ xs,SqL K H a xs→xs[i]?=some x,fun i H=>∃ xs,SqL K H a xs∧xs.length≤i⟩
def Itr (lo:Int) (n:Nat):It:=⟨fun i _=>i < n,fun i H x H'=>H'=H∧x=.int (lo + i),fun i _=>n≤i⟩
theorem turn_list {P:Program}{w:World}{K:PySem.W.Frag}{tg:Expr}(a it:Addr):Turn P w K tg (Itl K a) [it] it (fun i h=>h.IsListIter it a i) where
 mem:=by simp
 obj:=fun i h st b hb=>by
  have e:b=it:=by simpa using hb
  subst e
  obtain⟨o,e,c,d⟩:=st
  exact⟨o,e,fun v z=>by rw [d] at z;cases z⟩
 keep:=fun i h h' st k=>st.at fun o e=>k it (by simp) o e
 item:=by
  intro X hP hw hK hc i pins s σ H E I hf st hg
  subst hP hw hK
  obtain⟨xs,x,hq,hx⟩:=hg
  obtain⟨its,rv,p,hz⟩:=I.list hq
  obtain⟨u,hu,ru⟩:=rv.get hx
  obtain⟨f0,f1,f2,f3,f4,f5⟩:=hf it (by simp)
  refine wpAny_pyNext_list_item st p.isList (x:=u) (by simpa using hu) fun h' st' sb=>?_
  have I1:Inv X pins σ H { s with heap:=h' }:=I.turned (t':=s.toks) (fun b o hb e=>(sb.2 b hb).trans e) f0 f1 f3 f4 f5
  obtain⟨o,e,c,d⟩:=id st'
  exact⟨u,rfl,go_of (s:={ s with heap:=h' }) e c d (by decide) ⟨x,H,I1,ru,⟨rfl,fun ys hy=>by rw [I.list_inj hy hq];exact hx⟩,st',fun b hb=>(hf b hb).1⟩⟩
 done:=by
  intro X hP hw hK hc i pins s σ H E I hf st hg
  subst hP hw hK
  obtain⟨xs,hq,hx⟩:=hg
  obtain⟨its,rv,p,hz⟩:=I.list hq
  obtain⟨f0,f1,f2,f3,f4,f5⟩:=hf it (by simp)
  have hl:=rv.length
  exact z769 (I.calm hc) st p.isList (by simp;omega) fun h' eb=>⟨rfl,I.turned (t':=s.toks) (fun b o hb e=>eb b o hb e) f0 f1 f3 f4 f5⟩
 self:=fun _ _ _ _ _ st h=>wpAny_pyIter_listiter st h
theorem turn_range {P:Program}{w:World}{K:PySem.W.Frag}{tg:Expr}(it:Addr) (lo:Int) (n:Nat):Turn P w K tg (Itr lo n) [it] it (fun i h=>IsRangeIter h it (lo + (i:Nat) * 1) ((n:Int) - (i:Nat)) 1) where
 mem:=by simp
 obj:=fun i h st b hb=>by
  have e:b=it:=by simpa using hb
  subst e
  exact⟨_,st,fun v z=>by
   have z':Data.fields _=Data.cell v:=z
   cases z'⟩
 keep:=fun i h h' st k=>k it (by simp) _ st
 item:=by
  intro X hP hw hK hc i pins s σ H E I hf st hg
  subst hP hw hK
  obtain⟨f0,f1,f2,f3,f4,f5⟩:=hf it (by simp)
  refine wpAny_pyNext_range_item st (by have:i < n:=hg;omega) fun h' st2 sb=>?_
  have st':IsRangeIter h' it (lo + ((i + 1:Nat):Int) * 1) ((n:Int) - ((i + 1:Nat):Int)) 1:=by
   rw [show lo + ((i + 1:Nat):Int) * 1=lo + (i:Nat) * 1 + 1 by omega,show (n:Int) - ((i + 1:Nat):Int)=n - (i:Nat) - 1 by omega]
   exact st2
  have I1:Inv X pins σ H { s with heap:=h',toks:=s.toks + 1 }:=I.turned (fun b o hb e=>(sb.2 b hb).trans e) f0 f1 f3 f4 f5
  refine⟨_,rfl,go_of (s:={ s with heap:=h',toks:=s.toks + 1 }) (n:="range_iterator") st' rfl rfl (by decide) ⟨.int (lo + i),H,I1,⟨s.toks,?_⟩,⟨rfl,rfl⟩,st',fun b hb=>(hf b hb).1⟩⟩
  rw [Int.mul_one]
 done:=by
  intro X hP hw hK hc i pins s σ H E I hf st hg
  subst hP hw hK
  obtain⟨f0,f1,f2,f3,f4,f5⟩:=hf it (by simp)
  exact z717 (I.calm hc) st (by have:n≤i:=hg;omega) fun h' eb=>⟨rfl,I.turned (t':=s.toks) (fun b o hb e=>eb b o hb e) f0 f1 f3 f4 f5⟩
 self:=fun _ _ _ _ _ st h=>wpAny_pyIter_rangeiter st h
end L2
namespace L2
open PySem PySem.Spec PyProof.Rows
section
variable {X:Cx}{tg:Expr}
def iList (K:PySem.W.Frag) (tl:TE):TI:=fun σ H R=>tl σ H fun x H1=>∃ a,x=.ref a∧(∃ xs,SqL K H1 a xs)∧R (Itl K a) H1
theorem pi_list {l:Expr}{tl:TE}(hl:PE X l tl):PI X tg l (iList X.K tl):=by
 intro pins s σ H R I h
 refine thn (hl pins s σ H _ I h) fun v s1 ⟨x,H1,I1,r1,q1⟩=>?_
 obtain⟨a,e,⟨xs,hq⟩,q⟩:=q1
 subst e
 cases r1
 obtain⟨its,rv,p,hz⟩:=I1.list hq
 refine wpAny_pyIter_list p.isList ?_
 refine⟨s1.heap.objs.size,[s1.heap.objs.size],_,_,H1,rfl,I1.kept (t':=s1.toks) fun b o e=>Heap.get?_push_of_some _ e,turn_list a _,⟨_,Heap.get?_push_size _ rfl,rfl,rfl⟩,fun b hb=>?_,q⟩
 have e:b=s1.heap.objs.size:=by simpa using hb
 subst e
 exact I1.fpOk (Nat.le_refl _) (I1.hok.fresh (Nat.le_refl _))
theorem range_it {pins:List (Addr × Obj)}{σ:St}{H:Hp}{s:Shared}{R:It→Hp→Prop}{E:Value→Shared→Prop}{lo hi:Int}{t u v:Tok}{tk:Nat}(I:Inv X pins σ H s) (h1:-(2 ^ 62)≤lo) (h2:lo < 2 ^ 62) (h3:-(2 ^ 62)≤hi) (h4:hi < 2 ^ 62)
  (q:R (Itr lo (hi - lo).toNat) H):wpAny (model X.prog X.w) X.A (pyIter (.ref s.heap.objs.size)) (PIE X pins σ tg R) E { s with heap:=s.heap.push { cls:=.type "range",data:=.fields #[.int lo t,.int hi u,.int 1 v] },toks:=tk }:=by
 refine wpAny_pyIter_range (IsRange.new ..) (small_one h1 h2 h3 h4) ?_
 have I1:Inv X pins σ H { s with heap:=s.heap.push { cls:=.type "range",data:=.fields #[.int lo t,.int hi u,.int 1 v] },toks:=tk }:=I.kept fun b o e=>Heap.get?_push_of_some _ e
 refine⟨(s.heap.push { cls:=.type "range",data:=.fields #[.int lo t,.int hi u,.int 1 v] }).objs.size,[(s.heap.push { cls:=.type "range",data:=.fields #[.int lo t,.int hi u,.int 1 v] }).objs.size],_,_,H,rfl,
  I1.kept (t':=tk) fun b o e=>Heap.get?_push_of_some _ e,turn_range _ lo (hi - lo).toNat,?_,fun b hb=>?_,q⟩
 ·have e1:lo + ((0:Nat):Int) * 1=lo:=by simp
  have e2:(((hi - lo).toNat:Nat):Int) - ((0:Nat):Int)=Builtin.Range.rangeSize lo hi 1:=by rw [rangeSize_one];split <;> omega
  show IsRangeIter _ _ (lo + ((0:Nat):Int) * 1) ((((hi - lo).toNat:Nat):Int) - ((0:Nat):Int)) 1
  rw [e1,e2]
  exact Heap.get?_push_size _ rfl
 ·have e:b=(s.heap.push { cls:=.type "range",data:=.fields #[.int lo t,.int hi u,.int 1 v] }).objs.size:=by simpa using hb
  subst e
  exact I1.fpOk (Nat.le_refl _) (I1.hok.fresh (Nat.le_refl _))
def iRng1 (ta:TA):TI:=fun σ H R=>ta σ H fun vs H1=>∃ j:Int,vs=[.int j]∧-(2 ^ 62)≤j∧j < 2 ^ 62∧R (Itr 0 j.toNat) H1
theorem pi_range1 {a:Expr}{ta:TA}{p pos:Pos}(hg:Gl X "range") (hm:X.mg "range"=none) (ha:PA X [a] ta) (hs:starEach [a] X.env=[(false,eval a X.env)]:=by rfl):PI X tg (.Call (.Name "range" p) [a] [] pos) (iRng1 ta):=by
 intro pins s σ H R I h
 refine Call_ (ld_blt I hg hm boot_range (PyProof.Rows.callWith_type1 (thn (ha pos pins s σ H _ I h) fun us s1 ⟨vs,H1,I1,r1,q1⟩=>?_) hs rfl))
 obtain⟨j,e,q1,q2,q⟩:=q1
 subst e
 cases r1 with
 | cons r rr=>
  cases rr
  obtain⟨t,rfl⟩:=r
  exact call_range_1 (range_it I1 (by omega) (by omega) q1 q2 (by simpa using q))
def tFor (wi:TI) (g:TG) (tb:TS):TS:=fun D σ H=>wi σ H fun J H1=>∃ W:Nat→Nat→St→Hp→Prop,(∃ m,W 0 m σ H1)∧∀ i m σ H,W i m σ H→
 (J.stop i H∧D.nx σ H)∨(J.go i H∧∃ N:St→Hp→Prop,(∀ σ' H',N σ' H'→∃ m',m' < m∧W (i + 1) m' σ' H')∧∀ x H',J.yld i H x H'→g x σ H' fun σ2 H2=>tb { D with nx:=N,ct:=N,bk:=D.nx } σ2 H2)
def pinsAt (fp:List Addr) (h:Heap):List (Addr × Obj):=fp.filterMap fun b=>(h.get? b).map fun o=>(b,o)
theorem mem_pinsAt {fp:List Addr}{h:Heap}{b:Addr}{o:Obj}(hb:b∈fp) (e:h.get? b=some o):(b,o)∈pinsAt fp h:=List.mem_filterMap.mpr ⟨b,hb,by rw [e];rfl⟩
theorem of_pinsAt {fp:List Addr}{h:Heap}{p:Addr × Obj}(hp:p∈pinsAt fp h):p.1∈fp∧h.get? p.1=some p.2:=by
 obtain⟨b,hb,e⟩:=List.mem_filterMap.mp hp
 cases q:h.get? b with
 | none=>rw [q] at e;cases e
 | some o=>
  rw [q] at e
  have e':(b,o)=p:=Option.some.inj e
  subst e'
  exact⟨hb,q⟩
theorem Inv.pinned {pins:List (Addr × Obj)}{σ:St}{H:Hp}{s:Shared}{fp:List Addr}(I:Inv X pins σ H s) (hf:∀ b∈fp,FpOk X pins H b) (ho:∀ b∈fp,∃ o,s.heap.get? b=some o∧∀ v,o.data≠.cell v):Inv X (pins++pinsAt fp s.heap) σ H s:=
 I.pins_of fun p hp=>(List.mem_append.mp hp).elim (fun z=>I.pin p (List.mem_append_right _ z)) fun z=>by
  obtain⟨hb,e⟩:=of_pinsAt z
  obtain⟨f0,f1,f2,_⟩:=hf p.1 hb
  obtain⟨o,e',d⟩:=ho p.1 hb
  rw [e] at e';cases e'
  exact⟨e,f0,f1,f2,d⟩
theorem Inv.unpinned {pins pl:List (Addr × Obj)}{σ:St}{H:Hp}{s:Shared}(I:Inv X (pins++pl) σ H s):Inv X pins σ H s:=I.pins_of fun p hp=>I.pin p (List.mem_append_right _ (List.mem_append_left _ hp))
theorem ps_for {iter:Expr}{body:List Stmt}{wi:TI}{g:TG}{tb:TS}{pos:Pos}(hp:PassesOwn (model X.prog X.w) X.A X.env X.xe) (hc:Calm X) (hi:PI X tg iter wi) (hg:PG X tg g) (hb:PSs X body tb)
  (hs:∀ x,foldedSetIterable iter X.env x=pure x:=by intro _;rfl):PS X (.For tg iter body [] pos) (tFor wi g tb):=by
 intro pins s σ H D I h
 refine wpAny_For (thn (hi pins s σ H _ I h) fun v s1 h1=>thn h1 fun itv s2 h2=>?_) hs
 obtain⟨it,fp,tn,J,H2,e,I2,T,st2,f2,W,⟨m0,w0⟩,turn⟩:=h2
 subst e
 have stat:∀ {H':Hp},(∀ b∈fp,H' b=none)→∀ b∈fp,FpOk X pins H' b:=fun hn b hb=>⟨hn b hb,(f2 b hb).2⟩
 refine codeAny_forLoop_any (fun n s'=>∃ i σ' H',Inv X pins σ' H' s'∧tn i s'.heap∧(∀ b∈fp,H' b=none)∧W i n σ' H') ?_ m0 ⟨0,σ,H2,I2,st2,fun b hb=>(f2 b hb).1,w0⟩
 rintro n s3 ⟨i,σ3,H3,I3,st3,fr3,w3⟩
 rcases turn i n σ3 H3 w3 with ⟨stop,qn⟩ | ⟨go,N,hN,step⟩
 ·refine wpAny_passesOwn hp (thn (T.done X rfl rfl rfl hc i pins s3 σ3 H3 X.xe I3 (stat fr3) st3 stop) fun r s4 ⟨hr,I4⟩=>?_)
  subst hr
  exact wpAny_execs_nil ⟨σ3,H3,I4,qn⟩
 ·refine wpAny_passesOwn hp (thn (T.item X rfl rfl rfl hc i pins s3 σ3 H3 X.xe I3 (stat fr3) st3 go) fun r s4 ⟨u,hr,h4⟩=>?_)
  subst hr
  refine wpAny_passesOwn hp (thn h4 fun _ s5 ⟨x,H5,I5,r5,y5,st5,fr5⟩=>?_)
  have I5':=I5.pinned (stat fr5) (T.obj _ _ st5)
  refine wpAny_passesOwn hp (thn (hg _ s5 σ3 H5 x u _ I5' r5 (step x H5 y5)) fun _ s6 ⟨σ6,H6,I6,q6⟩=>?_)
  refine wpAny_passesOwn hp (thn (hb _ s6 σ6 H6 _ I6 q6) fun f s7 q7=>?_)
  have again:∀ {σ7:St}{H7:Hp},Inv X (pins++pinsAt fp s5.heap) σ7 H7 s7→N σ7 H7→∃ m,m < n∧∃ i σ' H',Inv X pins σ' H' s7∧tn i s7.heap∧(∀ b∈fp,H' b=none)∧W i m σ' H':=fun{σ7 H7} I7 n7=>by
   obtain⟨m',hm,w7⟩:=hN σ7 H7 n7
   refine⟨m',hm,i + 1,σ7,H7,I7.unpinned,T.keep _ _ _ st5 fun b hb o e=>(I7.pin (b,o) (List.mem_append_right _ (List.mem_append_right _ (mem_pinsAt hb e)))).1,fun b hb=>?_,w7⟩
   obtain⟨o,e,d⟩:=T.obj _ _ st5 b hb
   exact(I7.pin (b,o) (List.mem_append_right _ (List.mem_append_right _ (mem_pinsAt hb e)))).2.1
  cases f with
  | next=>obtain⟨σ7,H7,I7,n7⟩:=q7;exact again I7 n7
  | cont=>obtain⟨σ7,H7,I7,n7⟩:=q7;exact again I7 n7
  | brk=>obtain⟨σ7,H7,I7,q7⟩:=q7;exact⟨σ7,H7,I7.unpinned,q7⟩
  | ret v=>obtain⟨x7,σ7,H7,I7,r7,q7⟩:=q7;exact⟨x7,σ7,H7,I7.unpinned,r7,q7⟩
end
theorem for_list {K:PySem.W.Frag}{a:Addr}{xs:List V}{g:TG}{tb:TS}{D:Ends}{σ:St}{H:Hp}(Pv:Nat→St→Hp→Prop) (h0:Pv 0 σ H) (hl:∀ i σ H,i≤xs.length→Pv i σ H→SqL K H a xs)
  (hs:∀ i x σ H,xs[i]?=some x→Pv i σ H→g x σ H fun σ2 H2=>tb { D with nx:=Pv (i + 1),ct:=Pv (i + 1),bk:=D.nx } σ2 H2) (hd:∀ σ H,Pv xs.length σ H→D.nx σ H):
  ∃ W:Nat→Nat→St→Hp→Prop,(∃ m,W 0 m σ H)∧∀ i m σ H,W i m σ H→
   ((Itl K a).stop i H∧D.nx σ H)∨((Itl K a).go i H∧∃ N:St→Hp→Prop,(∀ σ' H',N σ' H'→∃ m',m' < m∧W (i + 1) m' σ' H')∧∀ x H',(Itl K a).yld i H x H'→g x σ H' fun σ2 H2=>tb { D with nx:=N,ct:=N,bk:=D.nx } σ2 H2):=by
 refine⟨fun i m σ H=>m=xs.length - i∧i≤xs.length∧Pv i σ H,⟨xs.length,by simp,Nat.zero_le _,h0⟩,?_⟩
 rintro i m σ H ⟨rfl,hi,p⟩
 have q:=hl i σ H hi p
 by_cases hlt:i < xs.length
 ·refine .inr ⟨⟨xs,xs[i],q,by simp [hlt]⟩,Pv (i + 1),fun σ' H' p'=>⟨xs.length - (i + 1),by omega,rfl,hlt,p'⟩,fun x H' y=>?_⟩
  obtain⟨e,y⟩:=y
  subst e
  exact hs i x σ _ (y xs q) p
 ·have e:i=xs.length:=by omega
  subst e
  exact .inl ⟨⟨xs,q,Nat.le_refl _⟩,hd σ H p⟩
theorem for_range {lo:Int}{n:Nat}{g:TG}{tb:TS}{D:Ends}{σ:St}{H:Hp}(Pv:Nat→St→Hp→Prop) (h0:Pv 0 σ H)
  (hs:∀ i σ H,i < n→Pv i σ H→g (.int (lo + i)) σ H fun σ2 H2=>tb { D with nx:=Pv (i + 1),ct:=Pv (i + 1),bk:=D.nx } σ2 H2) (hd:∀ σ H,Pv n σ H→D.nx σ H):
  ∃ W:Nat→Nat→St→Hp→Prop,(∃ m,W 0 m σ H)∧∀ i m σ H,W i m σ H→
   ((Itr lo n).stop i H∧D.nx σ H)∨((Itr lo n).go i H∧∃ N:St→Hp→Prop,(∀ σ' H',N σ' H'→∃ m',m' < m∧W (i + 1) m' σ' H')∧∀ x H',(Itr lo n).yld i H x H'→g x σ H' fun σ2 H2=>tb { D with nx:=N,ct:=N,bk:=D.nx } σ2 H2):=by
 refine⟨fun i m σ H=>m=n - i∧i≤n∧Pv i σ H,⟨n,by simp,Nat.zero_le _,h0⟩,?_⟩
 rintro i m σ H ⟨rfl,hi,p⟩
 by_cases hlt:i < n
 ·refine .inr ⟨hlt,Pv (i + 1),fun σ' H' p'=>⟨n - (i + 1),by omega,rfl,hlt,p'⟩,fun x H' y=>?_⟩
  obtain⟨e,y⟩:=y
  subst e y
  exact hs i σ _ hlt p
 ·have e:i=n:=by omega
  subst e
  exact .inl ⟨Nat.le_refl _,hd σ H p⟩
end L2
namespace L2
open PySem PySem.Spec PyProof.Rows
abbrev R2:=V→V→Hp→VK→Prop
def OpR (X:Cx) (f:Value→Value→Sem Value) (r:R2):Prop:=
 ∀ (pins:List (Addr × Obj)) (s:Shared) (σ:St) (H:Hp) (x y:V) (v u:Value) (Q:VK),Inv X pins σ H s→RelV x v→RelV y u→r x y H Q→
  wpAny (model X.prog X.w) X.A (f v u) (EP X pins σ Q) X.xe s
def UnR (X:Cx) (f:Value→Sem Value) (r:V→Hp→VK→Prop):Prop:=
 ∀ (pins:List (Addr × Obj)) (s:Shared) (σ:St) (H:Hp) (x:V) (v:Value) (Q:VK),Inv X pins σ H s→RelV x v→r x H Q→
  wpAny (model X.prog X.w) X.A (f v) (EP X pins σ Q) X.xe s
def CallR (X:Cx) (f:Value) (r:List V→Hp→VK→Prop):Prop:=
 ∀ (pins:List (Addr × Obj)) (s:Shared) (σ:St) (H:Hp) (xs:List V) (us:List Value) (Q:VK),Inv X pins σ H s→Vals xs us→r xs H Q→
  wpAny (model X.prog X.w) X.A (call f us) (EP X pins σ Q) X.xe s
def TruR (X:Cx) (r:V→Hp→(Bool→Hp→Prop)→Prop):Prop:=
 ∀ (pins:List (Addr × Obj)) (s:Shared) (σ:St) (H:Hp) (x:V) (v:Value) (Q:Bool→Hp→Prop),Inv X pins σ H s→RelV x v→r x H Q→
  wpAny (model X.prog X.w) X.A (truthy v) (TP X pins σ Q) X.xe s
def tOp (r:R2) (ta tb:TE):TE:=fun σ H Q=>ta σ H fun x H1=>tb σ H1 fun y H2=>r x y H2 Q
def tUn (r:V→Hp→VK→Prop) (ta:TE):TE:=fun σ H Q=>ta σ H fun x H1=>r x H1 Q
def rI (C:Int→Int→Prop) (g:Int→Int→V):R2:=fun x y H Q=>∃ i j,x=.int i∧y=.int j∧C i j∧Q (g i j) H
def rI0 (g:Int→Int→V):R2:=fun x y H Q=>∃ i j,x=.int i∧y=.int j∧Q (g i j) H
def rU (g:Int→V):V→Hp→VK→Prop:=fun x H Q=>∃ i,x=.int i∧Q (g i) H
section
variable {X:Cx}{a b c:Expr}{ta tb tc:TE}{pos:Pos}
theorem binT (ha:PE X a ta) (hb:PE X b tb){pins:List (Addr × Obj)}{s:Shared}{σ:St}{H:Hp}{R:V→V→Hp→Prop}(I:Inv X pins σ H s)
  (h:ta σ H fun x H1=>tb σ H1 fun y H2=>R x y H2){Q:Value→Shared→Prop}{f:Value→Value→Sem Value}
  (hf:∀ v u s2 x y H2,Inv X pins σ H2 s2→RelV x v→RelV y u→R x y H2→wpAny (model X.prog X.w) X.A (f v u) Q X.xe s2):
  wpAny (model X.prog X.w) X.A (eval a X.env) (fun v s₁=>wpAny (model X.prog X.w) X.A (eval b X.env) (fun u s₂=>wpAny (model X.prog X.w) X.A (f v u) Q X.xe s₂) X.xe s₁) X.xe s:=by
 refine thn (ha pins s σ H _ I h) fun v s1 ⟨x,H1,I1,r1,q1⟩=>?_
 refine thn (hb pins s1 σ H1 _ I1 q1) fun u s2 ⟨y,H2,I2,r2,q2⟩=>?_
 exact hf v u s2 x y H2 I2 r1 r2 q2
theorem pe_op {op:Operator}{r:R2}(ho:OpR X (binaryOp op) r) (ha:PE X a ta) (hb:PE X b tb):PE X (.BinOp a op b pos) (tOp r ta tb):=by
 intro pins s σ H Q I h
 exact wpAny_BinOp (binT ha hb I h fun v u s2 x y H2 I2 rx ry q=>ho pins s2 σ H2 x y v u Q I2 rx ry q)
theorem pe_un {op:UnaryOp}{r:V→Hp→VK→Prop}(ho:UnR X (unaryOp op) r) (ha:PE X a ta):PE X (.UnaryOp op a pos) (tUn r ta):=by
 intro pins s σ H Q I h
 exact UnaryOp_ (thn (ha pins s σ H _ I h) fun v s1 ⟨x,H1,I1,r1,q1⟩=>ho pins s1 σ H1 x v Q I1 r1 q1)
theorem opI {f:Value→Value→Sem Value}{C:Int→Int→Prop}{g:Int→Int→Int}
  (rule:∀ (i j:Int) (t u:Tok) (s:Shared) (Q:Value→Shared→Prop) (E:Value→Shared→Prop),C i j→Q (.int (g i j) s.toks) { s with toks:=s.toks + 1 }→wpAny (model X.prog X.w) X.A (f (.int i t) (.int j u)) Q E s):
  OpR X f (rI C fun i j=>.int (g i j)):=by
 intro pins s σ H x y v u Q I rx ry h
 obtain⟨i,j,rfl,rfl,hc,q⟩:=h
 obtain⟨t,rfl⟩:=rx
 obtain⟨t',rfl⟩:=ry
 exact rule i j t t' s _ _ hc ⟨.int (g i j),H,I.tok _,⟨_,rfl⟩,q⟩
theorem opI0 {f:Value→Value→Sem Value}{g:Int→Int→Int}
  (rule:∀ (i j:Int) (t u:Tok) (s:Shared) (Q:Value→Shared→Prop) (E:Value→Shared→Prop),Q (.int (g i j) s.toks) { s with toks:=s.toks + 1 }→wpAny (model X.prog X.w) X.A (f (.int i t) (.int j u)) Q E s):
  OpR X f (rI0 fun i j=>.int (g i j)):=by
 intro pins s σ H x y v u Q I rx ry h
 obtain⟨i,j,rfl,rfl,q⟩:=h
 obtain⟨t,rfl⟩:=rx
 obtain⟨t',rfl⟩:=ry
 exact rule i j t t' s _ _ ⟨.int (g i j),H,I.tok _,⟨_,rfl⟩,q⟩
theorem opB0 {f:Value→Value→Sem Value}{g:Int→Int→Bool}
  (rule:∀ (i j:Int) (t u:Tok) (s:Shared) (Q:Value→Shared→Prop) (E:Value→Shared→Prop),Q (.bool (g i j)) s→wpAny (model X.prog X.w) X.A (f (.int i t) (.int j u)) Q E s):
  OpR X f (rI0 fun i j=>.bl (g i j)):=by
 intro pins s σ H x y v u Q I rx ry h
 obtain⟨i,j,rfl,rfl,q⟩:=h
 obtain⟨t,rfl⟩:=rx
 obtain⟨t',rfl⟩:=ry
 exact rule i j t t' s _ _ ⟨.bl (g i j),H,I,rfl,q⟩
def CDiv (i j:Int):Prop:=0 < j∧j < 1073741824
def CMul (i j:Int):Prop:=(-(2 ^ 64) < i∧i < 2 ^ 64)∨(-(2 ^ 64) < j∧j < 2 ^ 64)
theorem CMul.ok {i j:Int}(h:CMul i j):IntMulOk i j:=by
 rcases h with ⟨h1,h2⟩ | ⟨h1,h2⟩
 ·exact .of_left (intBits_le_64 h1 h2)
 ·exact .of_right (intBits_le_64 h1 h2)
theorem op_add:OpR X (binaryOp .Add) (rI0 fun i j=>.int (i + j)):=opI0 fun _ _ _ _ _ _ _ q=>add_int q
theorem op_sub:OpR X (binaryOp .Sub) (rI0 fun i j=>.int (i - j)):=opI0 fun _ _ _ _ _ _ _ q=>sub_int q
theorem op_mul:OpR X (binaryOp .Mult) (rI CMul fun i j=>.int (i * j)):=opI fun _ _ _ _ _ _ _ hc q=>mul_int q hc.ok
theorem op_fdiv:OpR X (binaryOp .FloorDiv) (rI CDiv fun i j=>.int (i / j)):=opI fun i j _ _ _ _ _ hc q=>by
 have h1:(0:Int) < j:=hc.1
 have h2:j < 1073741824:=hc.2
 exact floordiv_int (by omega) (by rw [Int.fdiv_eq_ediv_of_nonneg i (by omega)];exact q) (.inl (PyProof.noPylong_small (by omega)))
theorem op_mod:OpR X (binaryOp .Mod) (rI (fun _ j=>0 < j) fun i j=>.int (i % j)):=opI fun i j _ _ _ _ _ hc q=>by
 have h1:(0:Int) < j:=hc
 exact mod_int' (by omega) (by rw [Int.fmod_eq_emod_of_nonneg i (by omega)];exact q)
theorem unI {f:Value→Sem Value}{g:Int→Int}
  (rule:∀ (i:Int) (t:Tok) (s:Shared) (Q:Value→Shared→Prop) (E:Value→Shared→Prop),Q (.int (g i) s.toks) { s with toks:=s.toks + 1 }→wpAny (model X.prog X.w) X.A (f (.int i t)) Q E s):
  UnR X f (rU fun i=>.int (g i)):=by
 intro pins s σ H x v Q I rx h
 obtain⟨i,rfl,q⟩:=h
 obtain⟨t,rfl⟩:=rx
 exact rule i t s _ _ ⟨.int (g i),H,I.tok _,⟨_,rfl⟩,q⟩
theorem un_neg:UnR X (unaryOp .USub) (rU fun i=>.int (-i)):=unI fun _ _ _ _ _ q=>neg_int q
end
def scal:V→V→Bool
 | .non,.non=>true | .non,.int _=>true | .int _,.non=>true | .non,.bl _=>true | .bl _,.non=>true | .non,.str _=>true | .str _,.non=>true
 | .int _,.int _=>true | .bl _,.bl _=>true | .str _,.str _=>true | .byt _,.byt _=>true
 | .int _,.str _=>true | .str _,.int _=>true | .bl _,.str _=>true | .str _,.bl _=>true
 | _,_=>false
def rEq:R2:=fun x y H Q=>scal x y=true∧Q (.bl (decide (x=y))) H
def rNe:R2:=fun x y H Q=>scal x y=true∧Q (.bl (!decide (x=y))) H
theorem dec_int {i j:Int}:decide (V.int i=V.int j)=(i == j):=by
 rw [Bool.eq_iff_iff]
 simp
theorem dec_bl {i j:Bool}:decide (V.bl i=V.bl j)=(i == j):=by
 rw [Bool.eq_iff_iff]
 simp
theorem dec_str {i j:Str}:decide (V.str i=V.str j)=(i == j):=by
 rw [Bool.eq_iff_iff]
 simp
theorem dec_byt {i j:Array UInt8}:decide (V.byt i=V.byt j)=(i.toList == j.toList):=by
 rw [Bool.eq_iff_iff]
 cases i
 cases j
 simp
section
variable {X:Cx}{a b c:Expr}{ta tb tc:TE}{pos:Pos}
theorem fin_bl {pins:List (Addr × Obj)}{σ:St}{H:Hp}{s:Shared}{Q:VK}{k k':Bool}(I:Inv X pins σ H s) (q:Q (.bl k) H) (e:k=k'):EP X pins σ Q (.bool k') s:=by
 subst e
 exact⟨.bl k,H,I,rfl,q⟩
theorem op_eq:OpR X (compareOp .Eq) rEq:=by
 intro pins s σ H x y v u Q I rx ry h
 obtain⟨hs,q⟩:=h
 cases x with
 | non=>
  cases rx
  cases y with
  | non=>cases ry;exact PySem.EqNone.eq_none_none (fin_bl I q (by simp))
  | bl j=>cases ry;exact PySem.EqNone.eq_none_bool (fin_bl I q (by simp))
  | int j=>obtain⟨t',rfl⟩:=ry;exact PySem.EqNone.eq_none_int (fin_bl I q (by simp))
  | str j=>obtain⟨t',rfl⟩:=ry;exact PySem.EqNone.eq_none_str (fin_bl I q (by simp))
  | _=>exact absurd (show false=true from hs) Bool.false_ne_true
 | bl i=>
  cases rx
  cases y with
  | non=>cases ry;exact PySem.EqNone.eq_bool_none (fin_bl I q (by simp))
  | bl j=>cases ry;exact eq_bool (fin_bl I q dec_bl)
  | str j=>obtain⟨t',rfl⟩:=ry;exact PySem.EqMixed.eq_bool_str (fin_bl I q (by simp))
  | _=>exact absurd (show false=true from hs) Bool.false_ne_true
 | int i=>
  obtain⟨t,rfl⟩:=rx
  cases y with
  | non=>cases ry;exact PySem.EqNone.eq_int_none (fin_bl I q (by simp))
  | int j=>obtain⟨t',rfl⟩:=ry;exact eq_int (fin_bl I q dec_int)
  | str j=>obtain⟨t',rfl⟩:=ry;exact PySem.EqMixed.eq_int_str (fin_bl I q (by simp))
  | _=>exact absurd (show false=true from hs) Bool.false_ne_true
 | str i=>
  obtain⟨t,rfl⟩:=rx
  cases y with
  | non=>cases ry;exact PySem.EqNone.eq_str_none (fin_bl I q (by simp))
  | bl j=>cases ry;exact PySem.EqMixed.eq_str_bool (fin_bl I q (by simp))
  | int j=>obtain⟨t',rfl⟩:=ry;exact PySem.EqMixed.eq_str_int (fin_bl I q (by simp))
  | str j=>obtain⟨t',rfl⟩:=ry;exact eq_str (fin_bl I q dec_str)
  | _=>exact absurd (show false=true from hs) Bool.false_ne_true
 | byt i=>
  obtain⟨t,rfl⟩:=rx
  cases y with
  | byt j=>obtain⟨t',rfl⟩:=ry;exact PySem.W.eq_bytes (fin_bl I q dec_byt)
  | _=>exact absurd (show false=true from hs) Bool.false_ne_true
 | _=>cases y <;> exact absurd (show false=true from hs) Bool.false_ne_true
theorem op_ne:OpR X (compareOp .NotEq) rNe:=by
 intro pins s σ H x y v u Q I rx ry h
 obtain⟨hs,q⟩:=h
 cases x with
 | non=>
  cases rx
  cases y with
  | non=>cases ry;exact PySem.EqNone.ne_none_none (fin_bl I q (by simp))
  | bl j=>cases ry;exact PySem.EqNone.ne_none_bool (fin_bl I q (by simp))
  | int j=>obtain⟨t',rfl⟩:=ry;exact PySem.EqNone.ne_none_int (fin_bl I q (by simp))
  | str j=>obtain⟨t',rfl⟩:=ry;exact PySem.EqNone.ne_none_str (fin_bl I q (by simp))
  | _=>exact absurd (show false=true from hs) Bool.false_ne_true
 | bl i=>
  cases rx
  cases y with
  | non=>cases ry;exact PySem.EqNone.ne_bool_none (fin_bl I q (by simp))
  | bl j=>cases ry;exact ne_bool (fin_bl I q (congrArg not dec_bl))
  | str j=>obtain⟨t',rfl⟩:=ry;exact PySem.EqMixed.ne_bool_str (fin_bl I q (by simp))
  | _=>exact absurd (show false=true from hs) Bool.false_ne_true
 | int i=>
  obtain⟨t,rfl⟩:=rx
  cases y with
  | non=>cases ry;exact PySem.EqNone.ne_int_none (fin_bl I q (by simp))
  | int j=>obtain⟨t',rfl⟩:=ry;exact ne_int (fin_bl I q (congrArg not dec_int))
  | str j=>obtain⟨t',rfl⟩:=ry;exact PySem.EqMixed.ne_int_str (fin_bl I q (by simp))
  | _=>exact absurd (show false=true from hs) Bool.false_ne_true
 | str i=>
  obtain⟨t,rfl⟩:=rx
  cases y with
  | non=>cases ry;exact PySem.EqNone.ne_str_none (fin_bl I q (by simp))
  | bl j=>cases ry;exact PySem.EqMixed.ne_str_bool (fin_bl I q (by simp))
  | int j=>obtain⟨t',rfl⟩:=ry;exact PySem.EqMixed.ne_str_int (fin_bl I q (by simp))
  | str j=>obtain⟨t',rfl⟩:=ry;exact ne_str (fin_bl I q (congrArg not dec_str))
  | _=>exact absurd (show false=true from hs) Bool.false_ne_true
 | byt i=>
  obtain⟨t,rfl⟩:=rx
  cases y with
  | byt j=>obtain⟨t',rfl⟩:=ry;exact PySem.W.ne_bytes (fin_bl I q (congrArg not dec_byt))
  | _=>exact absurd (show false=true from hs) Bool.false_ne_true
 | _=>cases y <;> exact absurd (show false=true from hs) Bool.false_ne_true
theorem op_lt:OpR X (compareOp .Lt) (rI0 fun i j=>.bl (decide (i < j))):=opB0 fun _ _ _ _ _ _ _ q=>lt_int q
theorem op_le:OpR X (compareOp .LtE) (rI0 fun i j=>.bl (decide (i≤j))):=opB0 fun _ _ _ _ _ _ _ q=>le_int q
theorem op_gt:OpR X (compareOp .Gt) (rI0 fun i j=>.bl (decide (j < i))):=opB0 fun _ _ _ _ _ _ _ q=>gt_int q
theorem op_ge:OpR X (compareOp .GtE) (rI0 fun i j=>.bl (decide (j≤i))):=opB0 fun _ _ _ _ _ _ _ q=>ge_int q
theorem op_in_str:OpR X (compareOp .In) (fun x y H Q=>∃ i j,x=.str i∧y=.str j∧Q (.bl (!(Builtin.Str.occurrences j i 0 j.length 1).isEmpty)) H):=by
 intro pins s σ H x y v u Q I rx ry h
 obtain⟨i,j,rfl,rfl,q⟩:=h
 obtain⟨t,rfl⟩:=rx
 obtain⟨t',rfl⟩:=ry
 exact in_str (fin_bl I q rfl)
theorem op_isN:OpR X (compareOp .Is) (fun x y H Q=>y=.non∧Q (.bl (decide (x=.non))) H):=by
 intro pins s σ H x y v u Q I rx ry h
 obtain⟨rfl,q⟩:=h
 cases ry
 refine is_none_gen (fin_bl I q ?_)
 cases x <;> first
  | (cases rx;rfl)
  | (obtain⟨t,rfl⟩:=rx;rfl)
theorem op_notN:OpR X (compareOp .IsNot) (fun x y H Q=>y=.non∧Q (.bl (!decide (x=.non))) H):=by
 intro pins s σ H x y v u Q I rx ry h
 obtain⟨rfl,q⟩:=h
 cases ry
 refine isnot_none_gen (fin_bl I q ?_)
 cases x <;> first
  | (cases rx;rfl)
  | (obtain⟨t,rfl⟩:=rx;rfl)
theorem nomark (b:Expr){op:CmpOp}(h:op≠.In:=by decide) (h2:op≠.NotIn:=by decide):behindInMarks op b=false:=by
 have e1:(op == CmpOp.In)=false:=by cases op <;> first | rfl | exact absurd rfl h
 have e2:(op == CmpOp.NotIn)=false:=by cases op <;> first | rfl | exact absurd rfl h2
 cases b <;> simp [behindInMarks,e1,e2]
theorem pe_cmpR {op:CmpOp}{r:R2}(ho:OpR X (compareOp op) r) (ha:PE X a ta) (hb:PE X b tb) (hm:behindInMarks op b=false):PE X (.Compare a [op] [b] pos) (tOp r ta tb):=by
 intro pins s σ H Q I h
 exact wpAny_Compare1 (binT ha hb I h fun v u s2 x y H2 I2 rx ry q=>ho pins s2 σ H2 x y v u Q I2 rx ry q) hm
def tTest (t:TE):TT:=fun σ H Q=>t σ H fun x H'=>∃ k,x=.bl k∧Q k H'
theorem pt_cmpR {op:CmpOp}{r:R2}(ho:OpR X (compareOp op) r) (ha:PE X a ta) (hb:PE X b tb) (hm:behindInMarks op b=false):PT X (.Compare a [op] [b] pos) (tTest (tOp r ta tb)):=by
 intro pins s σ H Q I h
 refine wpAny_isTrue_Compare1 (thn (ha pins s σ H _ I h) fun v s1 ⟨x,H1,I1,r1,q1⟩=>thn (hb pins s1 σ H1 _ I1 q1) fun u s2 ⟨y,H2,I2,r2,q2⟩=>
  thn (ho pins s2 σ H2 x y v u _ I2 r1 r2 q2) fun c s3 ⟨z,H3,I3,r3,k,e,q3⟩=>?_) hm
 subst e
 cases r3
 exact wpAny_truthy_bool ⟨H3,I3,q3⟩
def tChain (r r':R2) (ta tb tc:TE):TE:=fun σ H Q=>ta σ H fun x H1=>tb σ H1 fun y H2=>r x y H2 fun z H3=>∃ k,z=.bl k∧
 (if k=true then tc σ H3 fun w' H4=>r' y w' H4 Q else Q (.bl false) H3)
theorem pe_chain {op op':CmpOp}{r r':R2}(ho:OpR X (compareOp op) r) (ho':OpR X (compareOp op') r') (ha:PE X a ta) (hb:PE X b tb) (hc:PE X c tc)
  (hm:lastMarks [op,op'] [b,c]=false:=by with_unfolding_all rfl):PE X (.Compare a [op,op'] [b,c] pos) (tChain r r' ta tb tc):=by
 intro pins s σ H Q I h
 refine Compare_chain (thn (ha pins s σ H _ I h) fun v s1 ⟨x,H1,I1,r1,q1⟩=>chain_link (thn (hb pins s1 σ H1 _ I1 q1) fun u s2 ⟨y,H2,I2,r2,q2⟩=>
  thn (ho pins s2 σ H2 x y v u _ I2 r1 r2 q2) fun d s3 ⟨z,H3,I3,r3,k,e,q3⟩=>?_)) hm
 subst e
 cases r3
 refine wpAny_truthy_bool ?_
 cases k with
 | false=>exact ite_ff ⟨.bl false,H3,I3,rfl,q3⟩
 | true=>exact ite_tt (chain_last (thn (hc pins s3 σ H3 _ I3 q3) fun w' s4 ⟨z',H4,I4,r4,q4⟩=>ho' pins s4 σ H4 y z' u w' Q I4 r2 r4 q4))
def TruV (K:PySem.W.Frag) (x:V) (H:Hp) (k:Bool):Prop:=
 match x with
 | .non=>k=false
 | .bl b=>k=b
 | .int i=>k=(i != 0)
 | .str y=>y.length≤sizeLine∧k=((y.length:Int) != 0)
 | .byt y=>y.size≤sizeLine∧k=((y.size:Int) != 0)
 | .ref p=>(∃ xs,SqL K H p xs∧k=!xs.isEmpty)∨(∃ xs,SqT K H p xs∧k=!xs.isEmpty)∨∃ kvs,H p=some (.dK kvs)∧k=!kvs.isEmpty
 | _=>False
theorem isEmpty_kv {κ:Type}{kvs:List (κ × V)}{vs:List (κ × Value)} (r:KV kvs vs):(!vs.isEmpty)=!kvs.isEmpty:=by
 cases r <;> rfl
theorem isEmpty_of {xs:List V}{its:List Value}(r:Vals xs its):(!its.toArray.isEmpty)=!xs.isEmpty:=by
 cases r <;> simp
theorem line63:(sizeLine:Nat) < 2 ^ 63:=by rw [sizeLine_eq];decide
theorem tru_ok:TruR X (fun x H Q=>∃ k,TruV X.K x H k∧Q k H):=by
 intro pins s σ H x v Q I rx h
 obtain⟨k,e,q⟩:=h
 have hl:=line63
 have hs:sizeLine=16777216:=sizeLine_eq
 cases x with
 | non=>
  cases rx
  have e':k=false:=e
  subst e'
  exact truthy_none ⟨H,I,q⟩
 | bl b=>
  cases rx
  have e':k=b:=e
  subst e'
  exact wpAny_truthy_bool ⟨H,I,q⟩
 | int i=>
  obtain⟨t,rfl⟩:=rx
  have e':k=(i != 0):=e
  subst e'
  exact PySem.P.truthy_int ⟨H,I,q⟩
 | str y=>
  obtain⟨t,rfl⟩:=rx
  obtain⟨hy,e'⟩:y.length≤sizeLine∧k=((y.length:Int) != 0):=e
  subst e'
  exact PySem.P.truthy_str (by omega) ⟨H,I.tok _,q⟩
 | byt y=>
  obtain⟨t,rfl⟩:=rx
  obtain⟨hy,e'⟩:y.size≤sizeLine∧k=((y.size:Int) != 0):=e
  subst e'
  exact PySem.W.truthy_bytes (by omega) ⟨H,I.tok _,q⟩
 | ref p=>
  cases rx
  have e':(∃ xs,SqL X.K H p xs∧k=!xs.isEmpty)∨(∃ xs,SqT X.K H p xs∧k=!xs.isEmpty)∨∃ kvs,H p=some (.dK kvs)∧k=!kvs.isEmpty:=e
  rcases e' with ⟨xs,hx,e'⟩ | ⟨xs,hx,e'⟩ | ⟨kvs,hx,e'⟩
  ·subst e'
   obtain⟨its,r,pl,hz⟩:=I.list hx
   have hlen:=r.length
   exact wpAny_truthy_list pl.isList (by simp only [List.size_toArray];omega) ⟨H,I.tok _,by rw [isEmpty_of r];exact q⟩
  ·subst e'
   obtain⟨its,r,pl,hz⟩:=I.tuple hx
   have hlen:=r.length
   exact truthy_tuple pl (by simp only [List.size_toArray];omega) ⟨H,I.tok _,by rw [isEmpty_of r];exact q⟩
  ·subst e'
   obtain⟨hz,hS,vs,r,m⟩:kvs.length≤sizeLine∧(p == sysModules)=false∧∃ vs,KV kvs vs∧s.heap.DictOf (mixKind X.prog X.w) p vs:=I.hok p _ hx
   have hlen:kvs.length=vs.length:=Paired.length r
   exact wpAny_truthy_dict hS m (by omega) ⟨H,I.tok _,by rw [isEmpty_kv r];exact q⟩
 | _=>exact(show False from e).elim
theorem pt_truth (ha:PE X a ta) (he:∀ whole,isTrue a X.env whole=(do let v ← whole;standAt a.pos;holding [v] (truthy v))):
  PT X a (fun σ H Q=>ta σ H fun x H'=>∃ k,TruV X.K x H' k∧Q k H'):=by
 intro pins s σ H Q I h
 exact isTrue_plain (thn (ha pins s σ H _ I h) fun v s1 ⟨x,H1,I1,r1,q1⟩=>tru_ok pins s1 σ H1 x v Q I1 r1 q1) (he _)
theorem op_add_str:OpR X (binaryOp .Add) (fun x y H Q=>∃ i j,x=.str i∧y=.str j∧i.length + j.length≤sizeLine∧Q (.str (i++j)) H):=by
 intro pins s σ H x y v u Q I rx ry h
 obtain⟨i,j,rfl,rfl,hz,q⟩:=h
 obtain⟨t,rfl⟩:=rx
 obtain⟨t',rfl⟩:=ry
 exact add_str (fun t' tk=>⟨.str (i++j),H,I.tok _,⟨_,rfl⟩,q⟩) hz
theorem vals1 {x:V}{us:List Value}(r:Vals [x] us):∃ u,us=[u]∧RelV x u:=by
 cases r with
 | cons r1 r2=>cases r2;exact⟨_,rfl,r1⟩
theorem vals2 {x y:V}{us:List Value}(r:Vals [x,y] us):∃ u w',us=[u,w']∧RelV x u∧RelV y w':=by
 cases r with
 | cons r1 r2=>
  cases r2 with
  | cons r3 r4=>cases r4;exact⟨_,_,rfl,r1,r3⟩
theorem call_min2 (hc:X.calm=true):CallR X (.builtin "min") (fun xs H Q=>∃ i j,xs=[.int i,.int j]∧Q (.int (if j < i then j else i)) H):=by
 intro pins s σ H xs us Q I r h
 obtain⟨i,j,rfl,q⟩:=h
 obtain⟨u,w',rfl,⟨t,rfl⟩,⟨t',rfl⟩⟩:=vals2 r
 refine min_two_ints (I.ok.hd hc) fun h' tk k=>⟨_,H,I.kept k,?_,q⟩
 by_cases hj:j < i
 ·rw [if_pos hj,if_pos hj];exact⟨_,rfl⟩
 ·rw [if_neg hj,if_neg hj];exact⟨_,rfl⟩
end
end L2
namespace L2
open PySem PySem.Spec PyProof.Rows
structure ObjM (h:Heap) (x dx C:Addr) (mA:Str→Option Value):Prop where
 obj:h.get? x=some (PySem.W.instObj C dx)
 ns:h.Ns1 dx mA
 ne:dx≠x
theorem lookIn_ns {h:Heap}{dx:Addr}{mA:Str→Option Value}(n:h.Ns1 dx mA):∃ od,h.get? dx=some od∧∀ name,PySem.W.lookIn name od=some (mA name):=by
 obtain⟨o,es,ep,ho,hd,hk,_,hm⟩:=n
 refine⟨o,ho,fun name=>?_⟩
 have e:=hm name
 unfold nsFind findBy at e
 rw [← Array.find?_toList] at e
 unfold PySem.W.lookIn
 rw [hd]
 dsimp only
 split
 ·rename_i y q
  rw [q] at e
  exact congrArg some e
 ·rename_i q
  rw [q] at e
  have a:es.toList.any (·.refKey)=false:=by
   rw [List.any_eq_false]
   intro y hy
   obtain⟨z,t,hkey⟩:=hk y (Array.mem_toList_iff.mp hy)
   simp [DictEntry.refKey,hkey]
  have a':¬ es.toList.any (·.refKey)=true:=by rw [a];exact Bool.false_ne_true
  rw [if_neg a']
  exact congrArg some e
theorem ObjM.look {h:Heap}{x dx C:Addr}{mA:Str→Option Value}(I:ObjM h x dx C mA):∃ od,PySem.W.InstAt h x (PySem.W.instObj C dx) C (some od)∧∀ name,PySem.W.lookIn name od=some (mA name):=
 let ⟨od,ho,hl⟩:=lookIn_ns I.ns
 ⟨od,⟨I.obj,rfl,rfl,ho⟩,hl⟩
section
variable {prog:Program}{w:World}{A:Around}{E:Value→Shared→Prop}{s:Shared}{K:PySem.W.Frag}{x dx C f:Addr}{mA:Str→Option Value}{name:Str}{v:Value}
theorem get_map {expr:Bool}{Q:Value→Shared→Prop}(X:K.In s.heap) (I:ObjM s.heap x dx C mA) (hg:PySem.W.plainGet K C name=true) (hh:PySem.W.hasDictIn K C=true)
  (ha:PySem.W.findIn K (.ref C) name=some none) (hv:mA name=some v) (hv':PySem.W.handedIn v=true) (h:Q v { s with toks:=s.toks + 1 }):
  wpAny (model prog w) A (getAttr (.ref x) name expr) Q E s:=by
 obtain⟨od,J,hl⟩:=I.look
 exact PySem.W.get_value X J (PySem.W.plainGet_of hg).1 (PySem.W.findObj_own hh ha rfl (by rw [hl,hv])) hv' h
theorem get_meth {pl:Sem Bool}{Q:Value × List Value→Shared→Prop}(X:K.In s.heap) (I:ObjM s.heap x dx C mA) (hg:PySem.W.plainGet K C name=true)
  (hf:PySem.W.findIn K (.ref C) name=some (some (.ref f))) (ht:PySem.W.isFn K (.ref f)=true) (hv:mA name=none) (h:Q (.ref f,[.ref x]) s):
  wpAny (model prog w) A (getMethod (.ref x) name pl) Q E s:=by
 obtain⟨od,J,hl⟩:=I.look
 exact PySem.W.method_fn X J (PySem.W.plainGet_of hg).1 (PySem.W.plainGet_of hg).2 hf (beq_iff_eq.mp ht) (by show (PySem.W.lookIn name od).map (·.isSome)=some false;rw [hl,hv];rfl) h
theorem set_map {ns:List Str}{Q:Unit→Shared→Prop}(X:K.In s.heap) (I:ObjM s.heap x dx C mA)
  (hs:PySem.W.findIn K (.ref C) "__setattr__"=some (some (.builtin "object.__setattr__"))) (hp:PySem.W.plainOver K C=true) (ht:PySem.W.takerIn K C name=some none) (hh:PySem.W.hasDictIn K C=true)
  (hw:PySem.Within mA ns) (hsz:ns.length≤sizeLine)
  (h:∀ h',ObjM h' x dx C (fun y=>if y=name then some v else mA y)→Heap.SameBut dx s.heap h'→Q () { s with heap:=h',toks:=s.toks + 2 }):
  wpAny (model prog w) A (setAttr (.ref x) name v) Q E s:=by
 obtain⟨od,J,hl⟩:=I.look
 refine PySem.W.set_plain X J hs (PySem.W.osa_open (s:={ s with toks:=s.toks + 1 }) (r:=none) X J hp ht fun b=>?_)
 obtain⟨cd,hc,hd'⟩:=PySem.W.any_some hh
 have hx:s.heap.get? x=some ⟨.ref C,some dx,.plain,#[]⟩:=I.obj
 refine wpAny_bind (wpAny_pure (wpAny_bind (wpAny_bind (wpAny_loadPart hx (wpAny_bind (PySem.W.Looks.here (s:={ s with toks:=s.toks + 1 }) (PySem.W.looks_clsIn X hc) ?_))))))
 rw [hd']
 refine wpAny_pure (a:=some dx) (wpAny_bind (wpAny_pure (wpAny_bind ?_)))
 refine wpAny_nsSet1 (s:={ s with toks:=s.toks + 1 }) I.ns fun h' hn2 hs2=>?_
 obtain⟨oD,esD,epD,hoD,hdD,hcD⟩:=hn2.count (PySem.Within.cons name v hw)
 refine wpAny_bind (wpAny_lookBehind hoD (by rw [hdD];exact pastItsLine_dict (Nat.le_trans hcD (by rw [List.length_cons];omega))) ?_)
 exact wpAny_pure (h _ ⟨(hs2.2 _ (Ne.symm I.ne)).trans I.obj,hn2,I.ne⟩ hs2)
theorem make_map {R:Result→Shared→Prop}{vs:List Value}{kw:List (Str × Value)} (X:K.In s.heap) (hm:PySem.W.makesIn K C=true)
  (hi:PySem.W.findIn K (.ref C) "__init__"=some (some (.ref f))) (hf:PySem.W.typeIn K (.ref f)=some (.type "function"))
  (h:codeAny (model prog w) (A.under (.builtin "type.__call__" ⟨.ref C::vs,kw⟩)) (.call (.ref f) ⟨.ref (s.heap.objs.size + 1)::vs,kw⟩) (PySem.W.InitBack (s.heap.objs.size + 1) R)
   { s with heap:=(s.heap.push PySem.W.emptyDict).push (PySem.W.instObj C s.heap.objs.size) }):
  codeAny (model prog w) A (.call (.ref C) ⟨vs,kw⟩) R s:=by
 obtain⟨hh,g,d,t,os⟩:=s
 exact PySem.W.make_core (PySem.W.makes_of X hm) (PySem.W.looks_findIn X hi) (fun self=>PySem.W.bind_fn X self hf) (.inl rfl) h
end
def putF (f:Str) (v:V):List (Str × V)→List (Str × V)
 | []=>[(f,v)]
 | (g,x)::r=>if g=f then(g,v)::r else(g,x)::putF f v r
theorem lookup_putF (f g:Str) (v:V):∀ fs:List (Str × V),(putF f v fs).lookup g=if g=f then some v else fs.lookup g
 | []=>by
  show List.lookup g [(f,v)]=_
  by_cases h:g=f
  ·have hb:(g == f)=true:=beq_iff_eq.mpr h
   simp only [List.lookup,hb,if_pos h]
  ·have hb:(g == f)=false:=beq_eq_false_iff_ne.mpr h
   simp only [List.lookup,hb,if_neg h]
 | (k,x)::r=>by
  have ih:=lookup_putF f g v r
  rw [show putF f v ((k,x)::r)=(if k=f then(k,v)::r else(k,x)::putF f v r) from rfl]
  by_cases hk:k=f
  ·rw [if_pos hk]
   by_cases h:g=k
   ·have hb:(g == k)=true:=beq_iff_eq.mpr h
    simp only [List.lookup,hb,if_pos (h.trans hk)]
   ·have hb:(g == k)=false:=beq_eq_false_iff_ne.mpr h
    simp only [List.lookup,hb,if_neg (fun e:g=f=>h (e.trans hk.symm))]
  ·rw [if_neg hk]
   by_cases h:g=k
   ·have hb:(g == k)=true:=beq_iff_eq.mpr h
    simp only [List.lookup,hb,if_neg (fun e:g=f=>hk (h.symm.trans e))]
   ·have hb:(g == k)=false:=beq_eq_false_iff_ne.mpr h
    simp only [List.lookup,hb]
    exact ih
theorem keys_putF (f:Str) (v:V):∀ fs:List (Str × V),f∈(putF f v fs).map (·.1)∧∀ g,g∈fs.map (·.1)→g∈(putF f v fs).map (·.1)
 | []=>⟨by simp [putF],fun g h=>by simp at h⟩
 | (k,x)::r=>by
  obtain⟨i1,i2⟩:=keys_putF f v r
  rw [show putF f v ((k,x)::r)=(if k=f then(k,v)::r else(k,x)::putF f v r) from rfl]
  by_cases hk:k=f
  ·rw [if_pos hk]
   subst hk
   exact⟨by simp,fun g h=>by simpa using h⟩
  ·rw [if_neg hk]
   refine⟨?_,fun g h=>?_⟩
   ·rw [List.map_cons]
    exact List.mem_cons_of_mem _ i1
   ·rw [List.map_cons] at h ⊢
    rcases List.mem_cons.mp h with e | e
    ·exact List.mem_cons.mpr (.inl e)
    ·exact List.mem_cons_of_mem _ (i2 g e)
theorem length_putF (f:Str) (v:V):∀ fs:List (Str × V),(putF f v fs).length≤fs.length + 1
 | []=>by simp [putF]
 | (k,x)::r=>by
  have ih:=length_putF f v r
  rw [show putF f v ((k,x)::r)=(if k=f then(k,v)::r else(k,x)::putF f v r) from rfl]
  by_cases hk:k=f
  ·rw [if_pos hk,List.length_cons,List.length_cons];omega
  ·rw [if_neg hk,List.length_cons,List.length_cons];omega
theorem RelO.some_of {v:V}{o:Option Value}(r:RelO (some v) o):∃ u,o=some u∧RelV v u:=by
 cases o with
 | none=>exact(show False from r).elim
 | some u=>exact⟨u,rfl,r⟩
theorem RelO.none_of {o:Option Value}(r:RelO none o):o=none:=by
 cases o with
 | none=>rfl
 | some u=>exact(show False from r).elim
theorem handed_of {v:V}{u:Value}(r:RelV v u):PySem.W.handedIn u=true:=by
 cases v with
 | non=>cases (show u=Value.none from r);rfl
 | bl b=>cases (show u=Value.bool b from r);rfl
 | int i=>obtain⟨t,e⟩:=(show ∃ t,u=Value.int i t from r);cases e;rfl
 | str x=>obtain⟨t,e⟩:=(show ∃ t,u=Value.str x t from r);cases e;rfl
 | byt b=>obtain⟨t,e⟩:=(show ∃ t,u=Value.bytes b t from r);cases e;rfl
 | flt b=>obtain⟨t,e⟩:=(show ∃ t,u=Value.float b t from r);cases e;rfl
 | ref a=>cases (show u=Value.ref a from r);rfl
 | ty n=>cases (show u=Value.type n from r);rfl
section
variable {P:Program}{w:World}{H H':Hp}{h h':Heap}{a C dx:Addr}{fs fs':List (Str × V)}
theorem ins_get (hok:HOk P w H h) (e:H a=some (.ins C dx fs)):∃ mA,ObjM h a dx C mA∧(∀ f,RelO (fs.lookup f) (mA f))∧PySem.Within mA (fs.map (·.1))∧fs.length≤1000∧H dx=some (.own a):=by
 obtain⟨d,z,ne,ob,mA,n,r,q⟩:=(show ObjOk P w H h a (.ins C dx fs) from hok a _ e)
 exact⟨mA,⟨ob,n,ne⟩,r,q,z,d⟩
end
structure Cls (K:PySem.W.Frag) (C:Addr):Prop where
 pg:PySem.W.plainGet K C Str.empty=true
 hd:PySem.W.hasDictIn K C=true
 po:PySem.W.plainOver K C=true
 sa:PySem.W.findIn K (.ref C) "__setattr__"=some (some (.builtin "object.__setattr__"))
theorem Cls.get {K:PySem.W.Frag}{C:Addr}(c:Cls K C) (f:Str):PySem.W.plainGet K C f=true:=c.pg
def NoAttr (K:PySem.W.Frag) (C:Addr) (f:Str):Prop:=PySem.W.findIn K (.ref C) f=some none
theorem NoAttr.taker {K:PySem.W.Frag}{C:Addr}{f:Str}(n:NoAttr K C f):PySem.W.takerIn K C f=some none:=by
 unfold PySem.W.takerIn
 rw [show PySem.W.findIn K (.ref C) f=some none from n]
 rfl
structure Meth (K:PySem.W.Frag) (C:Addr) (m:Str) (f:Addr):Prop where
 at_:PySem.W.findIn K (.ref C) m=some (some (.ref f))
 fn:PySem.W.isFn K (.ref f)=true
 kp:PySem.W.keepIn K (.ref f)=true
section
variable {X:Cx}{pins:List (Addr × Obj)}{σ:St}{H:Hp}{s:Shared}{a C dx:Addr}{fs:List (Str × V)}{f:Str}{v:V}{A:Around}{E:Value→Shared→Prop}
theorem getattr_ok {b:Bool}{Q:Value→Shared→Prop}(I:Inv X pins σ H s) (e:H a=some (.ins C dx fs)) (c:Cls X.K C) (n:NoAttr X.K C f) (l:fs.lookup f=some v)
  (h:∀ u s',Inv X pins σ H s'→RelV v u→Q u s'):wpAny (model X.prog X.w) A (getAttr (.ref a) f b) Q E s:=by
 obtain⟨mA,O,r,_,_,_⟩:=ins_get I.hok e
 obtain⟨u,hu,ru⟩:=RelO.some_of (v:=v) (o:=mA f) (by rw [← l];exact r f)
 exact get_map I.kIn O (c.get f) c.hd n hu (handed_of ru) (h u _ (I.tok _) ru)
theorem getmeth_ok {m:Str}{g:Addr}{pl:Sem Bool}{Q:Value × List Value→Shared→Prop}(I:Inv X pins σ H s) (e:H a=some (.ins C dx fs)) (c:Cls X.K C) (k:Meth X.K C m g) (l:fs.lookup m=none)
  (h:Q (.ref g,[.ref a]) s):wpAny (model X.prog X.w) A (getMethod (.ref a) m pl) Q E s:=by
 obtain⟨mA,O,r,_,_,_⟩:=ins_get I.hok e
 have hn:mA m=none:=RelO.none_of (by rw [← l];exact r m)
 exact get_meth I.kIn O (c.get m) k.at_ k.fn hn h
theorem setattr_ok {y:V}{u:Value}{Q:Unit→Shared→Prop}(I:Inv X pins σ H s) (e:H a=some (.ins C dx fs)) (c:Cls X.K C) (n:NoAttr X.K C f) (hl:fs.length < 1000) (ry:RelV y u)
  (h:∀ s',Inv X pins σ (upd H a (.ins C dx (putF f y fs))) s'→Q () s'):wpAny (model X.prog X.w) A (setAttr (.ref a) f u) Q E s:=by
 obtain⟨mA,O,r,wi,_,ho⟩:=ins_get I.hok e
 have hz:(fs.map (·.1)).length≤sizeLine:=by rw [List.length_map,sizeLine_eq];omega
 refine set_map I.kIn O c.sa c.po n.taker c.hd wi hz fun h' O' sb=>h _ ?_
 have hd:∃ o,h'.get? dx=some o:=let ⟨o,_,_,e',_⟩:=O'.ns;⟨o,e'⟩
 refine I.write (x:=a) (e:=dx) (by rw [e];exact True.intro) (.inr ho) (fun b q hb z=>(sb.2 b hb).trans z) hd ?_
 refine⟨by rw [upd_ne O.ne];exact ho,?_,O.ne,O'.obj,_,O'.ns,fun g=>?_,fun g hg=>?_⟩
 ·have:=length_putF f y fs;omega
 ·show RelO ((putF f y fs).lookup g) (if g=f then some u else mA g)
  rw [lookup_putF]
  by_cases q:g=f
  ·rw [if_pos q,if_pos q];exact ry
  ·rw [if_neg q,if_neg q];exact r g
 ·by_cases q:g=f
  ·rw [q];exact(keys_putF f y fs).1
  ·refine(keys_putF f y fs).2 g (wi g fun z=>hg ?_)
   show (if g=f then some u else mA g)=none
   rw [if_neg q];exact z
theorem Inv.made (I:Inv X pins σ H s):Inv X pins σ (upd (upd H s.heap.objs.size (.own (s.heap.objs.size + 1))) (s.heap.objs.size + 1) (.ins C s.heap.objs.size []))
  { s with heap:=(s.heap.push PySem.W.emptyDict).push (PySem.W.instObj C s.heap.objs.size) }:=by
 have e1:(s.heap.push PySem.W.emptyDict).get? s.heap.objs.size=some PySem.W.emptyDict:=Heap.get?_push_size s.heap rfl
 have e2:((s.heap.push PySem.W.emptyDict).push (PySem.W.instObj C s.heap.objs.size)).get? (s.heap.objs.size + 1)=some (PySem.W.instObj C s.heap.objs.size):=by
  have:=Heap.get?_push_size (s.heap.push PySem.W.emptyDict) (o:=PySem.W.instObj C s.heap.objs.size) rfl
  rwa [Heap.size_push] at this
 have e3:(s.heap.push PySem.W.emptyDict).Ns s.heap.objs.size (fun _=>none):=⟨PySem.W.emptyDict,#[],_,e1,rfl,(fun e he=>absurd he (by simp)),fun _=>rfl⟩
 have I1:=I.laid (a:=s.heap.objs.size) (o:=.own (s.heap.objs.size + 1)) (h':=s.heap.push PySem.W.emptyDict) (t':=s.toks) (fun b u q=>Heap.get?_push_of_some _ q) (Nat.le_refl _) ⟨_,e1⟩
 refine I1.laid (a:=s.heap.objs.size + 1) (o:=.ins C s.heap.objs.size []) (t':=s.toks) (fun b u q=>Heap.get?_push_of_some _ q) (Nat.le_of_eq (Heap.size_push _ _)) ?_
 have ne:s.heap.objs.size≠s.heap.objs.size + 1:=Nat.ne_of_lt (Nat.lt_succ_self _)
 refine⟨by rw [upd_ne ne,upd_same],Nat.zero_le _,ne,e2,fun _=>none,(Heap.Ns1.of_empty e3).at fun o q=>Heap.get?_push_of_some _ q,fun _=>True.intro,fun y hy=>absurd rfl hy⟩
theorem attr_of {prog:Program}{w:World}{env:Env}{e:Expr}{f:Str}{pos:Pos}{s:Shared}{Q:Value→Shared→Prop}(hb:attributeBase e f env (eval e env)=eval e env)
  (h:wpAny (model prog w) A (eval e env) (fun o s₁=>wpAny (model prog w) A (getAttr o f true) Q E s₁) E s):wpAny (model prog w) A (eval (.Attribute e f pos) env) Q E s:=
 Attribute_any_ h (by rw [arm_eval_Attribute,hb])
end
def tFld (K:PySem.W.Frag) (ta:TE) (f:Str):TE:=fun σ H Q=>ta σ H fun x H1=>∃ a C dx fs v,x=.ref a∧H1 a=some (.ins C dx fs)∧Cls K C∧NoAttr K C f∧fs.lookup f=some v∧Q v H1
def sFld (K:PySem.W.Frag) (ta tv:TE) (f:Str):TS:=fun D σ H=>tv σ H fun y H1=>ta σ H1 fun x H2=>∃ a C dx fs,x=.ref a∧H2 a=some (.ins C dx fs)∧Cls K C∧NoAttr K C f∧fs.length < 1000∧
 D.nx σ (upd H2 a (.ins C dx (putF f y fs)))
section
variable {X:Cx}{o e value:Expr}{f:Str}{pos pos' tpos:Pos}{ta tv:TE}
theorem pe_fld (he:PE X e ta) (hb:attributeBase e f X.env (eval e X.env)=eval e X.env):PE X (.Attribute e f pos) (tFld X.K ta f):=by
 intro pins s σ H Q I h
 refine attr_of hb (thn (he pins s σ H _ I h) fun u s1 ⟨x,H1,I1,rx,a,C,dx,fs,v,ex,ea,c,n,l,q⟩=>?_)
 subst ex
 obtain rfl:u=Value.ref a:=rx
 exact getattr_ok I1 ea c n l fun u' s2 I2 ru=>⟨v,H1,I2,ru,q⟩
theorem ps_fld (ha:PE X o ta) (hv:PE X value tv) (hs:swapsWith value (some (.Attribute o f pos')) pos.line X.env=pure false):PS X (.Assign [.Attribute o f pos'] value pos) (sFld X.K ta tv f):=by
 intro pins s σ H D I h
 refine plainObj_wpAny_Assign_Attribute (thn (hv pins s σ H _ I h) fun u s1 ⟨y,H1,I1,ry,q⟩=>thn (ha pins s1 σ H1 _ I1 q) fun ov s2 ⟨x,H2,I2,rx,a,C,dx,fs,ex,ea,c,n,l,q2⟩=>?_) hs
 subst ex
 obtain rfl:ov=Value.ref a:=rx
 exact setattr_ok I2 ea c n l ry fun s3 I3=>⟨σ,_,I3,q2⟩
end
section
variable {X:Cx}{pins:List (Addr × Obj)}{σ:St}{H:Hp}{s:Shared}{A:Around}{E:Value→Shared→Prop}{Q:Value→Shared→Prop}{c:Value}{b:Bool}
inductive TyOf (K:PySem.W.Frag) (H:Hp):V→Value→Prop where
 | non:TyOf K H .non (.type "NoneType")
 | bl (x:Bool):TyOf K H (.bl x) (.type "bool")
 | int (i:Int):TyOf K H (.int i) (.type "int")
 | str (x:Str):TyOf K H (.str x) (.type "str")
 | flt (x:UInt64):TyOf K H (.flt x) (.type "float")
 | lst {a:Addr}{xs:List V}(e:H a=some (.lst xs)):TyOf K H (.ref a) (.type "list")
 | frz {a:Addr}{o:Obj}{xs:List V}(e:H a=some (.frz o (.lst xs))):TyOf K H (.ref a) (.type "list")
 | tup {a:Addr}{xs:List V}(e:H a=some (.tup xs)):TyOf K H (.ref a) (.type "tuple")
 | dK {a:Addr}{kvs:List (Key × V)} (e:H a=some (.dK kvs)):TyOf K H (.ref a) (.type "dict")
 | dT {a:Addr}{kvs:List (List Key × V)} (e:H a=some (.dT kvs)):TyOf K H (.ref a) (.type "dict")
 | ins {a C dx:Addr}{fs:List (Str × V)} (e:H a=some (.ins C dx fs)) (cl:Cls K C) (ha:PySem.W.findIn K (.ref C) "__class__"=some (some (.builtin "object.__class__")))
   (hn:PySem.W.specialIn K (.builtin "object.__class__") "__get__"=some (some (.builtin "getset_descriptor.__get__"))) (htk:PySem.W.takesIn K (.builtin "object.__class__")=some true)
   (hm:PySem.W.mroIn K C (.type "object")=some true):TyOf K H (.ref a) (.ref C)
theorem isinst_ok {x:V}{u t:Value}(I:Inv X pins σ H s) (rx:RelV x u) (ty:TyOf X.K H x t) (e:PySem.W.kitOne X.K t c=some b) (h:∀ tk,Q (.bool b) { s with toks:=tk }):
  wpAny (model X.prog X.w) A (call (.builtin "isinstance") [u,c]) Q E s:=by
 cases ty with
 | non=>cases (show u=Value.none from rx);exact PySem.W.kia_one PySem.W.kitx_none I.kIn True.intro e (fun z=>nomatch z) h
 | bl y=>cases (show u=Value.bool y from rx);exact PySem.W.kia_one PySem.W.kitx_bool I.kIn True.intro e (fun z=>nomatch z) h
 | int i=>obtain⟨t,q⟩:=(show ∃ t,u=Value.int i t from rx);cases q;exact PySem.W.kia_one PySem.W.kitx_int I.kIn True.intro e (fun z=>nomatch z) h
 | str y=>obtain⟨t,q⟩:=(show ∃ t,u=Value.str y t from rx);cases q;exact PySem.W.kia_one PySem.W.kitx_str I.kIn True.intro e (fun z=>nomatch z) h
 | flt y=>obtain⟨t,q⟩:=(show ∃ t,u=Value.float y t from rx);cases q;exact PySem.W.kia_one PySem.W.kitx_float I.kIn True.intro e (fun z=>nomatch z) h
 | @lst a xs ea=>
  cases (show u=Value.ref a from rx)
  obtain⟨_,_,n,_,h1⟩:=(show ObjOk X.prog X.w H s.heap a (.lst xs) from I.hok a _ ea)
  exact PySem.W.kia_one PySem.W.kitx_list I.kIn ⟨_,h1,rfl⟩ e (fun z=>nomatch z) h
 | @frz a ob xs ea=>
  cases (show u=Value.ref a from rx)
  obtain⟨_,_,_,n,_,h1⟩:=(show ObjOk X.prog X.w H s.heap a (.frz ob (.lst xs)) from I.hok a _ ea)
  exact PySem.W.kia_one PySem.W.kitx_list I.kIn ⟨_,h1,rfl⟩ e (fun z=>nomatch z) h
 | @tup a xs ea=>
  cases (show u=Value.ref a from rx)
  obtain⟨_,_,_,p⟩:=(show ObjOk X.prog X.w H s.heap a (.tup xs) from I.hok a _ ea)
  obtain⟨o,h1,h2,_⟩:=p
  exact PySem.W.kia_one PySem.W.kitx_tuple I.kIn ⟨o,h1,h2⟩ e (fun z=>nomatch z) h
 | @dK a kvs ea=>
  cases (show u=Value.ref a from rx)
  obtain⟨_,_,vs,_,p⟩:=(show ObjOk X.prog X.w H s.heap a (.dK kvs) from I.hok a _ ea)
  obtain⟨o,es,ep,h1,h2,_⟩:=p
  exact PySem.W.kia_one PySem.W.kitx_dict I.kIn ⟨o,h1,h2.1⟩ e (fun z=>nomatch z) h
 | @dT a kvs ea=>
  cases (show u=Value.ref a from rx)
  obtain⟨_,_,xs,_,o,es,ep,h1,h2,_⟩:=(show ObjOk X.prog X.w H s.heap a (.dT kvs) from I.hok a _ ea)
  exact PySem.W.kia_one PySem.W.kitx_dict I.kIn ⟨o,h1,h2.1⟩ e (fun z=>nomatch z) h
 | @ins a C dx fs ea cl ha hn htk hm=>
  cases (show u=Value.ref a from rx)
  obtain⟨mA,O,_⟩:=ins_get I.hok ea
  obtain⟨od,J,_⟩:=O.look
  exact PySem.W.kia_one (PySem.W.kitx_own (cl.get _) cl.hd ha hn htk hm) I.kIn J e (fun z=>nomatch z) h
end
end L2
namespace L2
open PySem PySem.Spec PyProof.Rows
structure Room (k:Nat) (A:Around):Prop where
 hd:A.handled=none
 dp:A.depth + 3 * k + 5 < recursionLimit
 un:A.units + 16 * k + 200 < cLine
theorem Room.mono {j k:Nat}{A:Around}(r:Room k A) (h:j≤k):Room j A:=⟨r.hd,by have:=r.dp;omega,by have:=r.un;omega⟩
theorem Room.deeper {k:Nat}{A:Around}(r:Room (k + 1) A) (env:Env):Room k (A.deeper env):=
 ⟨r.hd,by have:=r.dp;show A.depth + 1 + 3 * k + 5 < _;omega,by have:=r.un;show A.units + 3 + 16 * k + 200 < _;omega⟩
theorem make_depth {A:Around}{C:Addr}{us:List Value}{kw:List (Str × Value)}:(A.under (.builtin "type.__call__" ⟨.ref C::us,kw⟩)).depth=A.depth + 1:=by
 first | rfl | simp [Around.under,Code.weight,Code.isCreation,Code.isGuard,Code.isCaller,Code.frames,Code.isFrame,guardIds]
theorem make_units {A:Around}{C:Addr}{us:List Value}{kw:List (Str × Value)}:(A.under (.builtin "type.__call__" ⟨.ref C::us,kw⟩)).units=A.units + 1:=by
 first | rfl | simp [Around.under,Code.cUnits,Code.frames,Code.isFrame]
theorem Room.make {k:Nat}{A:Around}(r:Room (k + 1) A) (C:Addr) (us:List Value) (kw:List (Str × Value)):Room k (A.under (.builtin "type.__call__" ⟨.ref C::us,kw⟩)):=
 ⟨r.hd,by have:=r.dp;rw [make_depth];omega,by have:=r.un;rw [make_units];omega⟩
theorem Room.depth {k:Nat}{A:Around}(r:Room k A):A.depth < recursionLimit:=by have:=r.dp;omega
theorem Room.units {k:Nat}{A:Around}(r:Room k A):A.units + 64 < cLine:=by have:=r.un;omega
theorem Room.units0 {k:Nat}{A:Around}(r:Room k A):A.units < cLine:=by have:=r.un;omega
def tNil:TA:=fun _ H Q=>Q [] H
def tCons (ta:TE) (tr:TA):TA:=fun σ H Q=>ta σ H fun x H1=>tr σ H1 fun xs H2=>Q (x::xs) H2
section
variable {X:Cx}{e:Expr}{es:List Expr}{te:TE}{t:TA}{pos:Pos}
theorem pa_nil:PA X [] tNil:=fun _ _ _ _ H Q I h=>Calls.spliced_nil ⟨[],H,I,.nil,h⟩
theorem pa_cons (ha:PE X e te) (hr:PA X es t) (hs:starEach (e::es) X.env=(false,eval e X.env)::starEach es X.env:=by rfl):PA X (e::es) (tCons te t):=by
 intro pos pins s σ H Q I h
 rw [hs]
 show wpAny _ _ (spliced ((false,eval e X.env)::backTo pos (starEach es X.env))) _ _ s
 refine Calls.spliced_cons (thn (ha pins s σ H _ I h) fun u s1 ⟨x,H1,I1,r1,q1⟩=>?_)
 exact thn (hr pos pins s1 σ H1 _ I1 q1) fun us s2 ⟨xs,H2,I2,r2,q2⟩=>⟨x::xs,H2,I2,.cons r1 r2,q2⟩
def tTup (t:TA):TE:=fun σ H Q=>t σ H fun xs H1=>xs.length≤sizeLine∧∀ p,H1 p=none→Q (.ref p) (upd H1 p (.tup xs))
def tLst (t:TA):TE:=fun σ H Q=>t σ H fun xs H1=>xs.length≤sizeLine∧∀ p,H1 p=none→Q (.ref p) (upd H1 p (.lst xs))
theorem pe_tup {x1} (h:PA X es t):PE X (.Tuple es x1 pos) (tTup t):=by
 intro pins s σ H Q I hq
 refine wpAny_Tuple_spliced (thn (h pos pins s σ H _ I hq) fun us s1 ⟨xs,H1,I1,r,z,q⟩=>⟨by rw [← r.length];exact z,?_⟩)
 have hf:H1 s1.heap.objs.size=none:=I1.hok.fresh (Nat.le_refl _)
 refine⟨.ref s1.heap.objs.size,upd H1 s1.heap.objs.size (.tup xs),I1.laid (t':=s1.toks) (fun b u e=>Heap.get?_push_of_some _ e) (Nat.le_refl _) ?_,rfl,q _ hf⟩
 exact⟨z,us,r,⟨_,Heap.get?_push_size _ rfl,rfl,_,rfl⟩⟩
theorem pe_lst (h:PA X es t):PE X (.List es pos) (tLst t):=by
 intro pins s σ H Q I hq
 refine wpAny_List_spliced (thn (h pos pins s σ H _ I hq) fun us s1 ⟨xs,H1,I1,r,z,q⟩=>⟨by rw [← r.length];exact z,?_⟩)
 have hf:H1 s1.heap.objs.size=none:=I1.hok.fresh (Nat.le_refl _)
 refine⟨.ref s1.heap.objs.size,upd H1 s1.heap.objs.size (.lst xs),I1.laid (t':=s1.toks) (fun b u e=>Heap.get?_push_of_some _ e) (Nat.le_refl _) ?_,rfl,q _ hf⟩
 exact⟨z,us,0,r,Heap.get?_push_size _ rfl⟩
end
abbrev Sp:=List V→Hp→VK→XK→Prop
abbrev CXT:=List Env→Hp→Shared→XK→Value→Shared→Prop
structure Env0 (P:Program) (w:World) (K:PySem.W.Frag) (mg:Str→Option Value) (base:Heap) (A:Around) (outer:List Env) (s:Shared) (H:Hp):Prop where
 frames:A.frames=some outer
 mod:Mod K mg base
 bs:∀ b o,base.get? b=some o→s.heap.get? b=some o∧H b=none
 bsz:base.objs.size≤s.heap.objs.size
 funs:s.heap.FunFrames base outer
 frf:∀ b∈frs outer,H b=none
 hok:HOk P w H s.heap
 bare:AllBare s.gens
def CE (outer:List Env) (P:Program) (w:World) (H:Hp) (s:Shared) (Q:VK) (u:Value) (s':Shared):Prop:=
 ∃ v H',s'.os=s.os∧AllBare s'.gens∧Un (frs outer) [] H H' s.heap s'.heap∧HOk P w H' s'.heap∧RelV v u∧Q v H'
def CR (CX:CXT) (outer:List Env) (P:Program) (w:World) (H:Hp) (s:Shared) (Q:VK) (E:XK) (r:Result) (s':Shared):Prop:=
 match r with
 | .ok (.ret u)=>CE outer P w H s Q u s'
 | .ok _=>False
 | .error e=>CX outer H s E e s'
structure FnOk (P:Program) (w:World) (K:PySem.W.Frag) (mg:Str→Option Value) (base:Heap) (CX:CXT) (k:Nat) (f:Addr) (fd:FuncData) (ps:List Str) (sp:Sp):Prop where
 len:∀ vs H Q E,sp vs H Q E→vs.length=ps.length
 run:∀ (A:Around) (outer:List Env) (s:Shared) (H:Hp) (args:Args) (us:List Value) (vs:List V) (Q:VK) (E:XK),Room k A→Env0 P w K mg base A outer s H→BindsTo s fd args (ps.zip us)→Vals vs us→sp vs H Q E→
  codeAny (model P w) A (.call (.ref f) args) (CR CX outer P w H s Q E) s
theorem FnOk.mono {P:Program}{w:World}{K:PySem.W.Frag}{mg:Str→Option Value}{base:Heap}{CX:CXT}{j k:Nat}{f:Addr}{fd:FuncData}{ps:List Str}{sp:Sp}(F:FnOk P w K mg base CX j f fd ps sp) (h:j≤k):
  FnOk P w K mg base CX k f fd ps sp:=⟨F.len,fun A outer s H args us vs Q E hr=>F.run A outer s H args us vs Q E (hr.mono h)⟩
theorem Env0.make {P:Program}{w:World}{K:PySem.W.Frag}{mg:Str→Option Value}{base:Heap}{A:Around}{outer:List Env}{s:Shared}{H:Hp}(e:Env0 P w K mg base A outer s H) (C:Addr) (us:List Value) (kw:List (Str × Value)):
  Env0 P w K mg base (A.under (.builtin "type.__call__" ⟨.ref C::us,kw⟩)) outer s H:=⟨by first | exact e.frames | (simpa [Around.under,Code.envs,Code.isFrame,pushEnvs] using e.frames),e.mod,e.bs,e.bsz,e.funs,e.frf,e.hok,e.bare⟩
section
variable {X:Cx}{pins:List (Addr × Obj)}{σ:St}{H:Hp}{s s':Shared}
theorem Inv.env0 (I:Inv X pins σ H s):Env0 X.prog X.w X.K X.mg X.base X.A X.stack s H:=
 ⟨I.ok.frames,I.ok.mod,I.bs,Nat.le_trans I.ok.bsz I.sz,I.stack,I.stkFree,I.hok,I.bare⟩
theorem Inv.after {Q:VK}{u:Value}(I:Inv X pins σ H s) (h:CE X.stack X.prog X.w H s Q u s'):EP X pins σ Q u s':=by
 obtain⟨v,H',os,bare,un,hok,r,q⟩:=h
 obtain⟨hh,g,d,t,os'⟩:=s'
 obtain rfl:os'=s.os:=os
 exact⟨v,H',I.call (h':=hh) (g':=g) (d':=d) (t':=t) (ch:=[]) un hok bare (fun b z=>absurd z (by simp)),r,q⟩
end
def tCall (sp:Sp) (dvs:List V) (E:XK) (t:TA):TE:=fun σ H Q=>t σ H fun vs H1=>sp (vs++dvs) H1 Q E
def tMeth (C:Addr) (m:Str) (sp:Sp) (dvs:List V) (E:XK) (ta:TE) (t:TA):TE:=fun σ H Q=>ta σ H fun x H1=>∃ a dx fs,x=.ref a∧H1 a=some (.ins C dx fs)∧fs.lookup m=none∧
 t σ H1 fun vs H2=>sp (x::(vs++dvs)) H2 Q E
def tMake (C:Addr) (sp:Sp) (dvs:List V) (E:XK) (t:TA):TE:=fun σ H Q=>t σ H fun vs H1=>∀ x dx,H1 x=none→H1 dx=none→dx≠x→
 sp (.ref x::(vs++dvs)) (upd (upd H1 dx (.own x)) x (.ins C dx [])) (fun v H2=>v=.non∧Q (.ref x) H2) E
def Binds (K:PySem.W.Frag) (fd:FuncData) (ps:List Str) (ds:List Value):Prop:=
 ∀ (s:Shared) (us:List Value),K.In s.heap→(us++ds).length=ps.length→BindsTo s fd ⟨us,[]⟩ (ps.zip (us++ds))
theorem Binds.all {K:PySem.W.Frag}{fd:FuncData}{ps:List Str}(h:∀ us:List Value,us.length=ps.length→bindArgs fd ⟨us,[]⟩=pure (ps.zip us)):Binds K fd ps []:=fun s us _ hl=>by
 rw [List.append_nil] at hl ⊢
 exact .of_eq (h us hl)
def Passes (CX:CXT) (X:Cx) (E:XK):Prop:=∀ (pins:List (Addr × Obj)) (σ:St) (H:Hp) (s:Shared) (e:Value) (s':Shared),Inv X pins σ H s→CX X.stack H s E e s'→X.xe e s'
section
variable {X:Cx}{CX:CXT}{k:Nat}{f C:Addr}{fd:FuncData}{ps:List Str}{sp:Sp}{dvs:List V}{ds:List Value}{E:XK}{x m:Str}{p pos apos:Pos}{e o:Expr}{es:List Expr}{ta:TE}{t:TA}
theorem run_fn {pins:List (Addr × Obj)}{σ:St}{H:Hp}{s:Shared}{Q:VK}{us:List Value}{vs:List V}(F:FnOk X.prog X.w X.K X.mg X.base CX k f fd ps sp) (hr:Room k X.A) (hb:Binds X.K fd ps ds) (hd:Vals dvs ds) (hx:Passes CX X E)
  (I:Inv X pins σ H s) (r:Vals vs us) (h:sp (vs++dvs) H Q E):wpAny (model X.prog X.w) X.A (call (.ref f) us) (EP X pins σ Q) X.xe s:=by
 have r2:Vals (vs++dvs) (us++ds):=r.append hd
 have hl:(us++ds).length=ps.length:=by rw [← r2.length];exact F.len _ _ _ _ h
 refine wpAny_call (codeAny_mono (F.run X.A X.stack s H ⟨us,[]⟩ (us++ds) (vs++dvs) Q E hr I.env0 (hb s us I.kIn hl) r2 h) fun r s' hq=>?_)
 cases r with
 | error e=>exact hx pins σ H s e s' I hq
 | ok fl=>
  cases fl with
  | ret u=>exact I.after hq
  | next=>exact False.elim hq
  | brk=>exact False.elim hq
  | cont=>exact False.elim hq
theorem pe_call (F:FnOk X.prog X.w X.K X.mg X.base CX k f fd ps sp) (hr:Room k X.A) (hg:Gl X x) (hm:X.mg x=some (.ref f)) (hk:PySem.W.keepIn X.K (.ref f)=true) (hb:Binds X.K fd ps ds) (hd:Vals dvs ds) (hx:Passes CX X E)
  (ha:PA X (e::es) t) (hdb:(x == ("__debug__":Str))=false:=by decide) (he:starEach (e::es) X.env=(false,eval e X.env)::starEach es X.env:=by rfl) (hpl:(backTo pos (starEach es X.env)).any (·.1)=false:=by rfl):
  PE X (.Call (.Name x p) (e::es) [] pos) (tCall sp dvs E t):=by
 intro pins s σ H Q I h
 refine wpAny_Call_Name_kw (ld_glob I hg hm ?_ hdb)
 refine PySem.W.callWith_K (h₀:=X.base) I.ok.mod.kin hk (thn (ha pos pins s σ H _ I h) fun us s1 ⟨vs,H1,I1,r,q⟩=>⟨I1.kIn,?_⟩) he hpl
 exact run_fn F hr hb hd hx I1 r q
theorem pe_meth {pl:Sem Bool}(he:PE X o ta) (c:Cls X.K C) (hm:Meth X.K C m f) (F:FnOk X.prog X.w X.K X.mg X.base CX k f fd ps sp) (hr:Room k X.A) (hb:Binds X.K fd ps ds) (hd:Vals dvs ds) (hx:Passes CX X E) (ha:PA X (e::es) t)
  (hst:starEach (e::es) X.env=(false,eval e X.env)::starEach es X.env:=by rfl) (hpl:(backTo pos (starEach es X.env)).any (·.1)=false:=by rfl)
  (ht:eval (.Call (.Attribute o m apos) (e::es) [] pos) X.env=(do
   let ov ← eval o X.env
   standAt apos.atName
   let (f,first) ← holding [ov] (getMethod ov m pl)
   callWith pos f first (backTo pos (starEach (e::es) X.env)) (backToKw pos (keywordEach [] X.env))):=by rfl):
  PE X (.Call (.Attribute o m apos) (e::es) [] pos) (tMeth C m sp dvs E ta t):=by
 intro pins s σ H Q I h
 refine PySem.W.methodCall_KW (pl:=pl) (thn (he pins s σ H _ I h) fun u s1 ⟨x,H1,I1,rx,a,dx,fs,ex,ea,l,q⟩=>?_) ht
 subst ex
 obtain rfl:u=Value.ref a:=rx
 refine getmeth_ok I1 ea c hm l ?_
 refine PySem.W.callWith_K (first:=[.ref a]) (h₀:=X.base) I.ok.mod.kin hm.kp (thn (ha pos pins s1 σ H1 _ I1 q) fun us s2 ⟨vs,H2,I2,r,q2⟩=>⟨I2.kIn,?_⟩) hst hpl
 exact run_fn (us:=.ref a::us) (vs:=.ref a::vs) F hr hb hd hx I2 (.cons rfl r) q2
theorem pe_meth0 {pl:Sem Bool}(he:PE X o ta) (c:Cls X.K C) (hm:Meth X.K C m f) (F:FnOk X.prog X.w X.K X.mg X.base CX k f fd ps sp) (hr:Room k X.A) (hb:Binds X.K fd ps ds) (hd:Vals dvs ds) (hx:Passes CX X E)
  (ht:eval (.Call (.Attribute o m apos) [] [] pos) X.env=(do
   let ov ← eval o X.env
   standAt apos.atName
   let (f,first) ← holding [ov] (getMethod ov m pl)
   callWith pos f first (backTo pos (starEach [] X.env)) (backToKw pos (keywordEach [] X.env))):=by rfl):
  PE X (.Call (.Attribute o m apos) [] [] pos) (tMeth C m sp dvs E ta tNil):=by
 intro pins s σ H Q I h
 refine PySem.W.methodCall_KW (pl:=pl) (thn (he pins s σ H _ I h) fun u s1 ⟨x,H1,I1,rx,a,dx,fs,ex,ea,l,q⟩=>?_) ht
 subst ex
 obtain rfl:u=Value.ref a:=rx
 refine getmeth_ok I1 ea c hm l ?_
 exact PySem.W.callWith_K0 (first:=[.ref a]) I1.kIn hm.kp (run_fn (us:=[.ref a]) (vs:=[.ref a]) F hr hb hd hx I1 (.cons rfl .nil) q)
structure Mk (K:PySem.W.Frag) (C f:Addr):Prop where
 makes:PySem.W.makesIn K C=true
 init:PySem.W.findIn K (.ref C) "__init__"=some (some (.ref f))
 fn:PySem.W.isFn K (.ref f)=true
 kp:PySem.W.keepIn K (.ref C)=true
theorem run_make {pins:List (Addr × Obj)}{σ:St}{H:Hp}{s:Shared}{Q:VK}{us:List Value}{vs:List V}(M:Mk X.K C f) (F:FnOk X.prog X.w X.K X.mg X.base CX k f fd ps sp) (hr:Room (k + 1) X.A) (hb:Binds X.K fd ps ds) (hd:Vals dvs ds)
  (hx:Passes CX X E) (I:Inv X pins σ H s) (r:Vals vs us)
  (h:∀ x dx,H x=none→H dx=none→dx≠x→sp (.ref x::(vs++dvs)) (upd (upd H dx (.own x)) x (.ins C dx [])) (fun v H2=>v=.non∧Q (.ref x) H2) E):
  wpAny (model X.prog X.w) X.A (call (.ref C) us) (EP X pins σ Q) X.xe s:=by
 have hq:=h (s.heap.objs.size + 1) s.heap.objs.size (I.hok.fresh (Nat.le_succ _)) (I.hok.fresh (Nat.le_refl _)) (Nat.ne_of_lt (Nat.lt_succ_self _))
 have I2:=Inv.made (C:=C) I
 have r2:Vals (V.ref (s.heap.objs.size + 1)::(vs++dvs)) (Value.ref (s.heap.objs.size + 1)::(us++ds)):=.cons rfl (r.append hd)
 have hl:(Value.ref (s.heap.objs.size + 1)::us++ds).length=ps.length:=by
  have e:=r2.length
  rw [F.len _ _ _ _ hq] at e
  exact e.symm
 refine wpAny_call (make_map (f:=f) I.kIn M.makes M.init (beq_iff_eq.mp M.fn) (codeAny_mono (F.run _ X.stack _ _ ⟨Value.ref (s.heap.objs.size + 1)::us,[]⟩ (Value.ref (s.heap.objs.size + 1)::(us++ds)) _ _ E (hr.make C us [])
  (I2.env0.make C us []) (hb _ (Value.ref (s.heap.objs.size + 1)::us) I2.kIn hl) r2 hq) fun r s' hq'=>?_))
 cases r with
 | error e=>exact hx pins σ _ _ e s' I2 hq'
 | ok fl=>
  cases fl with
  | ret u=>
   obtain⟨v,H',I3,rv,ev,q3⟩:=I2.after hq'
   subst ev
   exact⟨rv,⟨V.ref (s.heap.objs.size + 1),H',I3,rfl,q3⟩⟩
  | next=>exact False.elim hq'
  | brk=>exact False.elim hq'
  | cont=>exact False.elim hq'
theorem pe_make (M:Mk X.K C f) (F:FnOk X.prog X.w X.K X.mg X.base CX k f fd ps sp) (hr:Room (k + 1) X.A) (hg:Gl X x) (hm:X.mg x=some (.ref C)) (hb:Binds X.K fd ps ds) (hd:Vals dvs ds) (hx:Passes CX X E)
  (ha:PA X (e::es) t) (hdb:(x == ("__debug__":Str))=false:=by decide) (he:starEach (e::es) X.env=(false,eval e X.env)::starEach es X.env:=by rfl) (hpl:(backTo pos (starEach es X.env)).any (·.1)=false:=by rfl):
  PE X (.Call (.Name x p) (e::es) [] pos) (tMake C sp dvs E t):=by
 intro pins s σ H Q I h
 refine wpAny_Call_Name_kw (ld_glob I hg hm ?_ hdb)
 refine PySem.W.callWith_K (h₀:=X.base) I.ok.mod.kin M.kp (thn (ha pos pins s σ H _ I h) fun us s1 ⟨vs,H1,I1,r,q⟩=>⟨I1.kIn,?_⟩) he hpl
 exact run_make M F hr hb hd hx I1 r q
theorem pe_make0 (M:Mk X.K C f) (F:FnOk X.prog X.w X.K X.mg X.base CX k f fd ps sp) (hr:Room (k + 1) X.A) (hg:Gl X x) (hm:X.mg x=some (.ref C)) (hb:Binds X.K fd ps ds) (hd:Vals dvs ds) (hx:Passes CX X E)
  (hdb:(x == ("__debug__":Str))=false:=by decide):PE X (.Call (.Name x p) [] [] pos) (tMake C sp dvs E tNil):=by
 intro pins s σ H Q I h
 refine wpAny_Call_Name_kw (ld_glob I hg hm ?_ hdb)
 exact PySem.W.callWith_K0 I.kIn M.kp (run_make (us:=[]) M F hr hb hd hx I .nil h)
end
section
variable {X:Cx}{CX:CXT}{k:Nat}{f C:Addr}{fd:FuncData}{ps ks:List Str}{sp:Sp}{E:XK}{x m:Str}{p pos apos kpos:Pos}{e o:Expr}{es:List Expr}{kws:List Keyword}{te ta:TE}{t tk:TA}{nm:Option Str}
variable {g:List Value→List Value→List Value}{gV:List V→List V→List V}
end
structure FnScope (N P:List Str) (sc:Scope):Prop where
 kind:sc.kind=.function
 co:sc.isCoroutine=false
 gen:sc.isGenerator=false
 nd:N.Nodup
 pre:N.take P.length=P
 par:∀ x∈P,sc.names.lookup x=some .local∨sc.names.lookup x=some .cell
 nofree:∀ y∈sc.names,y.2≠.free
theorem bindL_out {kindOf:Str→Option NameKind}{x:Str}:∀ {binds:List (Str × Value)}{m:Str→Option Value},(∀ v,(x,v) ∉ binds)→bindL kindOf binds m x=m x
 | [],_,_=>rfl
 | (n,v)::r,m,h=>by
  unfold bindL
  rw [bindL_out fun w hw=>h w (List.mem_cons_of_mem _ hw)]
  split
  ·have:x≠n:=by rintro rfl;exact h v List.mem_cons_self
   simp [this]
  ·rfl
theorem bindC_out {kindOf:Str→Option NameKind}{x:Str}:∀ {binds:List (Str × Value)}{m:Str→Option Value},(∀ v,(x,v) ∉ binds)→bindC kindOf binds m x=m x
 | [],_,_=>rfl
 | (n,v)::r,m,h=>by
  unfold bindC
  rw [bindC_out fun w hw=>h w (List.mem_cons_of_mem _ hw)]
  split
  ·rfl
  ·have:x≠n:=by rintro rfl;exact h v List.mem_cons_self
   simp [this]
theorem bindL_get {kindOf:Str→Option NameKind}{x:Str}{v:Value}:∀ {P:List Str}{vs:List Value}{i:Nat}{m:Str→Option Value},P.Nodup→P[i]?=some x→vs[i]?=some v→kindOf x=some .local→
  bindL kindOf (P.zip vs) m x=some v
 | [],_,_,_,_,h,_,_=>by simp at h
 | _::_,[],_,_,_,_,h,_=>by simp at h
 | p::P,w::vs,0,m,nd,h1,h2,hk=>by
  simp at h1 h2;subst h1;subst h2
  show bindL kindOf ((p,w)::P.zip vs) m p=_
  unfold bindL
  rw [bindL_out fun v hv=>(List.nodup_cons.mp nd).1 (List.of_mem_zip hv).1,if_pos hk]
  simp
 | p::P,w::vs,i + 1,m,nd,h1,h2,hk=>by
  show bindL kindOf ((p,w)::P.zip vs) m x=_
  unfold bindL
  exact bindL_get (i:=i) (List.nodup_cons.mp nd).2 (by simpa using h1) (by simpa using h2) hk
theorem bindC_get {kindOf:Str→Option NameKind}{x:Str}{v:Value}:∀ {P:List Str}{vs:List Value}{i:Nat}{m:Str→Option Value},P.Nodup→P[i]?=some x→vs[i]?=some v→kindOf x≠some .local→
  bindC kindOf (P.zip vs) m x=some v
 | [],_,_,_,_,h,_,_=>by simp at h
 | _::_,[],_,_,_,_,h,_=>by simp at h
 | p::P,w::vs,0,m,nd,h1,h2,hk=>by
  simp at h1 h2;subst h1;subst h2
  show bindC kindOf ((p,w)::P.zip vs) m p=_
  unfold bindC
  rw [bindC_out fun v hv=>(List.nodup_cons.mp nd).1 (List.of_mem_zip hv).1,if_neg hk]
  simp
 | p::P,w::vs,i + 1,m,nd,h1,h2,hk=>by
  show bindC kindOf ((p,w)::P.zip vs) m x=_
  unfold bindC
  exact bindC_get (i:=i) (List.nodup_cons.mp nd).2 (by simpa using h1) (by simpa using h2) hk
def start (N:List Str) (vs:List V):St:=vs.map some++List.replicate (N.length - vs.length) none
def cxOf (CX:CXT) (P:Program) (w:World) (K:PySem.W.Frag) (mg:Str→Option Value) (base:Heap) (N:List Str) (qual:Str) (scope:Scope) (f:Addr) (cd:Value) (A:Around) (outer:List Env) (s:Shared) (H:Hp) (E:XK):Cx where
 prog:=P
 w:=w
 K:=K
 mg:=mg
 base:=base
 A:=A.deeper (envOfC qual scope s.heap.objs.size f cd)
 N:=N
 s₀:=s
 H₀:=H
 env:=envOfC qual scope s.heap.objs.size f cd
 outer:=outer
 stack:=envOfC qual scope s.heap.objs.size f cd::outer
 ex:=[]
 calm:=true
 fn:=fun _=>true
 pn:=[]
 xe:=fun e s'=>wpAny (model P w) (A.deeper (envOfC qual scope s.heap.objs.size f cd)) (leaving (envOfC qual scope s.heap.objs.size f cd) e) (fun _ s''=>CX outer H s E e s'') (fun e' s''=>CX outer H s E e' s'') s'
theorem cell_has {sc:Scope}{n:Nat}{x:Str}(h:sc.names.lookup x=some .cell):∃ c,(cellsFrom n sc.names []).lookup x=some c:=by
 have q:=PySem.W.cellsFrom_some sc.names n [] (.inl h)
 exact Option.isSome_iff_exists.mp q
theorem inv_start {CX:CXT}{P:Program}{w:World}{K:PySem.W.Frag}{mg:Str→Option Value}{base:Heap}{N ps:List Str}{qual:Str}{scope:Scope}{f:Addr}{cd:Value}{A:Around}{outer:List Env}{s s1:Shared}{H:Hp}{E:XK}{us:List Value}{vs:List V}
  (S:FnScope N ps scope) (hd:A.handled=none) (e0:Env0 P w K mg base A outer s H) (hl:vs.length=ps.length) (r:Vals vs us)
  (x:InCallC s s.heap.objs.size (bindL (envOfC qual scope s.heap.objs.size f cd).kindOf (ps.zip us) fun _=>none) (cellsFrom (s.heap.objs.size + 1) scope.names []) (bindC (envOfC qual scope s.heap.objs.size f cd).kindOf (ps.zip us) fun _=>none) s1):
  Inv (cxOf CX P w K mg base N qual scope f cd A outer s H E) [] (start N vs) H s1:=by
 have hpl:ps.length≤N.length:=by have:=congrArg List.length S.pre;rw [List.length_take] at this;omega
 obtain⟨h1,tk,rfl,hk⟩:=x.done
 have noA:∀ b:Addr,b ∉ (cxOf CX P w K mg base N qual scope f cd A outer s H E).ex:=fun b z=>absurd (show b∈([]:List Addr) from z) (by simp)
 refine⟨⟨e0.mod,S.kind,rfl,rfl,Nat.le_refl _,fun y z c h1 h2=>?_,fun y hy=>?_,fun y c _ h=>?_,fun _=>hd,Around.frames_deeper e0.frames,.inr ⟨rfl,rfl⟩,fun b z=>absurd z (noA b),e0.bs,e0.bsz,fun b _ _=>noA b,fun b z=>absurd z (noA b),e0.funs,e0.frf⟩,
  rfl,e0.bare,Un.kept hk,⟨_,x.toInCall.ns,fun i y v h1 h2 h3=>?_⟩,fun y c h=>⟨_,x.cell y c h⟩,e0.hok.fresh (Nat.le_refl _),fun y c h=>?_,fun p hp=>absurd (show p∈([]:List (Addr × Obj)) from hp) (by simp),e0.hok.kept hk,?_⟩
 ·exact name_of_addr x.apart (PySem.mem_of_lookup h1) (PySem.mem_of_lookup h2)
 ·have hy:scope.names.lookup y=some .cell∨scope.names.lookup y=some .free:=hy
  rcases hy with hy | hy
  ·exact cell_has hy
  ·exact absurd rfl (S.nofree _ (PySem.mem_of_lookup hy))
 ·exact Nat.le_of_lt (x.above y c (PySem.mem_of_lookup h))
 ·have hi:i < vs.length:=by
   unfold start at h2
   by_cases hi:i < vs.length
   ·exact hi
   ·rw [List.getElem?_append_right (by simpa using hi)] at h2
    rw [List.getElem?_replicate] at h2
    split at h2 <;> cases h2
  have ha:vs[i]?=some v:=by
   unfold start at h2
   rw [List.getElem?_append_left (by simpa using hi),List.getElem?_map] at h2
   cases e:vs[i]? with
   | none=>rw [e] at h2;cases h2
   | some a=>rw [e] at h2;cases h2;rfl
  obtain⟨u,hu,rv⟩:=r.get ha
  have hp:ps[i]?=some y:=by
   rw [← S.pre,List.getElem?_take_of_lt (by omega)];exact h1
  have ndP:ps.Nodup:=by rw [← S.pre];exact S.nd.sublist (List.take_sublist _ _)
  refine⟨u,rv,?_⟩
  rcases S.par y (List.mem_of_getElem? hp) with k | k
  ·exact .inl ⟨k,bindL_get ndP hp hu k⟩
  ·obtain⟨c,e⟩:=cell_has (n:=s.heap.objs.size + 1) k
   refine .inr ⟨.inl k,c,e,?_⟩
   have q:=x.cell y c e
   rw [bindC_get ndP hp hu (by show scope.names.lookup y≠_;rw [k];decide)] at q
   exact q
 ·exact e0.hok.fresh (Nat.le_of_lt (x.above y c (PySem.mem_of_lookup h)))
 ·unfold start
  show _=N.length
  rw [List.length_append,List.length_map,List.length_replicate]
  omega
theorem fn_of {CX:CXT}{P:Program}{w:World}{K:PySem.W.Frag}{mg:Str→Option Value}{base:Heap}{k:Nat}{f:Addr}{name qual:Str}{params:Arguments}{body:List Stmt}{scope:Scope}{dV kV doc pm cdv ct oc:Value}{an od:Option Addr}
  {osl:Array (Option Value)}{N ps:List Str}{sp:Sp}(lk:K.lookup f=some ⟨oc,od,.func (PySem.W.fnOf name qual params body scope dV kV doc pm an cdv ct),osl⟩) (hcd:PySem.W.codeIn K cdv qual=true) (S:FnScope N ps scope)
  (len:∀ vs H Q E,sp vs H Q E→vs.length=ps.length)
  (hbody:∀ (A:Around) (outer:List Env) (s:Shared) (H:Hp) (vs:List V) (Q:VK) (E:XK),Room k (A.deeper (envOfC qual scope s.heap.objs.size f cdv))→sp vs H Q E→
   ∃ t,PSs (cxOf CX P w K mg base N qual scope f cdv A outer s H E) body t∧t { nx:=fun _ H'=>Q .non H',rt:=Q } (start N vs) H):
  FnOk P w K mg base CX (k + 1) f (PySem.W.fnOf name qual params body scope dV kV doc pm an cdv ct) ps sp:=by
 refine⟨len,fun A outer s H args us vs Q E hr e0 hb r hsp=>?_⟩
 have hl:=len _ _ _ _ hsp
 have KX:K.In s.heap:=e0.mod.kin.keeps fun b o e=>(e0.bs b o e).1
 have lim:s.heap.NoLimit:=e0.mod.nolimit.keeps fun b o e=>(e0.bs b o e).1
 have hkind:∀ y∈ps.zip us,scope.names.lookup y.1=some .local∨(scope.names.lookup y.1=some .cell∧((cellsFrom (s.heap.objs.size + 1) scope.names []).lookup y.1).isSome=true):=fun⟨n,v⟩ hy=>by
  rcases S.par n (List.of_mem_zip hy).1 with q | q
  ·exact .inl q
  ·exact .inr ⟨q,PySem.W.cellsFrom_some _ _ _ (.inl q)⟩
 refine codeAny_call_function hr.depth (KX _ _ lk) rfl S.co S.gen rfl (PySem.W.codeRec_of KX hcd) (hb _ _ _ _ ?_)
 refine wpAny_newFunctionEnv_cells S.kind hkind fun env he s1 x=>?_
 subst he
 refine⟨lim.keeps x.toInCall.keep,codeAny_func ?_⟩
 obtain⟨t,ht,hq⟩:=hbody A outer s H vs Q E (hr.deeper _) hsp
 have I:Inv (cxOf CX P w K mg base N qual scope f cdv A outer s H E) [] (start N vs) H s1:=inv_start S hr.hd e0 hl r x
 refine wpAny_mono (ht [] s1 (start N vs) H _ I hq) (fun fl s' hs=>?_) fun e s' hs=>hs
 have fin:∀ {σ':St}{H':Hp}{v:V}{u:Value},Inv (cxOf CX P w K mg base N qual scope f cdv A outer s H E) [] σ' H' s'→RelV v u→Q v H'→CE outer P w H s Q u s':=
  fun{σ' H' v u} J rv q=>⟨v,H',J.os,J.bare,J.base,J.hok,rv,q⟩
 cases fl with
 | ret u=>
  obtain⟨v,σ',H',J,rv,q⟩:=hs
  exact fin J rv q
 | next=>
  obtain⟨σ',H',J,q⟩:=hs
  exact fin (v:=V.non) (u:=Value.none) J rfl q
 | brk=>
  obtain⟨_,_,_,q⟩:=hs
  exact False.elim q
 | cont=>
  obtain⟨_,_,_,q⟩:=hs
  exact False.elim q
end L2
namespace L2
open PySem PySem.Spec PyProof.Rows
section
variable {X:Cx}{x:Str}{p pos:Pos}{e:Expr}{es:List Expr}{t:TA}{id T:String}{r:List V→Hp→VK→Prop}
def tCB (r:List V→Hp→VK→Prop) (t:TA):TE:=fun σ H Q=>t σ H fun vs H1=>r vs H1 Q
theorem pe_callB (hc:CallR X (.builtin id) r) (hg:Gl X x) (hm:X.mg x=none) (hv:bootBuiltins x=some (.builtin id)) (ha:PA X (e::es) t) (hn:x≠"__name__":=by decide) (hdb:(x == ("__debug__":Str))=false:=by decide)
  (he:starEach (e::es) X.env=(false,eval e X.env)::starEach es X.env:=by rfl) (hpl:(backTo pos (starEach es X.env)).any (·.1)=false:=by rfl):PE X (.Call (.Name x p) (e::es) [] pos) (tCB r t):=by
 intro pins s σ H Q I h
 refine wpAny_Call_Name_kw (ld_blt I hg hm hv ?_ hn hdb)
 exact PyProof.Rows.callWith_builtin1 (thn (ha pos pins s σ H _ I h) fun us s1 ⟨vs,H1,I1,r1,q1⟩=>hc pins s1 σ H1 vs us Q I1 r1 q1) he hpl
theorem pe_callTy (hc:CallR X (.type T) r) (hg:Gl X x) (hm:X.mg x=none) (hv:bootBuiltins x=some (.type T)) (ha:PA X (e::es) t) (hn:x≠"__name__":=by decide) (hdb:(x == ("__debug__":Str))=false:=by decide)
  (he:starEach (e::es) X.env=(false,eval e X.env)::starEach es X.env:=by rfl) (hpl:(backTo pos (starEach es X.env)).any (·.1)=false:=by rfl):PE X (.Call (.Name x p) (e::es) [] pos) (tCB r t):=by
 intro pins s σ H Q I h
 refine wpAny_Call_Name_kw (ld_blt I hg hm hv ?_ hn hdb)
 exact PyProof.Rows.callWith_type1 (thn (ha pos pins s σ H _ I h) fun us s1 ⟨vs,H1,I1,r1,q1⟩=>hc pins s1 σ H1 vs us Q I1 r1 q1) he hpl
end
end L2
namespace HT
open PySem PyProof.Rows
def lexLt:List Int→List Int→Bool
 | [],[]=>false
 | [],_::_=>true
 | _::_,[]=>false
 | x::xs,y::ys=>if x=y then lexLt xs ys else decide (x < y)
theorem lexLt_cons (x y:Int) (xs ys:List Int):lexLt (x::xs) (y::ys)=if x=y then lexLt xs ys else decide (x < y):=rfl
theorem lexLt_nil_nil:lexLt [] []=false:=rfl
theorem lexLt_nil_cons (y:Int) (ys:List Int):lexLt [] (y::ys)=true:=rfl
theorem lexLt_cons_nil (x:Int) (xs:List Int):lexLt (x::xs) []=false:=rfl
theorem eqAt_int (A:Around) (s:Shared) (a:Int) (t:Tok) (c:Int) (u:Tok):∃ e,SeqAt.EqAt A s (.int a t) (.int c u) e∧(e=true↔a=c):=
 ⟨(a == c),SeqAt.EqAt.int_int a t c u,by simp⟩
theorem rcLt_int (A:Around) (s:Shared) (a:Int) (t:Tok) (c:Int) (u:Tok) (prog:Program) (w:World) (E:Value→Shared→Prop) (Q:Value→Shared→Prop) (h:Q (.bool (decide (a < c))) s):
  wpAny (model prog w) A (richCompare .Lt (.int a t) (.int c u)) Q E s:=
 (PyProof.Rows.lt_int h:wpAny (model prog w) A (compareOp .Lt (.int a t) (.int c u)) Q E s)
section
open PySem.SeqAt
open PySem.AutoSeq1 (wpAny_loadPart')
open PySem.MeetsSeq PySem.MeetsSeq2 PySem.MeetsSeq3
theorem tuple_lt_ints (l b:Addr) (items items2:Array Value) (n n2:Nat) (dd dd2:Option Addr) (sl sl2:Array (Option Value)) (ns ms:List Int) (hi:IntsAre items.toList ns) (hj:IntsAre items2.toList ms):
  Meets (Builtin.«tuple.__lt__» ⟨[.ref l,.ref b],[]⟩)
   (fun _ R s=>s.heap.get? l=some { cls:=.type "tuple",dict:=dd,data:=.seq items n,slots:=sl }∧s.heap.get? b=some { cls:=.type "tuple",dict:=dd2,data:=.seq items2 n2,slots:=sl2 }∧
    R (.ok (.ret (.bool (lexLt ns ms)))) s):=
 .of_wp fun prog w A R s h=>by
  obtain⟨hp,g,d,tk,os⟩:=s;obtain⟨hl,hb,h⟩:=h
  have f2:=AutoSeq1.sub_tuple_tuple
  have z1:items.size=ns.length:=by rw [← hi.length];simp
  have z2:items2.size=ms.length:=by rw [← hj.length];simp
  wp_walk using wpAny_loadPart' hl,wpAny_loadPart' hb,wpAny_forIn_list _ (fun rest b s'=>b.1=none∧s'=⟨hp,g,d,tk,os⟩∧∃ (vs ws:List Value) (ns' ms':List Int),rest=vs.zip ws∧
   IntsAre vs ns'∧IntsAre ws ms'∧ns'.length + items2.size=ms'.length + items.size∧R (.ok (.ret (.bool (lexLt ns' ms')))) ⟨hp,g,d,tk,os⟩) _
  case turn=>
   rintro⟨y,x⟩ rest b s' ⟨hb',rfl,vs,ws,ns',ms',hz,hvi,hwi,hlen,hR⟩
   cases hvi with
   | nil=>rw [List.zip_nil_left] at hz;cases hz
   | cons a t hvi'=>
    cases hwi with
    | nil=>rw [List.zip_nil_right] at hz;cases hz
    | cons c u hwi'=>
     rw [List.zip_cons_cons] at hz
     injection hz with hyx hrest
     injection hyx with hy hx
     subst hy hx
     rw [lexLt_cons] at hR
     simp only [List.length_cons] at hlen
     obtain⟨e,he,hiff⟩:=eqAt_int A.in1 ⟨hp,g,d,tk,os⟩ a t c u
     refine wpAny_bind (he prog w _ _ ?_)
     cases e with
     | true=>
      rw [if_pos (hiff.mp rfl)] at hR
      wp_walk
      exact⟨rfl,rfl,_,_,_,_,hrest,hvi',hwi',by omega,hR⟩
     | false=>
      rw [if_neg (fun q=>absurd (hiff.mpr q) Bool.false_ne_true)] at hR
      have hri:=rcLt_int A.in1 ⟨hp,g,d,tk,os⟩ a t c u prog w
      wp_walk using hri
      exact⟨_,rfl,by simpa using hR⟩
  case fin=>
   rintro⟨b1,b2⟩ s' ⟨hb',rfl,vs,ws,ns',ms',hz,hvi,hwi,hlen,hR⟩
   simp only at hb'
   subst hb'
   have hv:lexLt ns' ms'=decide (items.size < items2.size):=by
    cases hvi with
    | nil=>
     cases hwi with
     | nil=>
      simp only [List.length_nil] at hlen
      rw [lexLt_nil_nil]
      exact(decide_eq_false (by omega)).symm
     | cons c u hw=>
      simp only [List.length_nil,List.length_cons] at hlen
      rw [lexLt_nil_cons]
      exact(decide_eq_true (by omega)).symm
    | cons a t hv=>
     cases hwi with
     | nil=>
      simp only [List.length_nil,List.length_cons] at hlen
      rw [lexLt_cons_nil]
      exact(decide_eq_false (by omega)).symm
     | cons c u hw=>
      rw [List.zip_cons_cons] at hz
      cases hz
   rw [hv] at hR
   wp_walk
   exact⟨_,rfl,by simpa [Builtin.Tuple.tupleCompareSizes] using hR⟩
  case h=>
   exact⟨rfl,rfl,items.toList,items2.toList,ns,ms,rfl,hi,hj,by omega,h⟩
end
section
variable {prog:Program}{w:World}{A:Around}{E:Value→Shared→Prop}{s:Shared}
theorem lt_tupInts {l b:Addr}{items items2:Array Value}{ns ms:List Int}{Q:Value→Shared→Prop}(hl:IsTup s.heap l items) (hb:IsTup s.heap b items2) (hi:IntsAre items.toList ns) (hj:IntsAre items2.toList ms)
  (hu:A.units < cLine) (h:Q (.bool (lexLt ns ms)) s):wpAny (model prog w) A (compareOp .Lt (.ref l) (.ref b)) Q E s:=by
 obtain⟨⟨cls,dd,data,sl⟩,ho,hc,n,hd⟩:=id hl
 obtain⟨⟨cls2,dd2,data2,sl2⟩,ho2,hc2,n2,hd2⟩:=id hb
 simp only at hc hd hc2 hd2
 subst hc hd hc2 hd2
 exact richCompare_meets_room (op:=.Lt) ⟨_,ho,rfl⟩ ⟨_,ho2,rfl⟩ PySem.F.slot_tuple_lt PySem.F.entry_tuple_lt (PySem.F.args_tuple_lt_2 _ _) (tuple_lt_ints l b items items2 n n2 dd dd2 sl sl2 ns ms hi hj)
  ⟨ho,ho2,show Value.bool (lexLt ns ms)≠Value.notImplemented∧Q (.bool (lexLt ns ms)) s from⟨(fun x=>nomatch x),h⟩⟩ hu
def sIx (n d:Nat):Option Int→Nat
 | none=>d
 | some v=>if v < 0 then(v + (n:Int)).toNat else min v.toNat n
theorem sIx_nat (n d k:Nat):sIx n d (some (k:Int))=min k n:=by
 show (if (k:Int) < 0 then((k:Int) + (n:Int)).toNat else min (k:Int).toNat n)=min k n
 rw [if_neg (by omega),Int.toNat_natCast]
end
end HT
namespace L2
open PySem PySem.Spec PyProof.Rows
abbrev TO:=St→Hp→(Option Int→Hp→Prop)→Prop
def PO (X:Cx) (e:Option Expr) (t:TO):Prop:=
 ∀ (pins:List (Addr × Obj)) (s:Shared) (σ:St) (H:Hp) (Q:Option Int→Hp→Prop),Inv X pins σ H s→t σ H Q→
  wpAny (model X.prog X.w) X.A (evalPart e X.env) (fun u s'=>∃ o H',Inv X pins σ H' s'∧IsPart u o∧Q o H') X.xe s
def tNoPart:TO:=fun _ H Q=>Q none H
def tPart (t:TE):TO:=fun σ H Q=>t σ H fun x H1=>∃ i,x=.int i∧Q (some i) H1
theorem intsAre_of {ns:List Int}:∀ {us:List Value},Vals (ns.map V.int) us→IntsAre us ns:=by
 induction ns with
 | nil=>intro us r;rw [List.map_nil] at r;cases r;exact .nil
 | cons n ns ih=>
  intro us r
  rw [List.map_cons] at r
  cases r with
  | cons r1 r2=>
   obtain⟨t,e⟩:=r1
   subst e
   exact .cons n t (ih r2)
section
variable {X:Cx}{e:Expr}{te:TE}{lo hi:Option Expr}{tl th:TO}{pos p2:Pos}
theorem po_none:PO X none tNoPart:=by
 intro pins s σ H Q I h
 rw [evalPart_none]
 exact wpAny_pure ⟨none,H,I,.none,h⟩
theorem po_some (h:PE X e te):PO X (some e) (tPart te):=by
 intro pins s σ H Q I hw
 rw [evalPart_some]
 refine thn (h pins s σ H _ I hw) fun u s1 ⟨x,H1,I1,r1,q1⟩=>?_
 obtain⟨i,rfl,q⟩:=q1
 obtain⟨t,rfl⟩:=r1
 exact⟨some i,H1,I1,.int i t,q⟩
def SlR (X:Cx) (r:V→Option Int→Option Int→Hp→VK→Prop):Prop:=
 ∀ (pins:List (Addr × Obj)) (s:Shared) (σ:St) (H:Hp) (x:V) (v vl vu:Value) (lo hi:Option Int) (sl:Addr) (Q:VK),Inv X pins σ H s→RelV x v→s.heap.IsSliceOf sl vl vu .none→IsPart vl lo→IsPart vu hi→r x lo hi H Q→
  ∃ T id,typeLookup (.type T) "__getitem__"=pure (some (.builtin id))∧s.TypeIs v T∧wpAny (model X.prog X.w) X.A (getItem v (.ref sl)) (EP X pins σ Q) X.xe s
def tSl (r:V→Option Int→Option Int→Hp→VK→Prop) (te:TE) (tl th:TO):TE:=fun σ H Q=>te σ H fun x H1=>tl σ H1 fun l H2=>th σ H2 fun u H3=>r x l u H3 Q
theorem pe_slice {r:V→Option Int→Option Int→Hp→VK→Prop}(hr:SlR X r) (he:PE X e te) (hl:PO X lo tl) (hu:PO X hi th):PE X (.Subscript e (.Slice lo hi none p2) pos) (tSl r te tl th):=by
 intro pins s σ H Q I h
 refine Subscript_ (thn (he pins s σ H _ I h) fun v s1 ⟨x,H1,I1,r1,q1⟩=>?_)
 refine wpAny_Slice (thn (hl pins s1 σ H1 _ I1 q1) fun vl s2 ⟨l,H2,I2,pl,q2⟩=>thn (hu pins s2 σ H2 _ I2 q2) fun vu s3 ⟨u,H3,I3,pu,q3⟩=>?_)
 rw [evalPart_none]
 refine wpAny_pure ?_
 have I4:Inv X pins σ H3 { s3 with heap:=s3.heap.push { cls:=.type "slice",data:=.fields #[vl,vu,.none] } }:=I3.kept (t':=s3.toks) fun b ob q=>Heap.get?_push_of_some _ q
 obtain⟨T,id,hT,ht,hg⟩:=hr pins { s3 with heap:=s3.heap.push { cls:=.type "slice",data:=.fields #[vl,vu,.none] } } σ H3 x v vl vu l u s3.heap.objs.size Q I4 r1 (Heap.IsSliceOf.new ..) pl pu q3
 show wpAny (model X.prog X.w) X.A (subscriptTail e (.Slice lo hi none p2) v (.ref s3.heap.objs.size)) (EP X pins σ Q) X.xe { s3 with heap:=s3.heap.push { cls:=.type "slice",data:=.fields #[vl,vu,.none] } }
 exact tail_any (ops:=[.ref s3.heap.objs.size,v]) ht hT hg (by with_unfolding_all rfl)
def cutV (xs:List V) (lo hi:Option Int):List V:=(xs.drop (HT.sIx xs.length 0 lo)).take (HT.sIx xs.length xs.length hi - HT.sIx xs.length 0 lo)
theorem cutV_length (xs:List V) (lo hi:Option Int):(cutV xs lo hi).length≤xs.length:=by
 unfold cutV
 rw [List.length_take,List.length_drop]
 omega
def rLtT (K:PySem.W.Frag):R2:=fun x y H Q=>∃ a b ns ms,x=.ref a∧y=.ref b∧SqT K H a (ns.map V.int)∧SqT K H b (ms.map V.int)∧Q (.bl (HT.lexLt ns ms)) H
theorem op_ltT (hu:X.A.units < cLine):OpR X (compareOp .Lt) (rLtT X.K):=by
 intro pins s σ H x y v u Q I rx ry h
 obtain⟨a,b,ns,ms,rfl,rfl,ha,hb,q⟩:=h
 cases rx
 cases ry
 obtain⟨its,r1,p1,_⟩:=I.tuple ha
 obtain⟨its2,r2,p2,_⟩:=I.tuple hb
 have i1:IntsAre its.toArray.toList ns:=intsAre_of r1
 have i2:IntsAre its2.toArray.toList ms:=intsAre_of r2
 exact HT.lt_tupInts p1 p2 i1 i2 hu ⟨.bl (HT.lexLt ns ms),H,I,rfl,q⟩
end
end L2
namespace L2
open PySem PySem.Spec PyProof.Rows
def ixN (n:Nat) (i:Int):Option Nat:=if 0≤i then(if i < n then some i.toNat else none) else if -(n:Int)≤i then some (i + n).toNat else none
def atI {α:Type}(xs:List α) (i:Int):Option α:=(ixN xs.length i).bind fun j=>xs[j]?
theorem ixN_seq {n:Nat}{i:Int}{j:Nat}(h:ixN n i=some j):seqIndex? i n=some j∧j < n∧-(n:Int)≤i∧i < n:=by
 unfold ixN at h
 by_cases h0:0≤i
 ·rw [if_pos h0] at h
  by_cases h1:i < n
  ·rw [if_pos h1] at h
   have e:i.toNat=j:=Option.some.inj h
   exact⟨by rw [seqIndex_of h0 h1,e],by omega,by omega,h1⟩
  ·rw [if_neg h1] at h;cases h
 ·rw [if_neg h0] at h
  by_cases h1:-(n:Int)≤i
  ·rw [if_pos h1] at h
   have e:(i + n).toNat=j:=Option.some.inj h
   exact⟨by rw [seqIndex_neg (by omega) h1,e],by omega,h1,by omega⟩
  ·rw [if_neg h1] at h;cases h
theorem atI_get {α:Type}{xs:List α}{i:Int}{v:α}(h:atI xs i=some v):∃ j,seqIndex? i xs.length=some j∧xs[j]?=some v∧j < xs.length∧-(xs.length:Int)≤i∧i < xs.length:=by
 unfold atI at h
 cases e:ixN xs.length i with
 | none=>rw [e] at h;cases h
 | some j=>
  rw [e] at h
  obtain⟨h1,h2,h3,h4⟩:=ixN_seq e
  exact⟨j,h1,h,h2,h3,h4⟩
theorem atI_nat {α:Type}{xs:List α}{j:Nat}{v:α}(h:xs[j]?=some v):atI xs (j:Int)=some v:=by
 have hj:j < xs.length:=(List.getElem?_eq_some_iff.mp h).1
 have e:ixN xs.length (j:Int)=some j:=by
  unfold ixN
  rw [if_pos (by omega),if_pos (by omega)];simp
 unfold atI;rw [e];exact h
def PlainIx (b:Expr):Prop:=∀ o i,subscripted b false o i=operate [o,i] (getItem o i)
def IxR (X:Cx) (r:R2):Prop:=
 ∀ (value slice:Expr) (pins:List (Addr × Obj)) (s:Shared) (σ:St) (H:Hp) (x y:V) (v u:Value) (Q:VK),Inv X pins σ H s→RelV x v→RelV y u→r x y H Q→
  subscripted slice false v u=operate [v,u] (getItem v u)→wpAny (model X.prog X.w) X.A (subscriptTail value slice v u) (EP X pins σ Q) X.xe s
def MtR (X:Cx) (id:String) (r:V→List V→Hp→VK→Prop):Prop:=
 ∀ (pins:List (Addr × Obj)) (s:Shared) (σ:St) (H:Hp) (x:V) (xs:List V) (v:Value) (us:List Value) (Q:VK),Inv X pins σ H s→RelV x v→Vals xs us→r x xs H Q→
  wpAny (model X.prog X.w) X.A (call (.builtin id) (v::us)) (EP X pins σ Q) X.xe s
section
variable {X:Cx}{a b:Expr}{ta tb:TE}{pos:Pos}
theorem pe_ix {r:R2}(hr:IxR X r) (ha:PE X a ta) (hb:PE X b tb) (hs:PlainIx b):PE X (.Subscript a b pos) (tOp r ta tb):=by
 intro pins s σ H Q I h
 exact Subscript_ (binT ha hb I h fun v u s2 x y H2 I2 rx ry q=>hr a b pins s2 σ H2 x y v u Q I2 rx ry q (hs _ _))
def rIxL (K:PySem.W.Frag):R2:=fun x y H Q=>∃ p xs i v,x=.ref p∧y=.int i∧SqL K H p xs∧atI xs i=some v∧Q v H
def rIxT (K:PySem.W.Frag):R2:=fun x y H Q=>∃ p xs i v,x=.ref p∧y=.int i∧SqT K H p xs∧atI xs i=some v∧Q v H
def rIxS:R2:=fun x y H Q=>∃ z i c,x=.str z∧y=.int i∧z.length≤sizeLine∧atI z.cps.toList i=some c∧Q (.str ⟨#[c]⟩) H
theorem ix_list:IxR X (rIxL X.K):=by
 intro value slice pins s σ H x y v u Q I rx ry h hs
 obtain⟨p,xs,i,z,rfl,rfl,hq,he,q⟩:=h
 cases rx
 obtain⟨t,rfl⟩:=ry
 obtain⟨its,r,pl,hz⟩:=I.list hq
 obtain⟨j,h1,h2,h3,h4,h5⟩:=atI_get he
 obtain⟨w,ew,rw'⟩:=r.get h2
 have hl:=r.length
 have hn:=line63
 have fin:EP X pins σ Q w s:=⟨z,H,I,rw',q⟩
 by_cases h0:0≤i
 ·have hj:i.toNat=j:=by
   rw [seqIndex_of h0 h5] at h1
   exact Option.some.inj h1
  exact item_listR pl.isList h0 (by omega) (by rw [hj];simpa using ew) fin hs
 ·have hj:(i + (its.toArray.size:Int)).toNat=j:=by
   rw [seqIndex_neg (by omega) h4] at h1
   rw [List.size_toArray,← hl]
   exact Option.some.inj h1
  exact subscriptTail_builtinR (x:=w) pl.isList.typeIs slot_list_getitem.lookup
   (wpAny_getItem_list_neg (Q:=fun r s'=>r=w∧EP X pins σ Q r s') pl.isList (by omega) (by rw [List.size_toArray] <;> omega) (by omega) (by rw [hj];simpa using ew) ⟨rfl,fin⟩) hs
theorem ix_tup:IxR X (rIxT X.K):=by
 intro value slice pins s σ H x y v u Q I rx ry h hs
 obtain⟨p,xs,i,z,rfl,rfl,hq,he,q⟩:=h
 cases rx
 obtain⟨t,rfl⟩:=ry
 obtain⟨its,r,pl,hz⟩:=I.tuple hq
 obtain⟨j,h1,h2,h3,h4,h5⟩:=atI_get he
 obtain⟨w,ew,rw'⟩:=r.get h2
 have hl:=r.length
 have hn:=line63
 have fin:EP X pins σ Q w s:=⟨z,H,I,rw',q⟩
 exact subscriptTail_builtinR (x:=w) pl.typeIs slot_tuple_getitem.lookup
  (getItem_tuple (j:=j) (Q:=fun r s'=>r=w∧EP X pins σ Q r s') pl (by omega) (by omega) (by rw [List.size_toArray,← hl];exact h1) (by simpa using ew) ⟨rfl,fin⟩) hs
theorem ix_str:IxR X rIxS:=by
 intro value slice pins s σ H x y v u Q I rx ry h hs
 obtain⟨z,i,c,rfl,rfl,hz,he,q⟩:=h
 obtain⟨t,rfl⟩:=rx
 obtain⟨t',rfl⟩:=ry
 obtain⟨j,h1,h2,h3,h4,h5⟩:=atI_get he
 have hl:z.cps.toList.length=z.length:=by simp [Str.length]
 rw [hl] at h1 h4 h5
 have hn:=line63
 exact tail_any (typeIs_str s z t) slot_str_getitem.lookup (getItem_str (c:=c) (by
  have e1:decide (i < -(2 ^ 63:Int))=false:=decide_eq_false (by omega)
  have e2:decide (i ≥ 2 ^ 63)=false:=decide_eq_false (by omega)
  rw [e1,e2,Bool.or_false]) (by rw [h1];simpa using h2) ⟨.str ⟨#[c]⟩,H,I.tok _,⟨_,rfl⟩,q⟩) hs
theorem mapSeq_set (its:List Value) (n j:Nat) (u:Value):Obj.mapSeq (·.setIfInBounds j u) { cls:=.type "list",data:=.seq its.toArray n }={ cls:=.type "list",data:=.seq (its.set j u).toArray n }:=by
 simp [Obj.mapSeq]
theorem Inv.lst {pins:List (Addr × Obj)}{σ:St}{H:Hp}{s:Shared}{p:Addr}{xs:List V}(I:Inv X pins σ H s) (h:H p=some (.lst xs)):
  ∃ (its:List Value) (n:Nat),Vals xs its∧s.heap.get? p=some { cls:=.type "list",data:=.seq its.toArray n }∧xs.length≤sizeLine:=by
 obtain⟨z,its,n,r,e⟩:=I.hok p _ h
 exact⟨its,n,r,e,z⟩
theorem Inv.lstUpd {pins:List (Addr × Obj)}{σ:St}{H:Hp}{s:Shared}{p:Addr}{xs ys:List V}{its its':List Value}{n n':Nat}{f:Obj→Obj}(I:Inv X pins σ H s) (h:H p=some (.lst xs))
  (ho:s.heap.get? p=some { cls:=.type "list",data:=.seq its.toArray n }) (hf:f { cls:=.type "list",data:=.seq its.toArray n }={ cls:=.type "list",data:=.seq its'.toArray n' }) (r:Vals ys its') (hz:ys.length≤sizeLine) (t:Nat):
  Inv X pins σ (upd H p (.lst ys)) { s with heap:=s.heap.update p f,toks:=t }:=by
 have e:(s.heap.update p f).get? p=some { cls:=.type "list",data:=.seq its'.toArray n' }:=by
  rw [Heap.get?_update_self f ho (by rw [hf] <;> rfl),hf]
 refine I.write (x:=p) (e:=p) (by rw [h];trivial) (.inl rfl) (fun b u hb q=>(Heap.get?_update_other _ _ (Ne.symm hb)).trans q) ⟨_,e⟩ ?_
 exact⟨hz,its',n',r,e⟩
def rSetL:V→V→V→Hp→(Hp→Prop)→Prop:=fun o i v H Q=>∃ p xs k j,o=.ref p∧i=.int k∧H p=some (.lst xs)∧ixN xs.length k=some j∧Q (upd H p (.lst (xs.set j v)))
theorem set_list:PSet X rSetL:=by
 intro pins s σ H o i v ov iv u Q I ro ri rv h
 obtain⟨p,xs,k,j,rfl,rfl,hp,hj,q⟩:=h
 cases ro
 obtain⟨t,rfl⟩:=ri
 obtain⟨its,n,r,ho,hz⟩:=I.lst hp
 obtain⟨h1,h2,h3,h4⟩:=ixN_seq hj
 have hl:=r.length
 have hn:=line63
 have I':Inv X pins σ (upd H p (.lst (xs.set j v))) { s with heap:=s.heap.update p (Obj.mapSeq (·.setIfInBounds j u)) }:=
  I.lstUpd hp ho (mapSeq_set its n j u) (r.set rv j) (by rw [List.length_set];exact hz) s.toks
 by_cases h0:0≤k
 ·have hk:k.toNat=j:=by
   rw [seqIndex_of h0 h4] at h1
   exact Option.some.inj h1
  exact PySem.W.ki_setAt ho h0 (by omega) (by rw [List.size_toArray,← hl];exact h4) (by rw [hk];exact⟨_,I',q⟩)
 ·have hk:(k + (its.toArray.size:Int)).toNat=j:=by
   rw [seqIndex_neg (by omega) h3] at h1
   rw [List.size_toArray,← hl]
   exact Option.some.inj h1
  exact PySem.W.ki_setBack ho (by omega) (by rw [List.size_toArray,← hl];exact h3) (by omega) (by rw [hk];exact⟨_,I',q⟩)
theorem slice_bounds (lo hi:Option Int) (n:Nat):(sliceBounds lo hi none n).1=((HT.sIx n 0 lo:Nat):Int)∧(sliceBounds lo hi none n).2.1=((HT.sIx n n hi:Nat):Int)∧(sliceBounds lo hi none n).2.2=1:=by
 refine⟨?_,?_,rfl⟩
 ·cases lo with
  | none=>simp [sliceBounds,HT.sIx]
  | some i=>
   simp only [sliceBounds,HT.sIx,Option.getD_none,show (1:Int) > 0 by decide,if_true]
   by_cases h:i < 0
   ·simp only [h,if_true] <;> omega
   ·simp only [h,if_false] <;> omega
 ·cases hi with
  | none=>simp [sliceBounds,HT.sIx]
  | some i=>
   simp only [sliceBounds,HT.sIx,Option.getD_none,show (1:Int) > 0 by decide,if_true]
   by_cases h:i < 0
   ·simp only [h,if_true] <;> omega
   ·simp only [h,if_false] <;> omega
theorem slicePick_cut (its:List Value) (lo hi:Option Int):slicePick its.toArray lo hi none=((its.drop (HT.sIx its.length 0 lo)).take (HT.sIx its.length its.length hi - HT.sIx its.length 0 lo)).toArray:=by
 obtain⟨h1,h2,h3⟩:=slice_bounds lo hi its.toArray.size
 unfold slicePick
 rw [h1,h2,h3]
 simp only [sliceRange_one,pick_run,List.size_toArray] <;> rfl
def rSlL (K:PySem.W.Frag):V→Option Int→Option Int→Hp→VK→Prop:=fun x lo hi H Q=>∃ a xs,x=.ref a∧SqL K H a xs∧∀ p,H p=none→Q (.ref p) (upd H p (.lst (cutV xs lo hi)))
theorem sl_list:SlR X (rSlL X.K):=by
 intro pins s σ H x v vl vu lo hi sl Q I rx hs pl pu h
 obtain⟨a,xs,rfl,hx,q⟩:=h
 cases rx
 obtain⟨its,r,ht,hz⟩:=I.list hx
 have hlen:=r.length
 refine⟨"list",_,slot_list_getitem.lookup,ht.isList.typeIs,?_⟩
 refine wpAny_getItem_list_slice ht.isList hs pl pu .none (by simp) ?_ (by rw [List.size_toArray] <;> omega)
 rw [slicePick_cut,← hlen]
 refine⟨.ref s.heap.objs.size,_,I.laid (t':=s.toks) (o:=.lst (cutV xs lo hi)) (fun b ob q=>Heap.get?_push_of_some _ q) (Nat.le_refl _) ?_,rfl,q _ (I.hok.fresh (Nat.le_refl _))⟩
 exact⟨Nat.le_trans (cutV_length xs lo hi) hz,_,0,(r.drop (HT.sIx xs.length 0 lo)).take (HT.sIx xs.length xs.length hi - HT.sIx xs.length 0 lo),Heap.get?_push_size _ rfl⟩
def flatV:V→Bool
 | .non=>true
 | .bl _=>true
 | .int _=>true
 | .str _=>true
 | _=>false
def eqV:V→V→Bool
 | .non,.non=>true
 | .bl a,.bl b=>a == b
 | .bl a,.int b=>(if a then 1 else 0) == b
 | .int a,.bl b=>a == (if b then 1 else 0)
 | .int a,.int b=>a == b
 | .str a,.str b=>a == b
 | _,_=>false
theorem eqAt_V {A:Around}{s:Shared}{y x:V}{u v:Value}(ry:RelV y u) (rx:RelV x v) (fy:flatV y=true) (fx:flatV x=true):SeqAt.EqAt A s u v (eqV y x):=by
 cases y with
 | non=>
  cases ry
  cases x with
  | non=>cases rx;exact SeqAt.EqAt.same _
  | bl b=>cases rx;exact SeqAt.EqAt.none_bool b
  | int b=>obtain⟨t,rfl⟩:=rx;exact SeqAt.EqAt.none_int b t
  | str b=>obtain⟨t,rfl⟩:=rx;exact SeqAt.EqAt.none_str b t
  | _=>exact absurd (show false=true from fx) Bool.false_ne_true
 | bl a=>
  cases ry
  cases x with
  | non=>cases rx;exact SeqAt.EqAt.bool_none a
  | bl b=>cases rx;exact SeqAt.EqAt.bool_bool a b
  | int b=>obtain⟨t,rfl⟩:=rx;exact SeqAt.EqAt.bool_int a b t
  | str b=>obtain⟨t,rfl⟩:=rx;exact SeqAt.EqAt.bool_str a b t
  | _=>exact absurd (show false=true from fx) Bool.false_ne_true
 | int a=>
  obtain⟨t',rfl⟩:=ry
  cases x with
  | non=>cases rx;exact SeqAt.EqAt.int_none a t'
  | bl b=>cases rx;exact SeqAt.EqAt.int_bool a t' b
  | int b=>obtain⟨t,rfl⟩:=rx;exact SeqAt.EqAt.int_int a t' b t
  | str b=>obtain⟨t,rfl⟩:=rx;exact SeqAt.EqAt.int_str a t' b t
  | _=>exact absurd (show false=true from fx) Bool.false_ne_true
 | str a=>
  obtain⟨t',rfl⟩:=ry
  cases x with
  | non=>cases rx;exact SeqAt.EqAt.str_none a t'
  | bl b=>cases rx;exact SeqAt.EqAt.str_bool a t' b
  | int b=>obtain⟨t,rfl⟩:=rx;exact SeqAt.EqAt.str_int a t' b t
  | str b=>obtain⟨t,rfl⟩:=rx;exact SeqAt.EqAt.str_str a t' b t
  | _=>exact absurd (show false=true from fx) Bool.false_ne_true
 | _=>exact absurd (show false=true from fy) Bool.false_ne_true
def eqU (x:V) (u:Value):Bool:=match u with
 | .none=>eqV .non x
 | .bool b=>eqV (.bl b) x
 | .int i _=>eqV (.int i) x
 | .str z _=>eqV (.str z) x
 | _=>false
theorem eqU_of {x y:V}{u:Value}(r:RelV y u) (f:flatV y=true):eqU x u=eqV y x:=by
 cases y with
 | non=>cases r;rfl
 | bl b=>cases r;rfl
 | int i=>obtain⟨t,rfl⟩:=r;rfl
 | str z=>obtain⟨t,rfl⟩:=r;rfl
 | _=>exact absurd (show false=true from f) Bool.false_ne_true
theorem any_eqU {x:V}:∀ {xs:List V}{us:List Value},Vals xs us→xs.all flatV=true→us.any (eqU x)=xs.any fun y=>eqV y x
 | _,_,.nil,_=>rfl
 | y::xs,u::us,.cons r t,f=>by
  rw [List.all_cons,Bool.and_eq_true] at f
  rw [List.any_cons,List.any_cons,eqU_of r f.1,any_eqU t f.2]
theorem mem_eqAt {A:Around}{s:Shared}{x:V}{v:Value}(rx:RelV x v) (fx:flatV x=true):∀ {xs:List V}{us:List Value},Vals xs us→xs.all flatV=true→∀ u∈us,SeqAt.EqAt A s u v (eqU x u)
 | _,_,.nil,_=>fun u hu=>by cases hu
 | y::xs,u::us,.cons r t,f=>fun u' hu=>by
  rw [List.all_cons,Bool.and_eq_true] at f
  rcases List.mem_cons.mp hu with rfl | hu
  ·rw [eqU_of r f.1];exact eqAt_V r rx f.1 fx
  ·exact mem_eqAt rx fx t f.2 u' hu
def inV (x:V) (xs:List V):Bool:=xs.any fun y=>eqV y x
def rIn (K:PySem.W.Frag) (neg:Bool):R2:=fun x y H Q=>∃ p xs,y=.ref p∧(SqL K H p xs∨SqT K H p xs)∧flatV x=true∧xs.all flatV=true∧Q (.bl (if neg then !inV x xs else inV x xs)) H
theorem op_in_seq:OpR X (compareOp .In) (rIn X.K false):=by
 intro pins s σ H x y v u Q I rx ry h
 obtain⟨p,xs,rfl,hq,fx,fs,q⟩:=h
 cases ry
 rcases hq with hq | hq
 ·obtain⟨its,r,pl,hz⟩:=I.list hq
  refine SeqAt.in_listAt (eqU x) pl.isList (fun w hw=>mem_eqAt rx fx r fs w (by simpa using hw)) ⟨.bl _,H,I,rfl,?_⟩
  rw [show its.toArray.any (eqU x)=its.any (eqU x) by simp,any_eqU r fs]
  exact q
 ·obtain⟨its,r,pl,hz⟩:=I.tuple hq
  refine SeqAt.in_tupleAt (eqU x) pl (fun w hw=>mem_eqAt rx fx r fs w (by simpa using hw)) ⟨.bl _,H,I,rfl,?_⟩
  rw [show its.toArray.any (eqU x)=its.any (eqU x) by simp,any_eqU r fs]
  exact q
theorem op_notIn_seq:OpR X (compareOp .NotIn) (rIn X.K true):=by
 intro pins s σ H x y v u Q I rx ry h
 obtain⟨p,xs,rfl,hq,fx,fs,q⟩:=h
 cases ry
 rcases hq with hq | hq
 ·obtain⟨its,r,pl,hz⟩:=I.list hq
  refine SeqAt.notIn_listAt (eqU x) pl.isList (fun w hw=>mem_eqAt rx fx r fs w (by simpa using hw)) ⟨.bl _,H,I,rfl,?_⟩
  rw [show its.toArray.any (eqU x)=its.any (eqU x) by simp,any_eqU r fs]
  exact q
 ·obtain⟨its,r,pl,hz⟩:=I.tuple hq
  refine SeqAt.notIn_tupleAt (eqU x) pl (fun w hw=>mem_eqAt rx fx r fs w (by simpa using hw)) ⟨.bl _,H,I,rfl,?_⟩
  rw [show its.toArray.any (eqU x)=its.any (eqU x) by simp,any_eqU r fs]
  exact q
theorem call_len_seq:CallR X (.builtin "len") (fun xs H Q=>∃ p ys,xs=[.ref p]∧(SqL X.K H p ys∨SqT X.K H p ys)∧Q (.int ys.length) H):=by
 intro pins s σ H xs us Q I r h
 obtain⟨p,ys,rfl,hq,q⟩:=h
 obtain⟨u,rfl,rx⟩:=vals1 r
 cases rx
 have hn:=line63
 rcases hq with hq | hq
 ·obtain⟨its,r',pl,hz⟩:=I.list hq
  have hlen:=r'.length
  exact Calls.call_len_list pl.isList (by simp only [List.size_toArray] <;> omega) ⟨.int ys.length,H,I.tok _,⟨s.toks + 1,by rw [List.size_toArray,hlen]⟩,q⟩
 ·obtain⟨its,r',pl,hz⟩:=I.tuple hq
  have hlen:=r'.length
  exact len_tuple pl (by simp only [List.size_toArray] <;> omega) ⟨.int ys.length,H,I.tok _,⟨s.toks + 1,by rw [List.size_toArray,hlen]⟩,q⟩
theorem call_len_str:CallR X (.builtin "len") (fun xs H Q=>∃ z,xs=[.str z]∧z.length≤sizeLine∧Q (.int z.length) H):=by
 intro pins s σ H xs us Q I r h
 obtain⟨z,rfl,hz,q⟩:=h
 obtain⟨u,rfl,t,rfl⟩:=vals1 r
 have hn:=line63
 exact len_str (by omega) ⟨.int z.length,H,I.tok _,⟨_,rfl⟩,q⟩
theorem call_list_of:CallR X (.type "list") (fun xs H Q=>∃ p ys,xs=[.ref p]∧(SqL X.K H p ys∨SqT X.K H p ys)∧∀ l,H l=none→Q (.ref l) (upd H l (.lst ys))):=by
 intro pins s σ H xs us Q I r h
 obtain⟨p,ys,rfl,hq,q⟩:=h
 obtain⟨u,rfl,rx⟩:=vals1 r
 cases rx
 have fin:∀ (its:List Value),Vals ys its→ys.length≤sizeLine→∀ (h':Heap) (c':Nat),(∀ b o',s.heap.get? b=some o'→h'.get? b=some o')→
   h'.get? s.heap.objs.size=some { cls:=.type "list",dict:=none,data:=.seq its.toArray c',slots:=#[] }→EP X pins σ Q (.ref s.heap.objs.size) { s with heap:=h' }:=fun its r' hz h' c' kp e=>
  ⟨.ref s.heap.objs.size,_,I.laid (t':=s.toks) kp (Nat.le_refl _) (show ObjOk X.prog X.w _ h' _ (.lst ys) from⟨hz,its,c',r',e⟩),rfl,q _ (I.hok.fresh (Nat.le_refl _))⟩
 rcases hq with hq | hq
 ·obtain⟨its,r',pl,hz⟩:=I.list hq
  have hlen:=r'.length
  obtain⟨o,ho,hc,n,hd⟩:=pl.isList
  exact call_list_seq p (.inl rfl) ho hc hd (fun h' c' kp e=>fin its r' hz h' c' kp e) (by simp only [List.size_toArray] <;> omega)
 ·obtain⟨its,r',pl,hz⟩:=I.tuple hq
  have hlen:=r'.length
  obtain⟨o,ho,hc,n,hd⟩:=pl
  exact call_list_seq p (.inr rfl) ho hc hd (fun h' c' kp e=>fin its r' hz h' c' kp e) (by simp only [List.size_toArray] <;> omega)
def tyV (K:PySem.W.Frag) (T:String) (x:V) (H:Hp):Prop:=match x with
 | .str _=>T="str"
 | .int _=>T="int"
 | .ref p=>(T="list"∧∃ xs,SqL K H p xs)∨(T="tuple"∧∃ o,K.lookup p=some o∧o.cls=.type "tuple"∧o.dict=none)∨
   (T="dict"∧((∃ kvs,H p=some (.dK kvs))∨∃ kvs,H p=some (.dT kvs)))∨(T="set"∧∃ S n,H p=some (.set S n))
 | _=>False
theorem tyV_is {pins:List (Addr × Obj)}{σ:St}{H:Hp}{s:Shared}{T:String}{x:V}{v:Value}(I:Inv X pins σ H s) (r:RelV x v) (ty:tyV X.K T x H):
  s.TypeIs v T∧∀ a,v=.ref a→∃ ob,s.heap.get? a=some ob∧ob.dict=none:=by
 cases x with
 | str z=>
  obtain⟨t,rfl⟩:=r
  cases (show T="str" from ty)
  exact⟨typeIs_str s z t,fun _ e=>nomatch e⟩
 | int i=>
  obtain⟨t,rfl⟩:=r
  cases (show T="int" from ty)
  exact⟨typeIs_int s i t,fun _ e=>nomatch e⟩
 | ref p=>
  cases r
  rcases ty with ⟨rfl,xs,hq⟩ | ⟨rfl,o,hk,hc,hd⟩ | ⟨rfl,hk⟩ | ⟨rfl,S,n,hk⟩
  ·obtain⟨its,_,pl,_⟩:=I.list hq
   refine⟨pl.isList.typeIs,fun a e=>?_⟩
   cases e
   obtain⟨o,n,e,c,hd,_⟩:=pl
   exact⟨o,e,hd⟩
  ·refine⟨⟨o,I.kIn p o hk,hc⟩,fun a e=>?_⟩
   cases e
   exact⟨o,I.kIn _ o hk,hd⟩
  ·have z:∃ o,s.heap.get? p=some o∧o.ExactDict:=by
    rcases hk with ⟨kvs,hk⟩ | ⟨kvs,hk⟩
    ·obtain⟨_,_,_,_,o,_,_,e,ex,_⟩:=I.hok p _ hk
     exact⟨o,e,ex⟩
    ·obtain⟨_,_,_,_,o,_,_,e,ex,_⟩:=I.hok p _ hk
     exact⟨o,e,ex⟩
   obtain⟨o,e,ex⟩:=z
   refine⟨⟨o,e,ex.1⟩,fun a e2=>?_⟩
   cases e2
   exact⟨o,e,ex.2.1⟩
  ·obtain⟨o,_,_,_,e,ex,_⟩:=I.hok p _ hk
   refine⟨⟨o,e,ex.1⟩,fun a e2=>?_⟩
   cases e2
   exact⟨o,e,ex.2.1⟩
 | _=>exact False.elim ty
def tBM0 (K:PySem.W.Frag) (T:String) (r:V→List V→Hp→VK→Prop) (to:TE):TE:=fun σ H Q=>to σ H fun x H1=>tyV K T x H1∧r x [] H1 Q
def tBM (K:PySem.W.Frag) (T:String) (r:V→List V→Hp→VK→Prop) (to:TE) (t:TA):TE:=fun σ H Q=>to σ H fun x H1=>tyV K T x H1∧t σ H1 fun xs H2=>r x xs H2 Q
variable {o e:Expr}{es:List Expr}{to:TE}{t:TA}{name:Str}{apos cpos:Pos}{T id:String}{r:V→List V→Hp→VK→Prop}
theorem pe_bm0 (pa:PlainAttrs T) (slot:Slot T name id) (hty:typeOf (.builtin id)=pure (.type "method_descriptor")) (hm:MtR X id r) (ho:PE X o to)
  (hbase:attributeBase o name X.env (eval o X.env)=eval o X.env:=by rfl) (hline:(apos.endLine == cpos.line)=true:=by rfl):PE X (.Call (.Attribute o name apos) [] [] cpos) (tBM0 X.K T r to):=by
 intro pins s σ H Q I h
 refine wpAny_Call_method0_late hbase hline (thn (ho pins s σ H _ I h) fun v s1 ⟨x,H1,I1,r1,ty,q1⟩=>?_)
 obtain⟨h1,h2⟩:=tyV_is I1 r1 ty
 exact⟨T,id,pa,slot,hty,h1,h2,Calls.callWith_builtin rfl (PySem.evalArgs_none (hm pins s1 σ H1 x [] v [] Q I1 r1 .nil q1))⟩
theorem pe_bm (pa:PlainAttrs T) (slot:Slot T name id) (hty:typeOf (.builtin id)=pure (.type "method_descriptor")) (hm:MtR X id r) (ho:PE X o to) (ha:PA X (e::es) t)
  (hbase:attributeBase o name X.env (eval o X.env)=eval o X.env:=by rfl)
  (hfew:((backTo cpos (starEach (e::es) X.env)).all (fun x=>!x.1) && (backToKw cpos (keywordEach [] X.env)).all (fun x=>x.1.isSome)
   && decide ((e::es).length + ([]:List Keyword).length + (if ([]:List Keyword).isEmpty then 0 else 1) < 30))=true:=by rfl)
  (hline:(apos.endLine == cpos.line)=true:=by rfl) (hs:starEach (e::es) X.env=(false,eval e X.env)::starEach es X.env:=by rfl) (hplain:(backTo cpos (starEach es X.env)).any (·.1)=false:=by rfl):
  PE X (.Call (.Attribute o name apos) (e::es) [] cpos) (tBM X.K T r to t):=by
 intro pins s σ H Q I h
 refine wpAny_Call_method_late hbase hfew hline rfl (thn (ho pins s σ H _ I h) fun v s1 ⟨x,H1,I1,r1,ty,q1⟩=>?_)
 obtain⟨h1,h2⟩:=tyV_is I1 r1 ty
 refine⟨T,id,pa,slot,hty,h1,h2,?_⟩
 have hA:=ha cpos pins s1 σ H1 _ I1 q1
 rw [hs] at hA ⊢
 refine Calls.callWith_builtin (by show (false || (backTo cpos (starEach es X.env)).any (·.1))=false;rw [hplain] <;> rfl) (Calls.evalArgs_plain ?_)
 exact thn hA fun us s2 ⟨vs,H2,I2,r2,q2⟩=>hm pins s2 σ H2 x vs v us Q I2 r1 r2 q2
end
end L2
namespace L2
open PySem PySem.Spec PyProof.Rows
def MtM (X:Cx) (id:String) (r:V→List V→Hp→VK→Prop):Prop:=
 ∀ (pins:List (Addr × Obj)) (s:Shared) (σ:St) (H:Hp) (x:V) (xs:List V) (v:Value) (us:List Value) (Q:VK),Inv X pins σ H s→RelV x v→Vals xs us→r x xs H Q→
  wpAny (model X.prog X.w) X.A (call (.builtin id) (v::us)) (EP X pins σ Q) X.xe s
theorem Vals.one:∀ {x:V}{us:List Value},Vals [x] us→∃ u,us=[u]∧RelV x u
 | _,_,.cons r .nil=>⟨_,rfl,r⟩
theorem Vals.zero:∀ {us:List Value},Vals [] us→us=[]
 | _,.nil=>rfl
theorem Vals.dropLast {xs:List V}{us:List Value}(h:Vals xs us):Vals xs.dropLast us.dropLast:=by
 induction h with
 | nil=>exact .nil
 | cons r t ih=>
  cases t with
  | nil=>exact .nil
  | cons q t'=>exact .cons r ih
theorem erase_last {α:Type}(l:List α):l.eraseIdx (l.length - 1)=l.dropLast:=by
 induction l with
 | nil=>rfl
 | cons a r ih=>
  cases r with
  | nil=>rfl
  | cons b r=>
   have e:(a::b::r).length - 1=((b::r).length - 1) + 1:=by
    have h1:(a::b::r).length=r.length + 2:=rfl
    have h2:(b::r).length=r.length + 1:=rfl
    omega
   rw [e,List.eraseIdx_cons_succ,ih]
   all_goals rfl
section
variable {X:Cx}{pins:List (Addr × Obj)}{σ:St}{H:Hp}{s:Shared}{l b:Addr}{xs ys zs:List V}
theorem Inv.lset {its its':List Value}{n:Nat}{f:Array Value→Array Value}{t':Nat}(I:Inv X pins σ H s) (hH:H l=some (.lst xs))
  (e:s.heap.get? l=some { cls:=.type "list",data:=.seq its.toArray n }) (hf:f its.toArray=its'.toArray) (hv:Vals ys its') (hz:ys.length≤sizeLine):
  Inv X pins σ (upd H l (.lst ys)) { s with heap:=s.heap.update l (Obj.mapSeq f),toks:=t' }:=by
 have q:=PySem.IsL.update e f
 rw [hf] at q
 refine I.write (x:=l) (e:=l) (by rw [hH];exact trivial) (.inl rfl) (fun b' u hb hu=>(Heap.get?_update_other s.heap (Obj.mapSeq f) (Ne.symm hb)).trans hu) ⟨_,q⟩ ?_
 exact⟨hz,its',_,hv,q⟩
theorem Inv.lstM (I:Inv X pins σ H s) (hH:H l=some (.lst xs)):xs.length≤sizeLine∧∃ (its:List Value) (n:Nat),Vals xs its∧xs.length=its.length∧s.heap.get? l=some { cls:=.type "list",data:=.seq its.toArray n }:=by
 obtain⟨z,its,n,r,e⟩:=I.hok l _ hH
 exact⟨z,its,n,r,r.length,e⟩
end
section
variable {X:Cx}
def rAppend:V→List V→Hp→VK→Prop:=fun x vs H Q=>∃ l xs y,x=.ref l∧vs=[y]∧H l=some (.lst xs)∧xs.length < sizeLine∧Q .non (upd H l (.lst (xs++[y])))
theorem mt_append:MtM X "list.append" rAppend:=by
 intro pins s σ H x vs v us Q I rx rv h
 obtain⟨l,xs,y,rfl,rfl,hH,hz,q⟩:=h
 cases rx
 obtain⟨u,rfl,ru⟩:=rv.one
 obtain⟨z,its,n,r,hl,e⟩:=I.lstM hH
 refine call_meets F.slot_list_append ⟨_,e,rfl⟩ F.entry_list_append (F.args_list_append_2 _ _) (PySem.list_append l its.toArray n u (by rw [List.size_toArray];omega)) ⟨e,?_⟩
 refine⟨.non,_,I.lset (its':=its++[u]) hH e (by simp) (r.append (.cons ru .nil)) ?_,rfl,q⟩
 rw [List.length_append,List.length_singleton]
 omega
def rPop:V→List V→Hp→VK→Prop:=fun x vs H Q=>∃ l xs y,x=.ref l∧vs=[]∧H l=some (.lst xs)∧xs[xs.length - 1]?=some y∧Q y (upd H l (.lst xs.dropLast))
theorem mt_pop:MtM X "list.pop" rPop:=by
 intro pins s σ H x vs v us Q I rx rv h
 obtain⟨l,xs,y,rfl,rfl,hH,hy,q⟩:=h
 cases rx
 have hus:=rv.zero
 subst hus
 obtain⟨z,its,n,r,hl,e⟩:=I.lstM hH
 obtain⟨u,hu,ru⟩:=r.get hy
 have hy':its.toArray[its.toArray.size - 1]?=some u:=by
  show its.toArray[its.length - 1]?=some u
  rw [← Array.getElem?_toList,← hl]
  exact hu
 refine call_meets F.slot_list_pop ⟨_,e,rfl⟩ F.entry_list_pop (F.args_list_pop_1 _) (MeetsSeq.list_pop_last l its.toArray n u hy' (by rw [List.size_toArray];omega)) ⟨e,?_⟩
 refine⟨y,_,I.lset (its':=its.dropLast) hH e ?_ r.dropLast ?_,ru,q⟩
 ·show its.toArray.eraseIdxIfInBounds (its.toArray.size - 1)=its.dropLast.toArray
  rw [List.size_toArray,List.eraseIdxIfInBounds_toArray,erase_last]
 ·rw [List.length_dropLast]
  omega
end
section
variable {prog:Program}{w:World}{A:Around}{E:Value→Shared→Prop}{s:Shared}
end
section
variable {X:Cx}
end
end L2
namespace Att
open PySem PySem.W PySem.Calls PyProof.Rows
theorem ints_of_wellAll {P:Params}{h:Heap}:∀ (ns:List Int) (vs:List Value),WellAll P h vs (ns.map WData.int)→IntsAre vs ns:=by
 intro ns
 induction ns with
 | nil=>
  intro vs w
  rw [List.map_nil] at w
  cases w
  exact .nil
 | cons n ns ih=>
  intro vs w
  rw [List.map_cons] at w
  cases w with
  | cons a b=>
   cases a
   exact .cons _ _ (ih _ b)
theorem script_of {l:OpenLaw}{n:Nat}(hn:l.most=some n){P:Params}{h:Heap}{args:List WData}{vals:List Value}
  (hpre:l.row.toRowW.claim.pre args=true) (hwl:WellAll P h vals args):
  ∃ a vs ns,vals=[Value.ref a]∧args=[WData.list (ns.map WData.int)]∧h.get? a=some { cls:=.type "list",data:=.seq vs.toArray }∧IntsAre vs ns∧ns.length≤n:=by
 have hsh:WShape.hasAll [] args [.list .int]=true:=(pre_splitW hpre).1
 have hc:l.pre.holds [] { args:=args }=true:=(pre_splitW hpre).2
 obtain⟨d,r,rfl,h1,h2⟩:=hasAllW_cons hsh
 obtain rfl:=hasAllW_nil h2
 obtain⟨xs,rfl,h3⟩:=hasW_list h1
 obtain⟨ns,rfl⟩:=items_int h3
 have hlen:ns.length≤n:=by
  unfold OpenLaw.pre at hc
  have h4:(WTm.not (.lt (.lit (.int (n:Int))) (.len (.arg 0)))).holds [] { args:=[.list (ns.map .int)] }=true:=by
   have h4:=(holds_andW hc).1
   rw [hn] at h4
   exact h4
  have h5:=condW_of h4 (w_not (w_lt w_lit (w_len_list (w_arg rfl))))
  rw [List.length_map] at h5
  refine Nat.le_of_not_lt fun q=>?_
  have q':(n:Int) < ((ns.length:Nat):Int):=by omega
  first
   | (rw [decide_eq_true q'] at h5;exact absurd h5 (by decide))
   | (simp at h5;omega)
 cases hwl with
 | cons w1 w2=>
  cases w2
  cases w1 with
  | list ho hall=>exact⟨_,_,ns,rfl,rfl,ho,ints_of_wellAll ns _ hall,hlen⟩
theorem post_true (l:OpenLaw) (args:List WData):l.row.toRowW.claim.post args (.bool true) args=true:=
 postW_of (r:=l.row.toRowW) (X:=(true == true))
  (show WShape.has [] (.bool true) .bool=true by first | rfl | decide | simp [WShape.has,WShape.arms,WShape.armsAll])
  (show (WTm.eq .res (.lit (.bool true))).value [] { args:=args,res:=some (.bool true),after:=args }=some (.bool (true == true)) from w_eq_bool (w_res rfl) w_lit) rfl
theorem attach_call {l:OpenLaw}{n:Nat}{q:Program}{loose:List Str}{XP:(Str→Option Value)→Heap→Prop}{YP:World→Heap→Prop}{d:DefRec}
  (hn:l.most=some n) (hdf:d.params.defaults=[])
  (call:∀ (w:World) (s₀ s₁:Shared) (mg mb:Str→Option Value) (fa:Addr) (o:Obj) (pm cd doc:Value) (a:Addr) (vs:List Value) (ns:List Int),
   Ground q loose [] XP w s₀ mg mb s₁.heap→YP w s₁.heap→
   s₁.heap.get? fa=some o→o.data=.func (docDef d.name d.params d.body d.scope pm cd doc)→s₁.heap.CodeRec cd d.name→mg d.name=some (.ref fa)→
   s₁.heap.get? a=some { cls:=.type "list",data:=.seq vs.toArray }→IntsAre vs ns→ns.length≤n→s₁.gens=#[]→
   codeAny (model l.prog w) callerA (.call (.ref fa) ⟨[.ref a],[]⟩) (fun r s'=>r=.ok (.ret (.bool true))∧OldK s₁.heap s'.heap∧s'.os=s₁.os∧AllBare s'.gens) s₁):
  WalkO q loose XP YP l.row.toRowW d [] (fun f vs=>PySem.call f vs):=by
 intro w s₀ s₁ mg mb G Y fa o pm cd doc dV kV ho hd hcd hD hmg hg args vals as hpre hlay hrd hwl hlo
 obtain rfl:dV=.none:=Dflts.none hD hdf
 obtain rfl:kV=.none:=Dflts.noKw hD
 obtain⟨a,vs,ns,rfl,rfl,hobj,hints,hlen⟩:=script_of hn hpre hwl
 refine enter_call (codeAny_mono (call w s₀ s₁ mg mb fa o pm cd doc a vs ns G Y ho (fd_plain hd) hcd hmg hobj hints hlen hg) fun r s' hq=>?_)
 obtain⟨rfl,h2,h3,h4⟩:=hq
 exact⟨.inl ⟨.bool true,.bool true,[],rfl,fun _=>rfl,.bool true,post_true l _,fun _=>⟨List.Pairwise.nil,fun _ hm=>(nomatch hm)⟩⟩,h2,h3,h4⟩
section
variable {prog:Program}{w:World}{A:Around}{E:Value→Shared→Prop}{s:Shared}{K:Frag}
end
end Att
namespace L2
open PySem PySem.Spec PyProof.Rows
theorem vals_ints:∀ {vs:List Value}{ns:List Int},IntsAre vs ns→Vals (ns.map V.int) vs
 | _,_,.nil=>.nil
 | _,_,.cons n t h=>.cons ⟨t,rfl⟩ (vals_ints h)
def Only (H:Hp):Prop:=∀ b,H b=none∨∃ o xs,H b=some (.frz o (.lst xs))
theorem law_call {P:Program}{w:World}{K:PySem.W.Frag}{mg mb:Str→Option Value}{CX:CXT}{k:Nat}{fa a:Addr}{fd:FuncData}{x:Str}{sp:Sp}{s₁:Shared}{vs:List Value}{ns:List Int}
  (KX:K.In s₁.heap) (hns:s₁.heap.Ns mainGlobals mg) (hb:s₁.heap.Ns builtinsNs mb) (hbb:∀ x:Str,x≠"__name__"→mb x=bootBuiltins x) (hlim:s₁.heap.NoLimit) (hg:s₁.gens=#[])
  (ha:s₁.heap.get? a=some { cls:=.type "list",data:=.seq vs.toArray }) (hi:IntsAre vs ns) (hl:ns.length≤sizeLine) (hr:Room k callerA)
  (F:∀ base:Heap,K.In base→base.Ns mainGlobals mg→FnOk P w K mg base CX k fa fd [x] sp) (hbind:∀ (s:Shared) (u:Value),BindsTo s fd ⟨[u],[]⟩ [(x,u)])
  (hsp:∀ H:Hp,Only H→SqL K H a (ns.map V.int)→sp [.ref a] H (fun v _=>v=.bl true) fun _ _ _=>False)
  (hCX:∀ H e s',CX [] H s₁ (fun _ _ _=>False) e s'→False):
  codeAny (model P w) callerA (.call (.ref fa) ⟨[.ref a],[]⟩) (fun r s'=>r=.ok (.ret (.bool true))∧OldK s₁.heap s'.heap∧s'.os=s₁.os∧AllBare s'.gens) s₁:=by
 have rv:=vals_ints hi
 have lenV:=hi.length
 have core:∀ H:Hp,Only H→SqL K H a (ns.map V.int)→HOk P w H s₁.heap→(∀ b,H b≠none→b=a)→(H a≠none→K.lookup a=none)→
   codeAny (model P w) callerA (.call (.ref fa) ⟨[.ref a],[]⟩) (fun r s'=>r=.ok (.ret (.bool true))∧OldK s₁.heap s'.heap∧s'.os=s₁.os∧AllBare s'.gens) s₁:=by
  intro H hO hS hok hA hK
  have base_of:∀ {b:Addr}{o:Obj},s₁.heap.get? b=some o→H b=none→(hidT s₁.heap H).get? b=some o:=fun e n=>hidT_get e n
  have noA:∀ {b:Addr}{o:Obj}{es:Array DictEntry}{ep:Nat},s₁.heap.get? b=some o→o.data=.dict es ep→H b=none:=fun{b o es ep} e d=>by
   cases q:H b with
   | none=>rfl
   | some u=>
    have e':b=a:=hA b (by rw [q];simp)
    subst e'
    rw [ha] at e;cases e
    have d':Data.seq vs.toArray _=Data.dict es ep:=d
    cases d'
  have nsK:∀ {b:Addr}{m:Str→Option Value},s₁.heap.Ns b m→(hidT s₁.heap H).Ns b m:=fun{b m} ⟨o,es,ep,e,d,r⟩=>⟨o,es,ep,base_of e (noA e d),d,r⟩
  have hKb:K.In (hidT s₁.heap H):=fun b o e=>base_of (KX b o e) (by
   cases q:H b with
   | none=>rfl
   | some u=>
    have e':b=a:=hA b (by rw [q];simp)
    subst e'
    rw [hK (by rw [q];simp)] at e;cases e)
  have hM:Mod K mg (hidT s₁.heap H):=⟨hKb,nsK hns,⟨mb,nsK hb,hbb⟩,let ⟨mc,h1,h2⟩:=hlim;⟨mc,nsK h1,h2⟩⟩
  have e0:Env0 P w K mg (hidT s₁.heap H) callerA [] s₁ H:=⟨rfl,hM,fun b o e=>of_hidT e,Nat.le_of_eq (hidT_size _ _),trivial,fun b hb=>absurd (show b∈([]:List Addr) from hb) (by simp),hok,.of_eq hg⟩
  refine codeAny_mono ((F _ hKb (nsK hns)).run callerA [] s₁ H ⟨[.ref a],[]⟩ [.ref a] [.ref a] _ _ hr e0 (hbind s₁ (.ref a)) (.cons rfl .nil) (hsp H hO hS)) fun r s' h=>?_
  cases r with
  | error e=>exact(hCX H e s' h).elim
  | ok fl=>
   cases fl with
   | next=>exact False.elim h
   | brk=>exact False.elim h
   | cont=>exact False.elim h
   | ret u=>
    obtain⟨v,H',os,bare,un,hok',r',q⟩:=h
    have q':v=.bl true:=q
    subst q'
    obtain rfl:u=Value.bool true:=r'
    refine⟨rfl,OldK.of_keep fun b o e=>?_,os,bare⟩
    cases q:H b with
    | none=>exact un.keep b o e q (by intro z;exact absurd (show b∈([]:List Addr) from z) (by simp)) (by simp)
    | some u=>
     rcases hO b with z | ⟨ob,xs,z⟩
     ·rw [q] at z;cases z
     ·have z2:=un.frzs b ob _ z
      obtain⟨e1,_⟩:=hok b _ z
      obtain⟨e2,_⟩:=hok' b _ z2
      rw [e] at e1;cases e1
      exact e2
 cases hk:K.lookup a with
 | some o=>
  have e:=KX a o hk
  rw [ha] at e
  cases e
  refine core (fun _=>none) (fun _=>.inl rfl) (.inr ⟨_,vs.toArray,_,hk,rfl,rfl,rfl,by rw [List.size_toArray,lenV];exact hl,by simpa using rv⟩) (fun b u z=>by have z':(none:Option HO)=some u:=z;cases z') (fun b z=>absurd rfl z) fun z=>absurd rfl z
 | none=>
  refine core (fun b=>if b=a then some (.frz { cls:=.type "list",data:=.seq vs.toArray } (.lst (ns.map V.int))) else none) (fun b=>?_) (.inl (.inr ⟨{ cls:=.type "list",data:=.seq vs.toArray },if_pos rfl⟩)) (fun b u z=>?_) (fun b z=>?_) fun _=>hk
  ·by_cases hb:b=a
   ·exact .inr ⟨_,_,if_pos hb⟩
   ·exact .inl (if_neg hb)
  ·by_cases hb:b=a
   ·have z':=(if_pos hb).symm.trans z
    cases z'
    subst hb
    exact⟨ha,by rw [List.length_map];exact hl,vs,_,rv,ha⟩
   ·have z':=(if_neg hb).symm.trans z
    cases z'
  ·by_cases hb:b=a
   ·exact hb
   ·exact absurd (if_neg hb) z
end L2
namespace L2
open PySem PySem.Spec PyProof.Rows
theorem walk_of {l:PySem.W.OpenLaw}{n k:Nat}{q:Program}{loose:List Str}{XP:(Str→Option Value)→Heap→Prop}{YP:World→Heap→Prop}{d:DefRec}{K:Params→PySem.W.Frag}{CX:World→CXT}{sp:World→Sp}{x:Str}
  (hn:l.most=some n) (hn2:n≤sizeLine) (hdf:d.params.defaults=[]) (hr:Room k callerA)
  (hY:∀ (w:World) (h:Heap),YP w h→(K w.params).In h)
  (F:∀ (w:World) (mg:Str→Option Value) (fa:Addr) (h:Heap),(K w.params).In h→h.Ns mainGlobals mg→mg d.name=some (.ref fa)→
   ∃ fd:FuncData,(∀ (s:Shared) (u:Value),BindsTo s fd ⟨[u],[]⟩ [(x,u)])∧
    ∀ base:Heap,(K w.params).In base→base.Ns mainGlobals mg→FnOk l.prog w (K w.params) mg base (CX w) k fa fd [x] (sp w))
  (hsp:∀ (w:World) (H:Hp) (a:Addr) (ns:List Int),ns.length≤n→Only H→SqL (K w.params) H a (ns.map V.int)→sp w [.ref a] H (fun v _=>v=.bl true) fun _ _ _=>False)
  (hCX:∀ (w:World) (H:Hp) (s:Shared) (e:Value) (s':Shared),CX w [] H s (fun _ _ _=>False) e s'→False):
  PySem.W.WalkO q loose XP YP l.row.toRowW d [] (fun f vs=>PySem.call f vs):=by
 refine Att.attach_call hn hdf fun w s₀ s₁ mg mb fa o pm cd doc a vs ns G Y ho hd hcd hmg hobj hints hlen hg=>?_
 have KX:=hY w _ Y
 obtain⟨fd,hb,hF⟩:=F w mg fa _ KX G.T.g hmg
 exact law_call KX G.T.g G.T.b G.T.builtins G.T.nolimit hg hobj hints (Nat.le_trans hlen hn2) hr hF hb (fun H hO hS=>hsp w H a ns hlen hO hS) fun H e s'=>hCX w H s₁ e s'
end L2
namespace L2
open PySem PySem.Spec PyProof.Rows
def inClass (s:Stmt) (j:Nat):Stmt:=match s with
 | .ClassDef _ _ _ body _ _ _ _ _ _ _=>body.getD j (.Pass ⟨0,0,0,0⟩)
 | _=>.Pass ⟨0,0,0,0⟩
def defArgs (s:Stmt):Arguments:=match s with
 | .FunctionDef _ a _ _ _ _ _ _ _ _=>a
 | _=>{ posonlyargs:=[],args:=[],vararg:=none,kwonlyargs:=[],kw_defaults:=[],kwarg:=none,defaults:=[] }
def defBody (s:Stmt):List Stmt:=match s with
 | .FunctionDef _ _ b _ _ _ _ _ _ _=>b
 | _=>[]
def defScope (s:Stmt):Scope:=match s with
 | .FunctionDef _ _ _ _ _ _ sc _ _ _=>sc
 | _=>{ kind:=.function,names:=[],isGenerator:=false,isCoroutine:=false }
abbrev CX0:CXT:=fun _ _ _ _ _ _=>False
abbrev E0:XK:=fun _ _ _=>False
theorem pass0 {X:Cx}:Passes CX0 X E0:=fun _ _ _ _ _ _ _ h=>h.elim
structure Fun (K:PySem.W.Frag) (x qual:Str) (st:Stmt) (f:Addr) (fd:FuncData):Prop where
 ex:∃ (oc:Value) (od:Option Addr) (kV doc pm:Value) (an:Option Addr) (cdv ct:Value) (osl:Array (Option Value)),
  fd=PySem.W.fnOf x qual (defArgs st) (defBody st) (defScope st) .none kV doc pm an cdv ct∧K.lookup f=some ⟨oc,od,.func fd,osl⟩∧PySem.W.codeIn K cdv qual=true
 kp:PySem.W.keepIn K (.ref f)=true
section
variable {P:Program}{w:World}{K:PySem.W.Frag}{mg:Str→Option Value}{base:Heap}
theorem Fun.ok {x qual:Str}{st:Stmt}{f:Addr}{fd:FuncData}{N ps:List Str}{k:Nat}{sp:Sp}(F:Fun K x qual st f fd) (S:FnScope N ps (defScope st)) (len:∀ vs H Q E,sp vs H Q E→vs.length=ps.length)
  (hbody:∀ (cdv:Value) (A:Around) (outer:List Env) (s:Shared) (H:Hp) (vs:List V) (Q:VK) (E:XK),Room k (A.deeper (envOfC qual (defScope st) s.heap.objs.size f cdv))→sp vs H Q E→
   ∃ t,PSs (cxOf CX0 P w K mg base N qual (defScope st) f cdv A outer s H E).nox (defBody st) t∧t { nx:=fun _ H'=>Q .non H',rt:=Q } (start N vs) H):FnOk P w K mg base CX0 (k + 1) f fd ps sp:=by
 obtain⟨oc,od,kV,doc,pm,an,cdv,ct,osl,rfl,lk,hcd⟩:=F.ex
 refine fn_of lk hcd S len fun A outer s H vs Q E hr hsp=>?_
 obtain⟨t,h,q⟩:=hbody cdv A outer s H vs Q E hr hsp
 exact⟨t,h.nox,q⟩
theorem Fun.binds {x qual:Str}{st:Stmt}{f:Addr}{fd:FuncData}{ps:List Str}(F:Fun K x qual st f fd)
  (h:∀ (kV doc pm:Value) (an:Option Addr) (cdv ct:Value) (us:List Value),us.length=ps.length→bindArgs (PySem.W.fnOf x qual (defArgs st) (defBody st) (defScope st) .none kV doc pm an cdv ct) ⟨us,[]⟩=pure (ps.zip us)):Binds K fd ps []:=by
 obtain⟨oc,od,kV,doc,pm,an,cdv,ct,osl,rfl,lk,hcd⟩:=F.ex
 exact .all (h kV doc pm an cdv ct)
theorem fun_mk {x qual:Str}{st:Stmt}{f:Addr}{oc:Value}{od an:Option Addr}{osl:Array (Option Value)}{kV doc pm cdv ct:Value}(l:K.lookup f=some ⟨oc,od,.func (PySem.W.fnOf x qual (defArgs st) (defBody st) (defScope st) .none kV doc pm an cdv ct),osl⟩)
  (c:PySem.W.codeIn K cdv qual=true) (k:PySem.W.keepIn K (.ref f)=true):Fun K x qual st f (PySem.W.fnOf x qual (defArgs st) (defBody st) (defScope st) .none kV doc pm an cdv ct):=⟨⟨oc,od,kV,doc,pm,an,cdv,ct,osl,rfl,l,c⟩,k⟩
end
section
variable {X:Cx}
theorem pv (i:Nat){x:Str}{pos:Pos}(hN:X.N[i]?=some x:=by rfl) (hv:Vis X.env.scope x:=by first | exact Or.inl rfl | exact Or.inr (Or.inl rfl) | exact Or.inr (Or.inr rfl)) (hd:(x == ("__debug__":Str))=false:=by decide)
  (hcd:(x == ("__classdict__":Str))=false:=by decide):PE X (.Name x pos) (tVar i):=pe_var hN hv hd hcd
end
def Same (H H':Hp):Prop:=∀ b o,H b=some o→H' b=some o
theorem Same.refl (H:Hp):Same H H:=fun _ _ h=>h
theorem Same.trans {H H1 H2:Hp}(a:Same H H1) (b:Same H1 H2):Same H H2:=fun c o h=>b c o (a c o h)
theorem Same.free {H H':Hp}(e:Same H H'){l:Addr}(h:H' l=Option.none):H l=Option.none:=by
 cases q:H l with
 | none=>rfl
 | some o=>
  rw [e l o q] at h
  cases h
theorem Same.seq {K:PySem.W.Frag}{H H':Hp}{a:Addr}{xs:List V}(e:Same H H') (h:SqL K H a xs):SqL K H' a xs:=by
 rcases h with (h | ⟨o,h⟩) | h
 ·exact .inl (.inl (e _ _ h))
 ·exact .inl (.inr ⟨o,e _ _ h⟩)
 ·exact .inr h
end L2
set_option Elab.async false
set_option linter.all false
set_option maxRecDepth 100000
namespace L2
open PySem PySem.Spec PyProof.Rows
section
variable {κ:Type} [DecidableEq κ]
def valV (kvs:List (κ × V)) (k:κ):Option V:=(kvs.find? fun kv=>decide (kv.1=k)).map (·.2)
def putK (kvs:List (κ × V)) (k:κ) (v:V):List (κ × V):=
 if (kvs.any fun kv=>decide (kv.1=k))=true then kvs.map (fun kv=>if kv.1=k then(kv.1,v) else kv) else kvs++[(k,v)]
def dropK (kvs:List (κ × V)) (k:κ):List (κ × V):=kvs.filter fun kv=>decide (kv.1≠k)
theorem valV_pos {p:κ × V}{r:List (κ × V)}{k:κ}(e:p.1=k):valV (p::r) k=some p.2:=by simp [valV,List.find?_cons,e]
theorem valV_neg {p:κ × V}{r:List (κ × V)}{k:κ}(e:¬ p.1=k):valV (p::r) k=valV r k:=by simp [valV,List.find?_cons,e]
theorem valV_any (k:κ):∀ kvs:List (κ × V),(kvs.any fun kv=>decide (kv.1=k))=(valV kvs k).isSome
 | []=>rfl
 | p::r=>by
  rw [List.any_cons]
  by_cases e:p.1=k
  ·simp only [valV_pos e,decide_eq_true e,Bool.true_or,Option.isSome_some]
  ·rw [valV_neg e,decide_eq_false e,Bool.false_or];exact valV_any k r
theorem length_putK (kvs:List (κ × V)) (k:κ) (v:V):(putK kvs k v).length≤kvs.length + 1:=by
 unfold putK
 split
 ·rw [List.length_map];omega
 ·rw [List.length_append,List.length_cons,List.length_nil];omega
theorem putK_new {kvs:List (κ × V)}{k:κ}(v:V) (h:valV kvs k=none):putK kvs k v=kvs++[(k,v)]:=by
 unfold putK
 rw [valV_any,h]
 exact if_neg (by decide)
theorem RelO.isSome_eq {o:Option V}{u:Option Value}(r:RelO o u):o.isSome=u.isSome:=by
 cases o with
 | none=>cases u with
  | none=>rfl
  | some _=>exact(show False from r).elim
 | some _=>cases u with
  | none=>exact(show False from r).elim
  | some _=>rfl
theorem KV.val {kvs:List (κ × V)}{vs:List (κ × Value)} (r:KV kvs vs) (k:κ):RelO (valV kvs k) (valueAt vs k):=by
 unfold KV at r
 induction r with
 | nil=>exact True.intro
 | @cons p q ps qs h t ih=>
  obtain⟨h1,h2⟩:=h
  by_cases e:p.1=k
  ·have e':q.1=k:=h1.symm.trans e
   have b:valueAt (q::qs) k=some q.2:=by simp [valueAt,List.find?_cons,e']
   rw [valV_pos e,b];exact h2
  ·have e':¬ q.1=k:=fun z=>e (h1.trans z)
   have b:valueAt (q::qs) k=valueAt qs k:=by simp [valueAt,List.find?_cons,e']
   rw [valV_neg e,b];exact ih
theorem KV.any {kvs:List (κ × V)}{vs:List (κ × Value)} (r:KV kvs vs) (k:κ):(kvs.any fun kv=>decide (kv.1=k))=vs.any fun kv=>decide (kv.1=k):=by
 unfold KV at r
 induction r with
 | nil=>rfl
 | cons h t ih=>rw [List.any_cons,List.any_cons,ih,h.1]
theorem KV.repl {kvs:List (κ × V)}{vs:List (κ × Value)} (r:KV kvs vs) (k:κ){y:V}{u:Value}(ry:RelV y u):
  KV (kvs.map fun kv=>if kv.1=k then(kv.1,y) else kv) (vs.map fun kv=>if kv.1=k then(kv.1,u) else kv):=by
 unfold KV at r ⊢
 induction r with
 | nil=>exact .nil
 | @cons p q ps qs h t ih=>
  rw [List.map_cons,List.map_cons]
  refine .cons ?_ ih
  obtain⟨h1,h2⟩:=h
  by_cases e:p.1=k
  ·rw [if_pos e,if_pos (h1.symm.trans e)];exact⟨h1,ry⟩
  ·rw [if_neg e,if_neg (fun z=>e (h1.trans z))];exact⟨h1,h2⟩
theorem KV.put {kvs:List (κ × V)}{vs:List (κ × Value)} (r:KV kvs vs) (k:κ){y:V}{u:Value}(ry:RelV y u):KV (putK kvs k y) (stored vs k u):=by
 unfold putK stored
 rw [r.any k]
 by_cases e:(vs.any fun kv=>decide (kv.1=k))=true
 ·rw [if_pos e,if_pos e];exact r.repl k ry
 ·rw [if_neg e,if_neg e];exact Paired.snoc r ⟨rfl,ry⟩
theorem KV.length {kvs:List (κ × V)}{vs:List (κ × Value)} (r:KV kvs vs):kvs.length=vs.length:=Paired.length r
end
theorem kV_is {P:Program}{w:World}{k:Key}{u:Value}(r:RelV (kV k) u):(mixKind P w).is k u=true:=by
 cases k with
 | inl i=>obtain⟨t,e⟩:=(show ∃ t,u=Value.int i t from r);subst e;exact mixKind_int P w i t
 | inr x=>obtain⟨t,e⟩:=(show ∃ t,u=Value.str x t from r);subst e;exact mixKind_str P w x t
theorem items_are {P:Program}{w:World}:∀ {ks:List Key}{us:List Value},Vals (ks.map kV) us→ItemsAre (mixKind P w) ks us
 | [],_,r=>by rw [List.map_nil] at r;cases r;exact .nil
 | k::ks,_,r=>by
  rw [List.map_cons] at r
  cases r with
  | cons h t=>exact .cons (kV_is h) (items_are t)
abbrev KT (H:Hp):List (List Key × V)→List (List Key × Addr × Value)→Prop:=Paired fun p q=>p.1=q.1∧H q.2.1=some (.tup (p.1.map kV))∧RelV p.2 q.2.2
theorem KT.val {H:Hp}{kvs:List (List Key × V)}{xs:List (List Key × Addr × Value)} (r:KT H kvs xs) (k:List Key):RelO (valV kvs k) ((atKey xs k).map (·.2)):=by
 induction r with
 | nil=>exact True.intro
 | @cons p q ps qs h t ih=>
  obtain⟨h1,_,h2⟩:=h
  by_cases e:p.1=k
  ·have e':q.1=k:=h1.symm.trans e
   have b:atKey (q::qs) k=some q.2:=by simp [atKey,List.find?_cons,e']
   rw [valV_pos e,b];exact h2
  ·have e':¬ q.1=k:=fun z=>e (h1.trans z)
   have b:atKey (q::qs) k=atKey qs k:=by simp [atKey,List.find?_cons,e']
   rw [valV_neg e,b];exact ih
theorem KT.repl {H:Hp}{kvs:List (List Key × V)}{xs:List (List Key × Addr × Value)} (r:KT H kvs xs) (k:List Key){y:V}{u:Value}(ry:RelV y u):
  KT H (kvs.map fun kv=>if kv.1=k then(kv.1,y) else kv) (xs.map (putAt k u)):=by
 induction r with
 | nil=>exact .nil
 | @cons p q ps qs h t ih=>
  rw [List.map_cons,List.map_cons]
  refine .cons ?_ ih
  obtain⟨h1,h2,h3⟩:=h
  unfold putAt
  by_cases e:p.1=k
  ·rw [if_pos e,if_pos (h1.symm.trans e)];exact⟨h1,h2,ry⟩
  ·rw [if_neg e,if_neg (fun z=>e (h1.trans z))];exact⟨h1,h2,h3⟩
theorem KT.put {H:Hp}{kvs:List (List Key × V)}{xs:List (List Key × Addr × Value)} (r:KT H kvs xs) (k:List Key){b:Addr}{y:V}{u:Value}(hb:H b=some (.tup (k.map kV))) (ry:RelV y u):
  KT H (putK kvs k y) (storedH xs k b u):=by
 have e:(kvs.any fun kv=>decide (kv.1=k))=(atKey xs k).isSome:=by
  rw [valV_any,(r.val k).isSome_eq,Option.isSome_map]
 unfold putK storedH
 rw [e]
 by_cases q:(atKey xs k).isSome=true
 ·rw [if_pos q,if_pos q];exact r.repl k ry
 ·rw [if_neg q,if_neg q];exact Paired.snoc r ⟨rfl,hb,ry⟩
theorem KT.keeps {H H':Hp}{kvs:List (List Key × V)}{xs:List (List Key × Addr × Value)} (r:KT H kvs xs) (ht:∀ b ys,H b=some (.tup ys)→H' b=some (.tup ys)):KT H' kvs xs:=
 Paired.mapP r fun _ _ z=>⟨z.1,ht _ _ z.2.1,z.2.2⟩
section
variable {P:Program}{w:World}{H:Hp}{h:Heap}{a:Addr}
theorem rd_of {u:HO}(ok:HOk P w H h) (e:Rd H a u):ObjOk P w H h a u:=e.ok ok
theorem dk_rd {kvs:List (Key × V)} (ok:HOk P w H h) (e:Rd H a (.dK kvs)):kvs.length≤sizeLine∧(a == sysModules)=false∧∃ vs,KV kvs vs∧h.DictOf (mixKind P w) a vs:=
 show ObjOk P w H h a (.dK kvs) from rd_of ok e
theorem dk_of {kvs:List (Key × V)} (ok:HOk P w H h) (e:H a=some (.dK kvs)):kvs.length≤sizeLine∧(a == sysModules)=false∧∃ vs,KV kvs vs∧h.DictOf (mixKind P w) a vs:=dk_rd ok (.inl e)
theorem key_of {ks:List Key}(ok:HOk P w H h) (e:H a=some (.tup (ks.map kV))):(tupleKind (mixKind P w)).is h ks a:=by
 obtain⟨_,its,r,o,h1,h2,n,h3⟩:=(show ObjOk P w H h a (.tup (ks.map kV)) from ok a _ e)
 exact⟨o,its.toArray,n,h1,h2,h3,by simpa using items_are r⟩
theorem dt_rd {kvs:List (List Key × V)} (ok:HOk P w H h) (e:Rd H a (.dT kvs)):kvs.length≤sizeLine∧(a == sysModules)=false∧
  ∃ xs,KT H kvs xs∧h.DictOfH (tupleKind (mixKind P w)) a xs:=by
 obtain⟨z,y,xs,r,o,es,ep,h1,h2,h3,h4,h5⟩:=(show ObjOk P w H h a (.dT kvs) from rd_of ok e)
 refine⟨z,y,xs,r,o,es,ep,h1,h2,h3,h4,fun x hx=>?_,h5⟩
 have all:∀ {l:List (List Key × V)}{m:List (List Key × Addr × Value)},KT H l m→∀ x∈m,(tupleKind (mixKind P w)).is h x.1 x.2.1:=by
  intro l m q
  induction q with
  | nil=>intro x hx;exact nomatch hx
  | @cons p q ps qs hq t ih=>
   intro x hx
   rcases List.mem_cons.mp hx with e | hx
   ·subst e
    exact key_of ok (by rw [← hq.1];exact hq.2.1)
   ·exact ih x hx
 exact all r x hx
theorem dt_of {kvs:List (List Key × V)} (ok:HOk P w H h) (e:H a=some (.dT kvs)):kvs.length≤sizeLine∧(a == sysModules)=false∧
  ∃ xs,KT H kvs xs∧h.DictOfH (tupleKind (mixKind P w)) a xs:=dt_rd ok (.inl e)
end
def DGet (H:Hp) (a:Addr) (y:V) (r:Option V):Prop:=
 (∃ kvs k,Rd H a (.dK kvs)∧y=kV k∧r=valV kvs k)∨∃ kvs k b,Rd H a (.dT kvs)∧y=.ref b∧H b=some (.tup (k.map kV))∧r=valV kvs k
def DPut (H:Hp) (a:Addr) (y v:V) (H':Hp):Prop:=
 (∃ kvs k,H a=some (.dK kvs)∧y=kV k∧kvs.length < sizeLine∧H'=upd H a (.dK (putK kvs k v)))∨
 ∃ kvs k b,H a=some (.dT kvs)∧y=.ref b∧H b=some (.tup (k.map kV))∧kvs.length < sizeLine∧H'=upd H a (.dT (putK kvs k v))
theorem DGet.k {H:Hp}{a:Addr}{kvs:List (Key × V)}{k:Key}(e:H a=some (.dK kvs)):DGet H a (kV k) (valV kvs k):=.inl ⟨kvs,k,.inl e,rfl,rfl⟩
theorem DPut.k {H:Hp}{a:Addr}{kvs:List (Key × V)}{k:Key}{v:V}(e:H a=some (.dK kvs)) (hl:kvs.length < sizeLine):DPut H a (kV k) v (upd H a (.dK (putK kvs k v))):=.inl ⟨kvs,k,e,rfl,hl,rfl⟩
section
variable {X:Cx}{pins:List (Addr × Obj)}{σ:St}{H:Hp}{s:Shared}{a:Addr}{y v:V}{u r:Value}{o:Option V}{A:Around}{E:Value→Shared→Prop}
theorem Inv.big (I:Inv X pins σ H s):sysModules < s.heap.objs.size:=by
 have h:mainGlobals < s.heap.objs.size:=(I.mod.glob.keeps I.bk).lt
 exact Nat.lt_trans (by decide) h
theorem d_getItem {Q:Value→Shared→Prop}(hu:A.units + 1 < cLine) (I:Inv X pins σ H s) (g:DGet H a y (some v)) (ry:RelV y u) (h:∀ w' s',Inv X pins σ H s'→RelV v w'→Q w' s'):
  wpAny (model X.prog X.w) A (getItem (.ref a) u) Q E s:=by
 rcases g with ⟨kvs,k,e,ey,l⟩ | ⟨kvs,k,b,e,ey,eb,l⟩
 ·subst ey
  obtain⟨z,hd,vs,rel,dd⟩:=dk_rd I.hok e
  obtain⟨w',hw,rw'⟩:=RelO.some_of (v:=v) (o:=valueAt vs k) (by rw [l];exact rel.val k)
  exact wpAny_getItem_of (kV_is ry) dd.mapOf hw (h w' _ (I.tok _) rw')
 ·subst ey
  cases (show u=Value.ref b from ry)
  obtain⟨z,hd,xs,rel,dd⟩:=dt_rd I.hok e
  obtain⟨w',hw,rw'⟩:=RelO.some_of (v:=v) (o:=(atKey xs k).map (·.2)) (by rw [l];exact rel.val k)
  obtain⟨p,hp,hp2⟩:=Option.map_eq_some_iff.mp hw
  refine wpAny_getItem_heap (tupleKind_room_in1 hu) (key_of I.hok eb) dd hp ?_
  rw [hp2]
  exact h w' _ (I.tok _) rw'
theorem d_in {Q:Value→Shared→Prop}(hu:A.units + 1 < cLine) (I:Inv X pins σ H s) (g:DGet H a y o) (ry:RelV y u) (h:∀ s',Inv X pins σ H s'→Q (.bool o.isSome) s'):
  wpAny (model X.prog X.w) A (compareOp .In u (.ref a)) Q E s:=by
 rcases g with ⟨kvs,k,e,ey,l⟩ | ⟨kvs,k,b,e,ey,eb,l⟩
 ·subst ey
  obtain⟨z,hd,vs,rel,dd⟩:=dk_rd I.hok e
  refine wpAny_in_of (kV_is ry) hd dd.mapOf ?_
  rw [← (rel.val k).isSome_eq,← l]
  exact h _ (I.tok _)
 ·subst ey
  cases (show u=Value.ref b from ry)
  obtain⟨z,hd,xs,rel,dd⟩:=dt_rd I.hok e
  refine wpAny_in_heap (tupleKind_room_in1 hu) (key_of I.hok eb) hd dd ?_
  have q:=(rel.val k).isSome_eq
  rw [Option.isSome_map] at q
  rw [← q,← l]
  exact h _ (I.tok _)
theorem d_notIn {Q:Value→Shared→Prop}(hu:A.units + 1 < cLine) (I:Inv X pins σ H s) (g:DGet H a y o) (ry:RelV y u) (h:∀ s',Inv X pins σ H s'→Q (.bool (!o.isSome)) s'):
  wpAny (model X.prog X.w) A (compareOp .NotIn u (.ref a)) Q E s:=by
 rcases g with ⟨kvs,k,e,ey,l⟩ | ⟨kvs,k,b,e,ey,eb,l⟩
 ·subst ey
  obtain⟨z,hd,vs,rel,dd⟩:=dk_rd I.hok e
  refine wpAny_notIn_of (kV_is ry) hd dd.mapOf ?_
  rw [← (rel.val k).isSome_eq,← l]
  exact h _ (I.tok _)
 ·subst ey
  cases (show u=Value.ref b from ry)
  obtain⟨z,hd,xs,rel,dd⟩:=dt_rd I.hok e
  refine wpAny_notIn_heap (tupleKind_room_in1 hu) (key_of I.hok eb) hd dd ?_
  have q:=(rel.val k).isSome_eq
  rw [Option.isSome_map] at q
  rw [← q,← l]
  exact h _ (I.tok _)
theorem d_write {h':Heap}{t':Nat}{ob:HO}(I:Inv X pins σ H s) (mu:Mut (H a)) (hs:Heap.SameBut a s.heap h') (he:∃ q,h'.get? a=some q) (new:ObjOk X.prog X.w (upd H a ob) h' a ob):
  Inv X pins σ (upd H a ob) { s with heap:=h',toks:=t' }:=
 I.write (x:=a) (e:=a) mu (.inl rfl) (fun b q hb z=>(hs.2 b hb).trans z) he new
theorem dk_new {P:Program}{w:World}{H':Hp}{h':Heap}{kvs:List (Key × V)}{vs:List (Key × Value)} (z:kvs.length≤sizeLine) (hd:(a == sysModules)=false) (rel:KV kvs vs) (dd:h'.DictOf (mixKind P w) a vs):
  ObjOk P w H' h' a (.dK kvs):=⟨z,hd,vs,rel,dd⟩
theorem d_setItem {H':Hp}{Q:Unit→Shared→Prop}(hu:A.units + 1 < cLine) (I:Inv X pins σ H s) (g:DPut H a y v H') (ry:RelV y u) (rv:RelV v r) (h:∀ s',Inv X pins σ H' s'→Q () s'):
  wpAny (model X.prog X.w) A (setItem (.ref a) u r) Q E s:=by
 rcases g with ⟨kvs,k,e,ey,l,eH⟩ | ⟨kvs,k,b,e,ey,eb,l,eH⟩
 ·subst ey eH
  obtain⟨z,hd,vs,rel,dd⟩:=dk_of I.hok e
  have hz:vs.length≤sizeLine:=by rw [← rel.length];exact z
  have hl:(putK kvs k v).length≤sizeLine:=by have:=length_putK kvs k v;omega
  refine wpAny_setItem_pairs (hsz:=hz) (kV_is ry) dd fun h' dd' hs=>h _ ?_
  have he:∃ q,h'.get? a=some q:=let ⟨q,_,_,hq,_⟩:=dd';⟨q,hq⟩
  exact d_write I (by rw [e];exact True.intro) hs he (dk_new hl hd (rel.put k rv) dd')
 ·subst ey eH
  cases (show u=Value.ref b from ry)
  obtain⟨z,hd,xs,rel,dd⟩:=dt_of I.hok e
  have hz:xs.length≤sizeLine:=by rw [← Paired.length rel];exact z
  have hl:(putK kvs k v).length≤sizeLine:=by have:=length_putK kvs k v;omega
  refine wpAny_setItem_heap (hsz:=hz) (tupleKind_room_in1 hu) (key_of I.hok eb) dd fun h' dd' hs=>h _ ?_
  obtain⟨q,es,ep,hq,h2,h3,h4,_,h5⟩:=dd'
  refine d_write I (by rw [e];exact True.intro) hs ⟨q,hq⟩ ⟨hl,hd,_,(rel.put k eb rv).keeps fun c ys ec=>?_,q,es,ep,hq,h2,h3,h4,h5⟩
  rw [upd_ne (ne_of ec e (fun z=>nomatch z))]
  exact ec
end
section
variable {X:Cx}{pins:List (Addr × Obj)}{σ:St}{H:Hp}{s:Shared}{a:Addr}{kvs:List (Key × V)}{k:Key}{u:Value}{A:Around}{E:Value→Shared→Prop}
theorem d_len {Q:Value→Shared→Prop}(I:Inv X pins σ H s) (e:Rd H a (.dK kvs)) (h:∀ t s',Inv X pins σ H s'→Q (.int kvs.length t) s'):wpAny (model X.prog X.w) A (call (.builtin "len") [.ref a]) Q E s:=by
 obtain⟨z,hd,vs,rel,dd⟩:=dk_rd I.hok e
 refine call_len_dict hd dd (by rw [← rel.length];rw [sizeLine_eq] at z;omega) ?_
 rw [← rel.length]
 exact h _ _ (I.tok _)
end
def NoSl (i:Expr):Prop:=∀ ov iv,subscripted i false ov iv=operate [ov,iv] (getItem ov iv)
theorem subD_of {prog:Program}{w:World}{A:Around}{E:Value→Shared→Prop}{s:Shared}{env:Env}{value slice:Expr}{pos:Pos}{T id:String}{Q:Value→Shared→Prop}
  (hl:typeLookup (.type T) "__getitem__"=pure (some (.builtin id))) (hs:NoSl slice)
  (h:wpAny (model prog w) A (eval value env) (fun o s₁=>wpAny (model prog w) A (eval slice env) (fun i s₂=>s₂.TypeIs o T∧wpAny (model prog w) A (getItem o i) Q E s₂) E s₁) E s):
  wpAny (model prog w) A (eval (.Subscript value slice pos) env) Q E s:=by
 refine Subscript_ (wpAny_mono h (fun o s₁ h₁=>wpAny_mono h₁ (fun i s₂ h₂=>?_) fun _ _ x=>x) fun _ _ x=>x)
 obtain⟨hT,h₂⟩:=h₂
 unfold subscriptTail
 refine wpAny_bind ?_
 rw [getitemInPython_of_ne hT.not_modules]
 refine wpAny_bind (wpAny_specialOf hT hl ?_)
 have fin:wpAny (model prog w) A (subscripted slice false o i) (fun r s₃=>wpAny (model prog w) A (letTemporaryGo value o r >>= fun _=>pure r) Q E s₃) E s₂:=by
  rw [hs o i]
  exact wpAny_operating (wpAny_mono h₂ (fun r s₃ h₃=>wpAny_bind (wpAny_letTemporaryGo (wpAny_pure h₃))) fun _ _ x=>x)
 first
  | exact wpAny_pure (wpAny_bind fin)
  | exact wpAny_bind (wpAny_pure (wpAny_bind fin))
  | exact wpAny_bind fin
theorem dict_typeIs {X:Cx}{pins:List (Addr × Obj)}{σ:St}{H:Hp}{s:Shared}{a:Addr}{y:V}{o:Option V}(I:Inv X pins σ H s) (g:DGet H a y o):s.TypeIs (.ref a) "dict":=by
 rcases g with ⟨kvs,k,e,_,_⟩ | ⟨kvs,k,b,e,_,_,_⟩
 ·obtain⟨_,_,vs,_,dd⟩:=dk_rd I.hok e
  exact dd.typeIs
 ·obtain⟨_,_,xs,_,dd⟩:=dt_rd I.hok e
  exact dd.typeIs
def tDGet (td ty:TE):TE:=fun σ H Q=>td σ H fun x H1=>ty σ H1 fun y H2=>∃ a v,x=.ref a∧DGet H2 a y (some v)∧Q v H2
def tDIn (ty td:TE):TE:=fun σ H Q=>ty σ H fun y H1=>td σ H1 fun x H2=>∃ a o,x=.ref a∧DGet H2 a y o∧Q (.bl o.isSome) H2
def tDNotIn (ty td:TE):TE:=fun σ H Q=>ty σ H fun y H1=>td σ H1 fun x H2=>∃ a o,x=.ref a∧DGet H2 a y o∧Q (.bl (!o.isSome)) H2
def sDPut (td ty tv:TE):TS:=fun D σ H=>tv σ H fun v H1=>td σ H1 fun x H2=>ty σ H2 fun y H3=>∃ a H4,x=.ref a∧DPut H3 a y v H4∧D.nx σ H4
section
variable {X:Cx}{o i e value:Expr}{pos pos' tpos:Pos}{td ty tv:TE}
theorem pe_dget (hu:X.A.units + 1 < cLine) (ho:PE X o td) (hi:PE X i ty) (hs:NoSl i):PE X (.Subscript o i pos) (tDGet td ty):=by
 intro pins s σ H Q I h
 refine subD_of PySem.F.slot_dict_getitem.lookup hs (thn (ho pins s σ H _ I h) fun u s1 ⟨x,H1,I1,rx,q1⟩=>thn (hi pins s1 σ H1 _ I1 q1) fun iv s2 ⟨y,H2,I2,ry,a,v,ex,g,q2⟩=>?_)
 subst ex
 obtain rfl:u=Value.ref a:=rx
 exact⟨dict_typeIs I2 g,d_getItem hu I2 g ry fun w' s3 I3 rw'=>⟨v,H2,I3,rw',q2⟩⟩
theorem pc_din (hu:X.A.units + 1 < cLine) (hi:PE X i ty) (ho:PE X o td):PC X .In i o (tDIn ty td):=by
 intro pins s σ H Q I h
 refine thn (hi pins s σ H _ I h) fun iv s1 ⟨y,H1,I1,ry,q1⟩=>thn (ho pins s1 σ H1 _ I1 q1) fun u s2 ⟨x,H2,I2,rx,a,ov,ex,g,q2⟩=>?_
 subst ex
 obtain rfl:u=Value.ref a:=rx
 exact d_in hu I2 g ry fun s3 I3=>⟨.bl ov.isSome,H2,I3,rfl,q2⟩
theorem pc_dnotin (hu:X.A.units + 1 < cLine) (hi:PE X i ty) (ho:PE X o td):PC X .NotIn i o (tDNotIn ty td):=by
 intro pins s σ H Q I h
 refine thn (hi pins s σ H _ I h) fun iv s1 ⟨y,H1,I1,ry,q1⟩=>thn (ho pins s1 σ H1 _ I1 q1) fun u s2 ⟨x,H2,I2,rx,a,ov,ex,g,q2⟩=>?_
 subst ex
 obtain rfl:u=Value.ref a:=rx
 exact d_notIn hu I2 g ry fun s3 I3=>⟨.bl (!ov.isSome),H2,I3,rfl,q2⟩
theorem ps_dput (hu:X.A.units + 1 < cLine) (ho:PE X o td) (hi:PE X i ty) (hv:PE X value tv) (hs:swapsWith value (some (.Subscript o i pos')) pos.line X.env=pure false):
  PS X (.Assign [.Subscript o i pos'] value pos) (sDPut td ty tv):=by
 intro pins s σ H D I h
 refine wpAny_Assign_Subscript (thn (hv pins s σ H _ I h) fun r s1 ⟨v,H1,I1,rv,q1⟩=>thn (ho pins s1 σ H1 _ I1 q1) fun u s2 ⟨x,H2,I2,rx,q2⟩=>thn (hi pins s2 σ H2 _ I2 q2) fun iv s3 ⟨y,H3,I3,ry,a,H4,ex,g,q3⟩=>?_) hs
 subst ex
 obtain rfl:u=Value.ref a:=rx
 exact d_setItem hu I3 g ry rv fun s4 I4=>⟨σ,H4,I4,q3⟩
end
theorem dk_empty {P:Program}{w:World}{H:Hp}(h:Heap) (hb:sysModules < h.objs.size):ObjOk P w H (h.push { cls:=.type "dict",data:=.dict #[] }) h.objs.size (.dK []):=
 ⟨Nat.zero_le _,beq_eq_false_iff_ne.mpr (Ne.symm (Nat.ne_of_lt hb)),[],.nil,Heap.DictOf.new h⟩
def tDNewK:TE:=fun _ H Q=>∀ p,H p=none→Q (.ref p) (upd H p (.dK []))
section
variable {X:Cx}{pos:Pos}
theorem pe_dnewK:PE X (.Dict [] [] pos) tDNewK:=fun pins s σ H Q I h=>
 wpAny_Dict_empty ⟨.ref s.heap.objs.size,_,I.laid (a:=s.heap.objs.size) (o:=.dK []) (t':=s.toks) (fun _ _ q=>Heap.get?_push_of_some _ q) (Nat.le_refl _) (dk_empty s.heap I.big),rfl,h _ (I.hok.fresh (Nat.le_refl _))⟩
end
section
variable {X:Cx}{pins:List (Addr × Obj)}{σ:St}{H:Hp}{s:Shared}{a:Addr}{y d:V}{u r:Value}{o:Option V}{A:Around}{E:Value→Shared→Prop}
end
section
variable {X:Cx}{o e f:Expr}{apos cpos:Pos}{td ty tx:TE}
end
section
variable {X:Cx}{pins:List (Addr × Obj)}{σ:St}{H:Hp}{s:Shared}{a:Addr}{kvs:List (Key × V)}{A:Around}{E:Value→Shared→Prop}
end
section
variable {X:Cx}{pins:List (Addr × Obj)}{σ:St}{H:Hp}{s:Shared}{a:Addr}{y:V}{u:Value}{A:Around}{E:Value→Shared→Prop}
end
end L2
namespace L2
open PySem PySem.Spec PyProof.Rows
section
variable {X:Cx}
end
section
variable {κ:Type} [DecidableEq κ]
theorem valV_in {kvs:List (κ × V)}{k:κ}{v:V}(h:valV kvs k=some v):k∈kvs.map (·.1):=by
 have q:(kvs.any fun kv=>decide (kv.1=k))=true:=by
  rw [valV_any,h]
  all_goals rfl
 obtain⟨p,hp,e⟩:=List.any_eq_true.mp q
 exact List.mem_map.mpr ⟨p,hp,of_decide_eq_true e⟩
theorem nd_snoc:∀ {l:List κ}{k:κ},l.Nodup→¬ k∈l→(l++[k]).Nodup
 | [],k,_,_=>by simp
 | a::r,k,h,hk=>by
  obtain⟨h1,h2⟩:=List.nodup_cons.mp h
  show (a::(r++[k])).Nodup
  refine List.nodup_cons.mpr ⟨fun m=>?_,nd_snoc h2 fun m=>hk (List.mem_cons.mpr (Or.inr m))⟩
  rcases List.mem_append.mp m with q | q
  ·exact h1 q
  ·exact hk (List.mem_cons.mpr (Or.inl (List.mem_singleton.mp q).symm))
end
end L2
set_option Elab.async false
set_option linter.all false
set_option maxRecDepth 100000
namespace L2
open PySem PySem.Spec PyProof.Rows
def cxComp (X:Cx) (scope:Scope) (cl:List (Str × Addr)) (N:List Str) (C:Addr) (ex:List Addr) (s₀:Shared) (H₀:Hp):Cx where
 prog:=X.prog
 w:=X.w
 K:=X.K
 mg:=X.mg
 base:=X.base
 A:=X.A
 N:=N
 s₀:=s₀
 H₀:=H₀
 env:=compEnvC scope cl C X.env
 outer:=X.stack
 stack:=X.stack
 ex:=ex
 fn:=fun _=>false
 calm:=X.calm
 pn:=X.pn
 xe:=fun _ _=>False
theorem z391 {X:Cx}{scope:Scope}{cl:List (Str × Addr)}{N:List Str}{C:Addr}{ex:List Addr}{s₀:Shared}{H₀:Hp}(c:Calm X):Calm (cxComp X scope cl N C ex s₀ H₀):=c
structure z8 (X:Cx) (scope:Scope) (tn cn:List Str) (caps:List Nat):Prop where
 kind:scope.kind=.function
 nocell:∀ y∈scope.names,y.2≠.cell
 names:∀ y∈scope.names,y.2=.local→scope.names.lookup y.1=some .local
 caught:∀ y∈scope.names,y.2=.free→X.env.kindOf y.1=some .cell∨X.env.kindOf y.1=some .free
 free:∀ y∈cn,scope.names.lookup y=some .free
 slots:caps.map (fun j=>X.N[j]?)=cn.map some
theorem z8.of {X:Cx}{scope osc:Scope}{tn cn:List Str}{caps:List Nat}(ho:X.env.scope=osc) (kind:scope.kind=.function) (nocell:∀ y∈scope.names,y.2≠.cell)
  (names:∀ y∈scope.names,y.2=.local→scope.names.lookup y.1=some .local) (caught:∀ y∈scope.names,y.2=.free→osc.names.lookup y.1=some .cell∨osc.names.lookup y.1=some .free) (free:∀ y∈cn,scope.names.lookup y=some .free)
  (slots:caps.map (fun j=>X.N[j]?)=cn.map some):z8 X scope tn cn caps:=
 ⟨kind,nocell,names,fun y hy hf=>by show X.env.scope.names.lookup y.1=_∨X.env.scope.names.lookup y.1=_;rw [ho];exact caught y hy hf,free,slots⟩
def capσ (σ:St) (caps:List Nat):St:=caps.map fun j=>(σ[j]?).getD none
theorem z108 (env:Env):∀ (names:List (Str × NameKind)) (cs:List (Str × Addr)),(∀ x∈names,x.2=.free→∃ c,env.cells.lookup x.1=some c)→(∀ y c,cs.lookup y=some c→env.cells.lookup y=some c)→
  ∃ cl:List (Str × Addr),(forIn names cs fun(x:Str × NameKind) (r:List (Str × Addr))=>(if (x.2 == NameKind.free)=true then do let a ← cellOf env x.1;pure (ForInStep.yield ((x.1,a)::r)) else pure (ForInStep.yield r):Sem (ForInStep (List (Str × Addr)))))=pure cl∧
   (∀ y c,cl.lookup y=some c→env.cells.lookup y=some c)∧(∀ x∈names,x.2=.free→∃ c,cl.lookup x.1=some c)∧∀ y c,cs.lookup y=some c→∃ c',cl.lookup y=some c'
 | [],cs,_,h2=>⟨cs,by simp,h2,fun x h=>absurd h (by simp),fun y c h=>⟨c,h⟩⟩
 | (n,k)::r,cs,h1,h2=>by
  by_cases hk:(k == NameKind.free)=true
  ·obtain⟨c,hc⟩:=h1 (n,k) List.mem_cons_self (by simpa using hk)
   have h2':∀ y d,((n,c)::cs).lookup y=some d→env.cells.lookup y=some d:=fun y d h=>by
    rw [List.lookup_cons] at h
    split at h
    ·rename_i e
     have e':y=n:=by simpa using e
     cases h
     rw [e'];exact hc
    ·exact h2 y d h
   obtain⟨cl,e,p1,p2,p3⟩:=z108 env r ((n,c)::cs) (fun x hx=>h1 x (List.mem_cons_of_mem _ hx)) h2'
   refine⟨cl,?_,p1,fun x hx hf=>?_,fun y d h=>?_⟩
   ·rw [List.forIn_cons]
    simp only [hk,if_true,cellOf,hc,pure_bind]
    exact e
   ·rcases List.mem_cons.mp hx with e1 | e1
    ·subst e1
     exact p3 n c (by rw [List.lookup_cons];simp)
    ·exact p2 x e1 hf
   ·by_cases hy:(y == n)=true
    ·exact p3 y c (by rw [List.lookup_cons,hy])
    ·exact p3 y d (by rw [List.lookup_cons];simp only [Bool.not_eq_true] at hy;rw [hy];exact h)
  ·obtain⟨cl,e,p1,p2,p3⟩:=z108 env r cs (fun x hx=>h1 x (List.mem_cons_of_mem _ hx)) h2
   refine⟨cl,?_,p1,fun x hx hf=>?_,p3⟩
   ·rw [List.forIn_cons]
    simp only [hk,if_false,pure_bind,Bool.false_eq_true]
    exact e
   ·rcases List.mem_cons.mp hx with e1 | e1
    ·subst e1
     exact absurd (by simpa using hf) hk
    ·exact p2 x e1 hf
theorem z190 {scope:Scope}{env:Env}(h:∀ x∈scope.names,x.2=.free→∃ c,env.cells.lookup x.1=some c):
  ∃ cl:List (Str × Addr),closureFor scope env=pure cl∧(∀ y c,cl.lookup y=some c→env.cells.lookup y=some c)∧∀ x∈scope.names,x.2=.free→∃ c,cl.lookup x.1=some c:=by
 obtain⟨cl,e,p1,p2,_⟩:=z108 env scope.names [] h (fun y c h=>by simp at h)
 refine⟨cl,?_,p1,p2⟩
 unfold closureFor
 simp only [bind_pure]
 first
  | exact e
  | (rw [← e];rfl)
  | (rw [← e];congr 1;funext x r;obtain⟨n,k⟩:=x;by_cases hk:(k == NameKind.free)=true <;> simp [hk])
theorem z90 {env:Env}:∀ {names:List (Str × NameKind)}{x:Str},names.lookup x=some .free→
  (names.map fun(n,k)=>if (k == NameKind.free && env.scope.kind == .function && env.kindOf n == some .cell) then(n,NameKind.cell) else(n,k)).lookup x=some .cell∨
  (names.map fun(n,k)=>if (k == NameKind.free && env.scope.kind == .function && env.kindOf n == some .cell) then(n,NameKind.cell) else(n,k)).lookup x=some .free
 | [],_,h=>by simp at h
 | (n,k)::r,x,h=>by
  have ih:=@z90 env r x
  show List.lookup x ((if (k == NameKind.free && env.scope.kind == .function && env.kindOf n == some .cell)=true then(n,NameKind.cell) else(n,k))::_)=_∨List.lookup x ((if (k == NameKind.free && env.scope.kind == .function && env.kindOf n == some .cell)=true then(n,NameKind.cell) else(n,k))::_)=_
  cases hx:x == n with
  | true=>
   simp only [List.lookup_cons,hx] at h
   cases h
   by_cases hc:(NameKind.free == NameKind.free && env.scope.kind == .function && env.kindOf n == some .cell)=true
   ·rw [if_pos hc];simp [List.lookup_cons,hx]
   ·rw [if_neg hc];simp [List.lookup_cons,hx]
  | false=>
   simp only [List.lookup_cons,hx] at h
   by_cases hc:(k == NameKind.free && env.scope.kind == .function && env.kindOf n == some .cell)=true
   ·rw [if_pos hc];simp only [List.lookup_cons,hx];exact ih h
   ·rw [if_neg hc];simp only [List.lookup_cons,hx];exact ih h
theorem z368 {env:Env}:∀ {names:List (Str × NameKind)}{x:Str},(∀ y∈names,y.2≠.cell)→
  ((names.map fun(n,k)=>if (k == NameKind.free && env.scope.kind == .function && env.kindOf n == some .cell) then(n,NameKind.cell) else(n,k)).lookup x=some .cell∨
  (names.map fun(n,k)=>if (k == NameKind.free && env.scope.kind == .function && env.kindOf n == some .cell) then(n,NameKind.cell) else(n,k)).lookup x=some .free)→names.lookup x=some .free
 | [],_,_,h=>by simp at h
 | (n,k)::r,x,hn,h=>by
  have ih:=@z368 env r x (fun y hy=>hn y (List.mem_cons_of_mem _ hy))
  have h:List.lookup x ((if (k == NameKind.free && env.scope.kind == .function && env.kindOf n == some .cell)=true then(n,NameKind.cell) else(n,k))::_)=_∨List.lookup x ((if (k == NameKind.free && env.scope.kind == .function && env.kindOf n == some .cell)=true then(n,NameKind.cell) else(n,k))::_)=_:=h
  cases hx:x == n with
  | true=>
   simp only [List.lookup_cons,hx]
   by_cases hc:(k == NameKind.free && env.scope.kind == .function && env.kindOf n == some .cell)=true
   ·have:(k == NameKind.free)=true:=by
     simp only [Bool.and_eq_true] at hc;exact hc.1.1
    have:k=.free:=by simpa using this
    rw [this]
   ·rw [if_neg hc] at h
    simp only [List.lookup_cons,hx] at h
    rcases h with h | h
    ·exact absurd (Option.some.inj h) (hn (n,k) List.mem_cons_self)
    ·rw [Option.some.inj h]
  | false=>
   simp only [List.lookup_cons,hx]
   by_cases hc:(k == NameKind.free && env.scope.kind == .function && env.kindOf n == some .cell)=true
   ·rw [if_pos hc] at h;simp only [List.lookup_cons,hx] at h;exact ih h
   ·rw [if_neg hc] at h;simp only [List.lookup_cons,hx] at h;exact ih h
section
variable {X:Cx}{scope:Scope}{tn cn:List Str}{caps:List Nat}{pins:List (Addr × Obj)}{σ:St}{H:Hp}{s:Shared}{fp:List Addr}{cl:List (Str × Addr)}{ob:Obj}
theorem z808 (S:z8 X scope tn cn caps) (I:Inv X pins σ H s) (hcl:∀ y c,cl.lookup y=some c→X.env.cells.lookup y=some c) (hcl2:∀ x∈scope.names,x.2=.free→∃ c,cl.lookup x.1=some c)
  (hf:∀ b∈fp,FpOk X pins H b) (hfp:∀ b∈fp,b < s.heap.objs.size) (N:List Str):
  (cxComp X scope cl N (s.heap.push ob).objs.size (s.heap.objs.size::fp) { s with heap:=s.heap.push ob } H).Ok:=by
 have hC:(s.heap.push ob).objs.size=s.heap.objs.size + 1:=by rw [Heap.size_push]
 refine⟨I.ok.mod,S.kind,I.ok.glob,I.ok.blt,Nat.le_refl _,fun x y c h1 h2=>I.ok.inj x y c (hcl x c h1) (hcl y c h2),fun x hx=>?_,fun x c h=>absurd h (by simp [cxComp]),I.ok.hd,I.ok.frames,.inl rfl,fun b hb=>?_,
  fun b o e=>⟨Heap.get?_push_of_some _ (I.bs b o e).1,(I.bs b o e).2⟩,?_,fun b o e hb=>?_,fun b hb z=>?_,?_,I.stkFree⟩
 ·exact hcl2 (x,.free) (PySem.mem_of_lookup (z368 S.nocell hx)) rfl
 ·rcases List.mem_cons.mp (show b∈s.heap.objs.size::fp from hb) with e | hb
  ·subst e
   refine⟨fun z=>?_,fun x c e z=>?_⟩
   ·have z':s.heap.objs.size=(s.heap.push ob).objs.size:=z
    omega
   ·obtain⟨v,q⟩:=I.cell x c (hcl x c e)
    exact absurd q.lt (by rw [z];exact Nat.lt_irrefl _)
  ·refine⟨fun z=>?_,fun x c e=>(hf b hb).2.2.2.2.1 x c (hcl x c e)⟩
   have z':b=(s.heap.push ob).objs.size:=z
   have h1:=hfp b hb
   rw [z',hC] at h1
   exact Nat.lt_irrefl _ (Nat.lt_of_succ_lt h1)
 ·show X.base.objs.size≤(s.heap.push ob).objs.size
  have h1:=I.ok.bsz
  have h2:=I.sz
  omega
 ·rcases List.mem_cons.mp (show b∈s.heap.objs.size::fp from hb) with e1 | hb
  ·subst e1
   exact absurd (Heap.lt_size (I.bk _ o e)) (Nat.lt_irrefl _)
  ·rcases (hf b hb).2.2.2.1 with z | z
   ·exact I.ok.noex b o e z
   ·have h1:=I.ok.bsz
    have h2:=Heap.lt_size e
    exact Nat.lt_irrefl _ (Nat.lt_of_lt_of_le h2 (Nat.le_trans h1 z))
 ·have z':=I.stkSub b z
  rcases List.mem_cons.mp (show b∈s.heap.objs.size::fp from hb) with e1 | hb
  ·subst e1
   rcases List.mem_cons.mp z' with z1 | z1
   ·exact absurd I.lt (by rw [← z1];exact Nat.lt_irrefl _)
   ·exact I.nofs (Nat.le_refl _) z1
  ·rcases List.mem_cons.mp z' with z1 | z1
   ·exact(hf b hb).2.1 z1
   ·exact(hf b hb).2.2.1 z1
 ·exact I.stack.of_keeps fun b o e _=>⟨o,Heap.get?_push_of_some _ e,rfl⟩
theorem z766 (S:z8 X scope tn cn caps) (I:Inv X pins σ H s) (hcl:∀ y c,cl.lookup y=some c→X.env.cells.lookup y=some c) (hcl2:∀ x∈scope.names,x.2=.free→∃ c,cl.lookup x.1=some c)
  (hf:∀ b∈fp,FpOk X pins H b) (hfp:∀ b∈fp,b < s.heap.objs.size) (hob:∀ v,ob.data≠.cell v) (hfr:ob.isFreed=false){h1:Heap}{m0:Str→Option Value}{tk:Nat}(hn:h1.Ns (s.heap.push ob).objs.size m0)
  (hk:∀ b o,(s.heap.push ob).get? b=some o→h1.get? b=some o):
  Inv (cxComp X scope cl (tn++cn) (s.heap.push ob).objs.size (s.heap.objs.size::fp) { s with heap:=s.heap.push ob } H) (X.pn++pins++[(s.heap.objs.size,ob)]) (List.replicate tn.length none++capσ σ caps) H { s with heap:=h1,toks:=tk }:=by
 have hC:(s.heap.push ob).objs.size=s.heap.objs.size + 1:=by rw [Heap.size_push]
 have hk':∀ b o,s.heap.get? b=some o→h1.get? b=some o:=fun b o e=>hk b o (Heap.get?_push_of_some _ e)
 have hlen:caps.length=cn.length:=by have:=congrArg List.length S.slots;simpa using this
 refine⟨z808 S I hcl hcl2 hf hfp _,rfl,I.bare,Un.kept hk,⟨m0,hn,fun i x v e1 e2 e3=>?_⟩,fun x c e=>?_,I.hok.fresh (by rw [hC];exact Nat.le_succ _),fun x c e=>I.freeC x c (hcl x c e),fun p hp=>?_,I.hok.kept hk',?_⟩
 ·have e1:(tn++cn)[i]?=some x:=e1
  by_cases hi:i < tn.length
  ·rw [List.getElem?_append_left (by simpa using hi),List.getElem?_replicate,if_pos hi] at e2
   cases e2
  ·have hi':tn.length≤i:=Nat.le_of_not_lt hi
   rw [List.getElem?_append_right (by simpa using hi'),List.length_replicate] at e2
   rw [List.getElem?_append_right hi'] at e1
   have hx:x∈cn:=List.mem_of_getElem? e1
   have hsl:(caps.map fun j=>X.N[j]?)[i - tn.length]?=(cn.map some)[i - tn.length]?:=by rw [S.slots]
   rw [List.getElem?_map,List.getElem?_map,e1] at hsl
   unfold capσ at e2
   rw [List.getElem?_map] at e2
   cases hj:caps[i - tn.length]? with
   | none=>rw [hj] at e2;cases e2
   | some j=>
    rw [hj] at hsl e2
    have hN:X.N[j]?=some x:=Option.some.inj hsl
    have e2:(σ[j]?).getD none=some v:=Option.some.inj e2
    have hσ:σ[j]?=some (some v):=by
     cases q:σ[j]? with
     | none=>rw [q] at e2;cases e2
     | some y=>rw [q] at e2;rw [← e2];rfl
    have hkx:=S.caught (x,.free) (PySem.mem_of_lookup (S.free x hx)) rfl
    obtain⟨m,_,hl⟩:=I.loc
    obtain⟨u,r,l⟩:=hl j x v hN hσ (by rcases hkx with z | z;exact .inr (.inl z);exact .inr (.inr z))
    refine⟨u,r,?_⟩
    rcases l with ⟨k,_⟩ | ⟨k,c,e,z⟩
    ·rcases hkx with z | z
     ·rw [show X.env.kindOf x=_ from k] at z;cases z
     ·rw [show X.env.kindOf x=_ from k] at z;cases z
    ·obtain⟨c',ec⟩:=hcl2 (x,.free) (PySem.mem_of_lookup (S.free x hx)) rfl
     have e':=hcl x c' ec
     rw [e] at e'
     cases e'
     obtain⟨oc,ho,hd⟩:=z
     exact .inr ⟨z90 (S.free x hx),c,ec,oc,hk' c oc ho,hd⟩
 ·obtain⟨v,oc,ho,hd⟩:=I.cell x c (hcl x c e)
  exact⟨v,oc,hk' c oc ho,hd⟩
 ·have hp:p∈X.pn++pins++[(s.heap.objs.size,ob)]:=(List.mem_append.mp hp).elim (fun z=>List.mem_append_left _ (List.mem_append_left _ z)) id
  rcases List.mem_append.mp hp with hp | hp
  ·obtain⟨e,n,ne,nf,d⟩:=I.pin p hp
   refine⟨hk' _ _ e,n,fun z=>?_,fun z=>?_,d⟩
   ·have z':p.1=(s.heap.push ob).objs.size:=z
    have h1:=Heap.lt_size e
    rw [z',hC] at h1
    exact Nat.lt_irrefl _ (Nat.lt_of_succ_lt h1)
   ·rcases List.mem_cons.mp (I.stkSub p.1 z) with z1 | z1
    ·exact ne z1
    ·exact nf z1
  ·have e:p=(s.heap.objs.size,ob):=by simpa using hp
   subst e
   refine⟨hk _ _ (Heap.get?_push_size _ hfr),I.hok.fresh (Nat.le_refl _),fun z=>?_,fun z=>?_,hob⟩
   ·have z':s.heap.objs.size=(s.heap.push ob).objs.size:=z
    omega
   ·rcases List.mem_cons.mp (I.stkSub s.heap.objs.size z) with z1 | z1
    ·exact absurd I.lt (by rw [← z1];exact Nat.lt_irrefl _)
    ·exact I.nofs (Nat.le_refl _) z1
 ·show (List.replicate tn.length none++capσ σ caps).length=(tn++cn).length
  unfold capσ
  simp [hlen]
theorem z773 {N:List Str}{σ0:St}{H':Hp}{s':Shared}{C:Addr}{s3:Shared}{its:List Value}{n:Nat}{ys:List V}(I:Inv X pins σ H s) (hf:∀ b∈fp,FpOk X pins H b) (hfp:∀ b∈fp,b < s.heap.objs.size) (hC:s.heap.objs.size < C)
  (hs3:∀ b o,s.heap.get? b=some o→s3.heap.get? b=some o) (hos:s3.os=s.os)
  (I':Inv (cxComp X scope cl N C (s.heap.objs.size::fp) s3 H) (X.pn++pins++[(s.heap.objs.size,{ cls:=.type "list",data:=.seq its.toArray n })]) σ0 H' s') (rv:Vals ys its) (hz:ys.length≤sizeLine):
  Inv X pins σ (upd H' s.heap.objs.size (.lst ys)) s'∧H' s.heap.objs.size=none∧FpOk X pins (upd H' s.heap.objs.size (.lst ys)) C∧∃ m,s'.heap.Ns C m:=by
 have pD:=I'.pin (s.heap.objs.size,{ cls:=.type "list",data:=.seq its.toArray n }) (by show _∈X.pn++(X.pn++pins++[_]);simp)
 have hD:H' s.heap.objs.size=none:=pD.2.1
 have base:Un (frs X.stack) (s.heap.objs.size::fp) H H' s3.heap s'.heap:=I'.base
 have old:∀ b o,s.heap.get? b=some o→b≠s.heap.objs.size:=fun b o e=>Nat.ne_of_lt (Heap.lt_size e)
 have nex:∀ b o,s.heap.get? b=some o→b ∉ fp→b ∉ s.heap.objs.size::fp:=fun b o e h z=>by
  rcases List.mem_cons.mp z with z | z
  ·exact old b o e z
  ·exact h z
 have oldT:∀ b u,H b=some u→b≠s.heap.objs.size:=fun b u e=>Nat.ne_of_lt (I.hok.lt e)
 refine⟨I.call' (ch:=fp) (I'.os.trans hos) ⟨fun b o e n hb hx=>base.keep b o (hs3 b o e) n hb (nex b o e hx),fun b o e n hb hx=>base.slot b o (hs3 b o e) n hb (nex b o e hx),fun b o e n hx=>?_,fun b o e hx=>base.there b o (hs3 b o e) (nex b o e hx),
  fun b xs e=>?_,fun b o u e=>?_,fun b ps e=>?_⟩ (fun a o e=>?_) I'.bare fun b hb=>?_,hD,I.fpOk (Nat.le_of_lt hC) ?_,?_⟩
 ·rw [upd_ne (old b o e)];exact base.free b o (hs3 b o e) n (nex b o e hx)
 ·rw [upd_ne (oldT b _ e)];exact base.tups b xs e
 ·rw [upd_ne (oldT b _ e)];exact base.frzs b o u e
 ·rw [upd_ne (oldT b _ e)];exact base.tbls b ps e
 ·by_cases ha:a=s.heap.objs.size
  ·subst ha
   rw [upd_same] at e
   cases e
   exact⟨hz,its,n,rv,pD.1⟩
  ·rw [upd_ne ha] at e
   exact(I'.hok a o e).stay (fun _ _ _ q=>q) (fun c q=>by rw [upd_ne (ne_of_none q hD)];exact q) fun c xs q=>by rw [upd_ne (ne_of_none q hD)];exact q
 ·have q:=hf b hb
  exact⟨q.2.2.2.1,q.2.1,q.2.2.2.2.1,q.2.2.2.2.2⟩
 ·rw [upd_ne (Nat.ne_of_gt hC)];exact I'.free
 ·obtain⟨m,hn,_⟩:=I'.loc
  exact⟨m,hn⟩
end
def PTs (X:Cx) (ifs:List Expr) (t:TT):Prop:=
 ∀ (pins:List (Addr × Obj)) (s:Shared) (σ:St) (H:Hp) (Q:Bool→Hp→Prop),Inv X pins σ H s→t σ H Q→
  wpAny (model X.prog X.w) X.A (forIn ifs true fun c r=>if r=true then do let ok ← isTrue c X.env (eval c X.env);pure (ForInStep.yield ok) else pure (ForInStep.yield r)) (TP X pins σ Q) X.xe s
def tYes:TT:=fun _ H Q=>Q true H
theorem z450 {X:Cx}:PTs X [] tYes:=fun _ _ _ H _ I h=>wpAny_tests_nil ⟨H,I,h⟩
theorem z77 {X:Cx}{c:Expr}{t:TT}(h:PT X c t):PTs X [c] t:=fun pins s σ H Q I hw=>wpAny_tests_one (h pins s σ H Q I hw)
theorem z477 {prog:Program}{w:World}{A:Around}{R:Result→Shared→Prop}{s:Shared}{elt target iter:Expr}{ifs:List Expr}{scope:Scope}{pos:Pos}{it acc:Value}{env:Env}(I:Nat→Shared→Prop)
  (turn:∀ n s,I n s→wpAny (model prog w) A (pyNext it) (fun r s₁=>match r with
   | none=>R (.ok .next) s₁
   | some v=>wpAny (model prog w) A (letOwnedTupleGo target it v) (fun _ s₁'=>wpAny (model prog w) A (assign target env v) (fun _ s₂=>
     wpAny (model prog w) A (forIn ifs true fun c r=>if r=true then do let ok ← isTrue c env (eval c env);pure (ForInStep.yield ok) else pure (ForInStep.yield r)) (fun ok s₃=>
      if ok=true then wpAny (model prog w) A (eval elt env) (fun x s₄=>
       wpAny (model prog w) A (call (.builtin "list.append") [acc,x]) (fun _ s₅=>∃ m,m < n∧I m s₅) (fun _ _=>False) s₄) (fun _ _=>False) s₃
      else ∃ m,m < n∧I m s₃) (fun _ _=>False) s₂) (fun _ _=>False) s₁') (fun _ _=>False) s₁) (fun _ _=>False) s)
  (n:Nat) (h:I n s):
  codeAny (model prog w) A (.compLoop (.ListComp elt [⟨target,iter,ifs,0⟩] scope pos) 0 it acc env) R s:=by
 refine codeAny_loop rfl I (fun n s hI=>?_) n h
 show wpAny _ A ((compTurn (.ListComp elt [⟨target,iter,ifs,0⟩] scope pos) 0 it acc env).onRaise (fun x=>do noteFrame x env;theTreesLotGoes x)) _ _ s
 refine wpAny_noted ?_
 rw [compTurn_list]
 refine wpAny_bind (wpAny_standAt (wpAny_bind (wpAny_mono (turn n s hI) (fun r s₁ h₁=>?_) fun _ _ h'=>h'.elim)))
 cases r with
 | none=>exact wpAny_pure h₁
 | some v=>
  refine wpAny_bind (wpAny_mono h₁ (fun _ s₁' h₁'=>?_) fun _ _ h'=>h'.elim)
  refine wpAny_bind (wpAny_mono h₁' (fun _ s₂ h₂=>wpAny_bind (wpAny_mono h₂ (fun ok s₃ h₃=>?_) fun _ _ h'=>h'.elim)) fun _ _ h'=>h'.elim)
  cases ok with
  | false=>exact wpAny_pure ⟨rfl,h₃⟩
  | true=>
   exact wpAny_bind (wpAny_bind (wpAny_mono h₃ (fun x s₄ h₄=>wpAny_bind (wpAny_mono h₄ (fun _ s₅ h₅=>wpAny_pure (wpAny_pure ⟨rfl,h₅⟩)) fun _ _ h'=>h'.elim)) fun _ _ h'=>h'.elim))
def CompW (J:It) (g:TG) (tt:TT) (te:TE) (σ0:St) (W:Nat→Nat→List V→Hp→Prop) (F:List V→Hp→Prop):Prop:=
 ∀ i m ys H,W i m ys H→(J.stop i H∧ys.length≤sizeLine∧F ys H)∨(J.go i H∧∃ N:List V→Hp→Prop,(∀ ys' H',N ys' H'→∃ m',m' < m∧W (i + 1) m' ys' H')∧
  ∀ x H',J.yld i H x H'→g x σ0 H' fun σ2 H2=>(σ2.length=σ0.length∧∀ (j:Nat) (v:V),σ0[j]?=some (some v)→σ2[j]?=some (some v))∧
   tt σ2 H2 fun b H3=>if b=true then te σ2 H3 fun y H4=>ys.length≤sizeLine∧N (ys++[y]) H4 else N ys H3)
section
variable {X:Cx}{scope:Scope}{tn cn:List Str}{caps:List Nat}
theorem z454 {tg iter elt:Expr}{ifs:List Expr}{pos:Pos}{g:TG}{tt:TT}{te:TE}{pins:List (Addr × Obj)}{σ:St}{H:Hp}{s:Shared}{it:Addr}{fp:List Addr}{tnn:Nat→Heap→Prop}{J:It}{cl:List (Str × Addr)}
  {W:Nat→Nat→List V→Hp→Prop}{F:List V→Hp→Prop}{m0:Nat}{E:Value→Shared→Prop}{RR:Value→Addr→Result→Shared→Prop}
  (S:z8 X scope tn cn caps) (hc:Calm X) (hcl:∀ y c,cl.lookup y=some c→X.env.cells.lookup y=some c) (hcl2:∀ x∈scope.names,x.2=.free→∃ c,cl.lookup x.1=some c)
  (hg:∀ C ex s₀ H₀,PG (cxComp X scope cl (tn++cn) C ex s₀ H₀) tg g) (ht:∀ C ex s₀ H₀,PTs (cxComp X scope cl (tn++cn) C ex s₀ H₀) ifs tt) (he:∀ C ex s₀ H₀,PE (cxComp X scope cl (tn++cn) C ex s₀ H₀) elt te)
  (I:Inv X pins σ H s) (T:Turn X.prog X.w X.K tg J fp it tnn) (st:tnn 0 s.heap) (hf:∀ b∈fp,FpOk X pins H b) (hW:CompW J g tt te (List.replicate tn.length none++capσ σ caps) W F) (w0:W 0 m0 [] H)
  (hRR:∀ D C s' H' ys m,H' D=none→F ys H'→Inv X pins σ (upd H' D (.lst ys)) s'→FpOk X pins (upd H' D (.lst ys)) C→s'.heap.Ns C m→RR (.ref D) C (.ok .next) s'):
  wpAny (model X.prog X.w) X.A (newList []) (fun acc s₃=>wpAny (model X.prog X.w) X.A (newFunctionEnv scope X.env.globals cl [] X.env.qual none .none (some X.env)) (fun cenv s₄=>
   codeAny (model X.prog X.w) X.A (.compStart (.ListComp elt [⟨tg,iter,ifs,0⟩] scope pos) 0 (.ref it) acc { cenv with scope:=relabel scope X.env }) (RR acc cenv.locals) s₄) E s₃) E s:=by
 have hfp:∀ b∈fp,b < s.heap.objs.size:=fun b hb=>let ⟨o,e,_⟩:=T.obj 0 s.heap st b hb;Heap.lt_size e
 refine wpAny_newObj_type (wpAny_newFunctionEnv S.nocell (by intro y hy;simp at hy) (fun h₁ hns₁ hsb₁=>?_) S.kind)
 dsimp only at hns₁ hsb₁ ⊢
 have hk:∀ b o,(s.heap.push { cls:=.type "list",dict:=none,data:=.seq ([]:List Value).toArray }).get? b=some o→h₁.get? b=some o:=fun b o e=>
  hsb₁.extBut b o (Nat.ne_of_lt (Heap.lt_size e)) (Heap.get?_push_of_some _ e)
 have I1:=z766 (tk:=s.toks + ([]:List (Str × Value)).length) S I hcl hcl2 hf hfp (ob:={ cls:=.type "list",dict:=none,data:=.seq ([]:List Value).toArray }) (fun v z=>by cases z) rfl hns₁ hk
 have hC:(s.heap.push { cls:=.type "list",dict:=none,data:=.seq ([]:List Value).toArray }).objs.size=s.heap.objs.size + 1:=by rw [Heap.size_push]
 generalize hCe:(s.heap.push { cls:=.type "list",dict:=none,data:=.seq ([]:List Value).toArray }).objs.size=C at *
 have st1:tnn 0 h₁:=T.keep 0 _ _ st fun b hb o e=>hk b o (Heap.get?_push_of_some _ e)
 have hE:∀ b o,s.heap.get? b=some o→({ s with heap:=s.heap.push { cls:=.type "list",dict:=none,data:=.seq ([]:List Value).toArray } }:Shared).heap.get? b=some o:=fun b o e=>Heap.get?_push_of_some _ e
 generalize hs3:({ s with heap:=s.heap.push { cls:=.type "list",dict:=none,data:=.seq ([]:List Value).toArray } }:Shared)=s3 at *
 have hos:s3.os=s.os:=by rw [← hs3]
 have hfp0:∀ b∈fp,H b=none:=fun b hb=>(hf b hb).1
 have stat:∀ {its:List Value}{n:Nat}{H':Hp},(∀ b∈fp,H' b=none)→∀ b∈fp,FpOk (cxComp X scope cl (tn++cn) C (s.heap.objs.size::fp) s3 H) (X.pn++pins++[(s.heap.objs.size,{ cls:=.type "list",data:=.seq its.toArray n })]) H' b:=fun{its n H'} hn b hb=>by
  have q:=hf b hb
  have hlt:=hfp b hb
  refine⟨hn b hb,fun z=>?_,fun z=>?_,.inl (List.mem_cons_of_mem _ hb),fun x c e=>q.2.2.2.2.1 x c (hcl x c e),fun p hp z=>?_⟩
  ·have z':b=C:=z
   rw [z',hC] at hlt
   exact Nat.lt_irrefl _ (Nat.lt_of_succ_lt hlt)
  ·rcases List.mem_cons.mp (I.stkSub b z) with z1 | z1
   ·exact q.2.1 z1
   ·exact q.2.2.1 z1
  ·have hp:p∈X.pn++pins++[(s.heap.objs.size,_)]:=(List.mem_append.mp hp).elim (fun z=>List.mem_append_left _ (List.mem_append_left _ z)) id
   rcases List.mem_append.mp hp with hp | hp
   ·exact q.2.2.2.2.2 p hp z
   ·have e:=List.mem_singleton.mp hp
    rw [e] at z
    have z':s.heap.objs.size=b:=z
    rw [← z'] at hlt
    exact Nat.lt_irrefl _ hlt
 have loop:∀ s₄:Shared,s₄={ s with heap:=h₁,toks:=s.toks + ([]:List (Str × Value)).length }→
   codeAny (model X.prog X.w) X.A (.compLoop (.ListComp elt [⟨tg,iter,ifs,0⟩] scope pos) 0 (.ref it) (.ref s.heap.objs.size) (compEnvC scope cl C X.env)) (RR (.ref s.heap.objs.size) C) s₄:=by
  rintro s₄ rfl
  refine z477 (fun n s'=>∃ i ys its k H',Inv (cxComp X scope cl (tn++cn) C (s.heap.objs.size::fp) s3 H) (X.pn++pins++[(s.heap.objs.size,{ cls:=.type "list",data:=.seq (List.toArray its) k })]) (List.replicate tn.length none++capσ σ caps) H' s'∧
   tnn i s'.heap∧(∀ b∈fp,H' b=none)∧Vals ys its∧W i n ys H') ?_ m0 ⟨0,[],[],0,H,I1,st1,hfp0,.nil,w0⟩
  rintro n s5 ⟨i,ys,its,k,H5,I5,st5,fr5,rv5,w5⟩
  rcases hW i n ys H5 w5 with ⟨stop,hz,f5⟩ | ⟨go,Nw,hNw,step⟩
  ·refine wpAny_mono (T.done (cxComp X scope cl (tn++cn) C (s.heap.objs.size::fp) s3 H) rfl rfl rfl (z391 hc) i _ s5 _ H5 (fun _ _=>False) I5 (stat fr5) st5 stop) (fun r s6 h6=>?_) fun _ _ z=>z
   obtain⟨hr,I6⟩:=h6
   subst hr
   obtain⟨J1,J2,J3,m,J4⟩:=z773 I hf hfp (by omega) hE hos I6 rv5 hz
   exact hRR _ _ _ _ _ m J2 f5 J1 J3 J4
  ·refine wpAny_mono (T.item (cxComp X scope cl (tn++cn) C (s.heap.objs.size::fp) s3 H) rfl rfl rfl (z391 hc) i _ s5 _ H5 (fun _ _=>False) I5 (stat fr5) st5 go) (fun r s6 h6=>?_) fun _ _ z=>z
   obtain⟨u,hr,h6⟩:=h6
   subst hr
   refine wpAny_mono h6 (fun _ s7 h7=>?_) fun _ _ z=>z
   obtain⟨x,H7,I7,r7,y7,st7,fr7⟩:=h7
   have I7':=I7.pinned (stat fr7) (T.obj _ _ st7)
   refine wpAny_mono (hg C (s.heap.objs.size::fp) s3 H _ s7 _ H7 x u _ I7' r7 (step x H7 y7)) (fun _ s8 h8=>?_) fun _ _ z=>z
   obtain⟨σ8,H8,I8,⟨hl8,hk8⟩,q8⟩:=h8
   have back:∀ {H9:Hp}{s9:Shared},Inv (cxComp X scope cl (tn++cn) C (s.heap.objs.size::fp) s3 H) (X.pn++pins++[(s.heap.objs.size,{ cls:=.type "list",data:=.seq (List.toArray its) k })]++pinsAt fp s7.heap) σ8 H9 s9→
     tnn (i + 1) s9.heap∧(∀ b∈fp,H9 b=none):=fun{H9 s9} I9=>by
    refine⟨T.keep _ _ _ st7 fun b hb o e=>(I9.pin (b,o) (List.mem_append_right _ (List.mem_append_right _ (mem_pinsAt hb e)))).1,fun b hb=>?_⟩
    obtain⟨o,e,d⟩:=T.obj _ _ st7 b hb
    exact(I9.pin (b,o) (List.mem_append_right _ (List.mem_append_right _ (mem_pinsAt hb e)))).2.1
   refine wpAny_mono (ht C (s.heap.objs.size::fp) s3 H _ s8 σ8 H8 _ I8 q8) (fun ok s9 h9=>?_) fun _ _ z=>z
   obtain⟨H9,I9,q9⟩:=h9
   cases ok with
   | false=>
    rw [if_neg (by decide)] at q9 ⊢
    obtain⟨m',hm,w9⟩:=hNw _ _ q9
    obtain⟨b1,b2⟩:=back I9
    exact⟨m',hm,i + 1,ys,its,k,H9,I9.unpinned.weak hl8.symm hk8,b1,b2,rv5,w9⟩
   | true=>
    rw [if_pos rfl] at q9 ⊢
    refine wpAny_mono (he C (s.heap.objs.size::fp) s3 H _ s9 σ8 H9 _ I9 q9) (fun yv s10 h10=>?_) fun _ _ z=>z
    obtain⟨y,H10,I10,r10,hz10,n10⟩:=h10
    obtain⟨m',hm,w10⟩:=hNw _ _ n10
    obtain⟨b1,b2⟩:=back I10
    have pD:=I10.pin (s.heap.objs.size,{ cls:=.type "list",data:=.seq (List.toArray its) k }) (List.mem_append_right _ (List.mem_append_left _ (List.mem_append_right _ (List.mem_singleton.mpr rfl))))
    refine wpAny_list_append_plain (hsz:=by rw [List.size_toArray,← rv5.length];exact hz10) ⟨k,pD.1⟩ fun h11 hl11 hs11=>?_
    obtain⟨k',e11⟩:=hl11
    have I10':Inv (cxComp X scope cl (tn++cn) C (s.heap.objs.size::fp) s3 H) (X.pn++pins) σ8 H10 s10:=I10.pins_of fun p hp=>I10.pin p (List.mem_append_right _ (List.mem_append_left _ (List.mem_append_left _ hp)))
    have I11:=I10'.turned (t':=s10.toks) (h':=h11) (it:=s.heap.objs.size) (fun b o hb e=>hs11.extBut b o hb e) pD.2.1 pD.2.2.1 (.inl List.mem_cons_self) (fun x c e z=>?_) (fun p hp z=>?_)
    ·refine⟨m',hm,i + 1,ys++[y],its++[yv],k',H10,?_,?_,b2,rv5.append (.cons r10 .nil),w10⟩
     ·refine(I11.pins_of fun p hp=>?_).weak hl8.symm hk8
      rcases List.mem_append.mp hp with hp | hp
      ·exact I11.pin p (List.mem_append_right _ hp)
      ·have e:=List.mem_singleton.mp hp
       subst e
       refine⟨?_,pD.2.1,pD.2.2.1,pD.2.2.2.1,fun v z=>by cases z⟩
       show h11.get? s.heap.objs.size=_
       rw [e11]
       simp
     ·refine T.keep _ _ _ b1 fun b hb o e=>hs11.extBut b o (fun z=>?_) e
      have h1:=hfp b hb
      rw [z] at h1
      exact Nat.lt_irrefl _ h1
    ·obtain⟨v,q⟩:=I.cell x c (hcl x c e)
     exact absurd q.lt (by rw [z];exact Nat.lt_irrefl _)
    ·have hp:p∈X.pn++pins:=(List.mem_append.mp hp).elim (fun z=>List.mem_append_left _ z) id
     exact absurd (Heap.lt_size (I.pin p hp).1) (by rw [z];exact Nat.lt_irrefl _)
 exact codeAny_compStart_list (loop _ rfl) (T.self X.A 0 _ _ _ st1 (loop _ rfl))
def tComp (wi:TI) (k:Nat) (caps:List Nat) (g:TG) (tt:TT) (te:TE):TE:=fun σ H Q=>wi σ H fun J H1=>∃ W:Nat→Nat→List V→Hp→Prop,(∃ m,W 0 m [] H1)∧
 CompW J g tt te (List.replicate k none++capσ σ caps) W fun ys H'=>∀ D,H' D=none→Q (.ref D) (upd H' D (.lst ys))
theorem z89 {tg iter elt:Expr}{ifs:List Expr}{pos:Pos}{wi:TI}{g:TG}{tt:TT}{te:TE}(S:z8 X scope tn cn caps) (hc:Calm X) (hi:PI X tg iter wi)
  (hg:∀ cl C ex s₀ H₀,PG (cxComp X scope cl (tn++cn) C ex s₀ H₀) tg g) (ht:∀ cl C ex s₀ H₀,PTs (cxComp X scope cl (tn++cn) C ex s₀ H₀) ifs tt) (he:∀ cl C ex s₀ H₀,PE (cxComp X scope cl (tn++cn) C ex s₀ H₀) elt te)
  (hs:∀ x,foldedSetIterable iter X.env x=pure x:=by intro _;rfl):PE X (.ListComp elt [⟨tg,iter,ifs,0⟩] scope pos) (tComp wi tn.length caps g tt te):=by
 intro pins s σ H Q I h
 obtain⟨cl,hcl0,hcl,hcl2⟩:=z190 (scope:=scope) (env:=X.env) fun x hx hf=>I.ok.has x.1 (S.caught x hx hf)
 rw [eval_ListComp]
 refine wpAny_comprehension_free (use:=none) rfl hs hcl0 S.kind S.names (thn (hi pins s σ H _ I h) fun v s1 h1=>thn h1 fun itv s2 h2=>?_)
 obtain⟨it,fp,tnn,J,H2,e,I2,T,st2,f2,W,⟨m0,w0⟩,turn⟩:=h2
 subst e
 refine z454 (RR:=fun acc C=>compPost (model X.prog X.w) X.A X.xe none (EP X pins σ Q) acc C) S hc hcl hcl2 (hg cl) (ht cl) (he cl) I2 T st2 f2 turn w0 ?_
 intro D C s' H' ys m hD f I' fC hn
 refine⟨m,hn,fun h' hs'=>?_⟩
 have I'':=I'.turned (t':=s'.toks) (h':=h') (it:=C) (fun b o hb e=>hs'.extBut b o hb e) fC.1 fC.2.1 fC.2.2.2.1 fC.2.2.2.2.1 fC.2.2.2.2.2
 exact⟨.ref D,_,I'',rfl,f D hD⟩
def sComp (i:Nat) (wi:TI) (k:Nat) (caps:List Nat) (g:TG) (tt:TT) (te:TE):TS:=fun D σ H=>wi σ H fun J H1=>∃ W:Nat→Nat→List V→Hp→Prop,(∃ m,W 0 m [] H1)∧
 CompW J g tt te (List.replicate k none++capσ σ caps) W fun ys H'=>∀ p,H' p=none→D.nx (σ.set i (some (.ref p))) (upd H' p (.lst ys))
theorem z373 {tg iter elt:Expr}{ifs:List Expr}{pos spos py:Pos}{y:Str}{i:Nat}{wi:TI}{g:TG}{tt:TT}{te:TE}(S:z8 X scope tn cn caps) (hc:Calm X) (hN:X.N.Nodup) (hy:X.N[i]?=some y) (hl:X.env.scope.names.lookup y=some .local)
  (hi:PI X tg iter wi)
  (hg:∀ cl C ex s₀ H₀,PG (cxComp X scope cl (tn++cn) C ex s₀ H₀) tg g) (ht:∀ cl C ex s₀ H₀,PTs (cxComp X scope cl (tn++cn) C ex s₀ H₀) ifs tt) (he:∀ cl C ex s₀ H₀,PE (cxComp X scope cl (tn++cn) C ex s₀ H₀) elt te)
  (hsw:swapsWith (.ListComp elt [⟨tg,iter,ifs,0⟩] scope pos) (some (.Name y py)) spos.line X.env=pure true)
  (hs:∀ x,foldedSetIterable iter X.env x=pure x:=by intro _;rfl):PS X (.Assign [.Name y py] (.ListComp elt [⟨tg,iter,ifs,0⟩] scope pos) spos) (sComp i wi tn.length caps g tt te):=by
 intro pins s σ H D I h
 obtain⟨cl,hcl0,hcl,hcl2⟩:=z190 (scope:=scope) (env:=X.env) fun x hx hf=>I.ok.has x.1 (S.caught x hx hf)
 rw [exec_Assign_Name_used _ _ _ _ hsw]
 refine wpAny_bind (wpAny_standAt (wpAny_bind ?_))
 show wpAny _ X.A (do let _ ← comprehension (.ListComp elt [⟨tg,iter,ifs,0⟩] scope pos) scope X.env _ (newList []) false (eval iter X.env) (some (assign (.Name y py) X.env))) _ _ s
 refine wpAny_bind (wpAny_mono (wpAny_comprehension_free (use:=some (assign (.Name y py) X.env)) (Q:=fun _ s'=>SP X pins D .next s') rfl hs hcl0 S.kind S.names
  (thn (hi pins s σ H _ I h) fun v s1 h1=>thn h1 fun itv s2 h2=>?_)) (fun _ s' hq=>wpAny_pure (wpAny_pure hq)) fun _ _ e=>e)
 obtain⟨it,fp,tnn,J,H2,e,I2,T,st2,f2,W,⟨m0,w0⟩,turn⟩:=h2
 subst e
 refine z454 (RR:=fun acc C=>compPost (model X.prog X.w) X.A X.xe (some (assign (.Name y py) X.env)) (fun _ s'=>SP X pins D .next s') acc C) S hc hcl hcl2 (hg cl) (ht cl) (he cl) I2 T st2 f2 turn w0 ?_
 intro p C s' H' ys m hD f I' fC hn
 show wpAny _ X.A (assign (.Name y py) X.env (.ref p)) _ _ _
 refine wpAny_assign_Name (store_ok2 (v:=.ref p) I' hN hy (.inl hl) rfl (fun s4 I4 ⟨a,hs4,ha⟩=>?_) (.inr hl))
 have hCa:C≠a:=by
  rcases ha with ha | ha
  ·rw [ha];exact fC.2.1
  ·exact fun z=>fC.2.2.2.2.1 y a ha z.symm
 refine⟨m,hn.sameBut hs4 hCa,fun h' hs'=>?_⟩
 have I'':=I4.turned (t':=s4.toks) (h':=h') (it:=C) (fun b o hb e=>hs'.extBut b o hb e) fC.1 fC.2.1 fC.2.2.2.1 fC.2.2.2.2.1 fC.2.2.2.2.2
 exact⟨_,_,I'',f p hD⟩
end
structure SrcIs (J:It) (H:Hp) (xs:List V):Prop where
 go:∀ i,i < xs.length→J.go i H
 yld:∀ i x H',i < xs.length→J.yld i H x H'→H'=H∧xs[i]?=some x
 stop:J.stop xs.length H
theorem src_list {K:PySem.W.Frag}{H:Hp}{a:Addr}{xs:List V}(h:SqL K H a xs):SrcIs (Itl K a) H xs:=
 ⟨fun i hi=>⟨xs,xs[i],h,by simp [hi]⟩,fun i x H' _ y=>⟨y.1,y.2 xs h⟩,⟨xs,h,Nat.le_refl _⟩⟩
theorem src_range {H:Hp}{lo:Int}{n:Nat}:SrcIs (Itr lo n) H ((List.range n).map fun i=>V.int (lo + (i:Nat))):=
 ⟨fun i hi=>(show i < n by simpa using hi),fun i x H' hi y=>⟨y.1,by
  have hi':i < n:=by simpa using hi
  have e:x=.int (lo + (i:Nat)):=y.2
  rw [e,List.getElem?_map,List.getElem?_range hi'];rfl⟩,by show n≤_;simp⟩
theorem z431 {x:V}{cs:St}:((some x::cs:St).length=(none::cs:St).length)∧∀ (j:Nat) (v:V),(none::cs:St)[j]?=some (some v)→(some x::cs:St)[j]?=some (some v):=by
 refine⟨by simp,fun j v h=>?_⟩
 cases j with
 | zero=>simp at h
 | succ j=>simpa using h
theorem z33 {J:It}{H:Hp}{xs:List V}{tt:TT}{te:TE}{cs:St}{F:List V→Hp→Prop}(S:SrcIs J H xs) (p:V→Bool) (f:V→V) (htt:∀ x∈xs,∀ Q:Bool→Hp→Prop,Q (p x) H→tt (some x::cs) H Q)
  (hte:∀ x∈xs,p x=true→∀ Q:VK,Q (f x) H→te (some x::cs) H Q) (hn:xs.length≤sizeLine) (hF:F ((xs.filter p).map f) H):
  ∃ W:Nat→Nat→List V→Hp→Prop,(∃ m,W 0 m [] H)∧CompW J (gName 0) tt te (none::cs) W F:=by
 refine⟨fun i m ys H'=>m=xs.length - i∧i≤xs.length∧H'=H∧ys=((xs.take i).filter p).map f,⟨xs.length,by simp,Nat.zero_le _,rfl,by simp⟩,?_⟩
 rintro i m ys H' ⟨rfl,hi,rfl,rfl⟩
 have hlen:(((xs.take i).filter p).map f).length≤sizeLine:=by
  rw [List.length_map]
  refine Nat.le_trans (List.length_filter_le _ _) ?_
  rw [List.length_take]
  omega
 by_cases hlt:i < xs.length
 ·refine .inr ⟨S.go i hlt,fun ys' H''=>H''=H'∧ys'=((xs.take (i + 1)).filter p).map f,fun ys' H'' h=>⟨xs.length - (i + 1),by omega,rfl,hlt,h.1,h.2⟩,fun x H'' y=>?_⟩
  obtain⟨rfl,hx⟩:=S.yld i x H'' hlt y
  have hm:x∈xs:=List.mem_of_getElem? hx
  have htk:xs.take (i + 1)=xs.take i++[x]:=by
   rw [List.take_add_one,hx];rfl
  show _∧_
  refine⟨z431,?_⟩
  refine htt x hm _ ?_
  cases hp:p x with
  | true=>
   rw [if_pos rfl]
   refine hte x hm hp _ ⟨hlen,rfl,?_⟩
   rw [htk,List.filter_append,List.map_append]
   simp [hp]
  | false=>
   rw [if_neg (by decide)]
   refine⟨rfl,?_⟩
   rw [htk,List.filter_append,List.map_append]
   simp [hp]
 ·have e:i=xs.length:=by omega
  subst e
  refine .inl ⟨S.stop,hlen,?_⟩
  rw [List.take_length]
  exact hF
theorem z810 {J:It}{H:Hp}{n:Nat}{x:Nat→V}{tt:TT}{te:TE}{cs:St}{F:List V→Hp→Prop}(Pv:Nat→List V→Hp→Prop) (h0:Pv 0 [] H)
  (hgo:∀ i ys H,i < n→Pv i ys H→J.go i H∧∀ y H',J.yld i H y H'→H'=H∧y=x i) (hstop:∀ ys H,Pv n ys H→J.stop n H)
  (hs:∀ i ys H,i < n→Pv i ys H→tt (some (x i)::cs) H fun b H3=>if b=true then te (some (x i)::cs) H3 fun y H4=>ys.length≤sizeLine∧Pv (i + 1) (ys++[y]) H4 else Pv (i + 1) ys H3)
  (hd:∀ ys H,Pv n ys H→ys.length≤sizeLine∧F ys H):
  ∃ W:Nat→Nat→List V→Hp→Prop,(∃ m,W 0 m [] H)∧CompW J (gName 0) tt te (none::cs) W F:=by
 refine⟨fun i m ys H=>m=n - i∧i≤n∧Pv i ys H,⟨n,by simp,Nat.zero_le _,h0⟩,?_⟩
 rintro i m ys H ⟨rfl,hi,p⟩
 by_cases hlt:i < n
 ·obtain⟨g1,g2⟩:=hgo i ys H hlt p
  refine .inr ⟨g1,Pv (i + 1),fun ys' H' h=>⟨n - (i + 1),by omega,rfl,hlt,h⟩,fun y H' yl=>?_⟩
  obtain⟨rfl,rfl⟩:=g2 y H' yl
  exact⟨z431,hs i ys _ hlt p⟩
 ·have e:i=n:=by omega
  subst e
  obtain⟨h1,h2⟩:=hd ys H p
  exact .inl ⟨hstop ys H p,h1,h2⟩
theorem cxK {CX:CXT}{P:Program}{w:World}{K:PySem.W.Frag}{mg:Str→Option Value}{base:Heap}{N:List Str}{qual:Str}{scope:Scope}{f:Addr}{cd:Value}{A:Around}{outer:List Env}{s:Shared}{H:Hp}{E:XK}:(cxOf CX P w K mg base N qual scope f cd A outer s H E).K=K:=rfl
theorem cxA {CX:CXT}{P:Program}{w:World}{K:PySem.W.Frag}{mg:Str→Option Value}{base:Heap}{N:List Str}{qual:Str}{scope:Scope}{f:Addr}{cd:Value}{A:Around}{outer:List Env}{s:Shared}{H:Hp}{E:XK}:(cxOf CX P w K mg base N qual scope f cd A outer s H E).A=A.deeper (envOfC qual scope s.heap.objs.size f cd):=rfl
theorem cxKc {X:Cx}{scope:Scope}{cl:List (Str × Addr)}{N:List Str}{C:Addr}{ex:List Addr}{s₀:Shared}{H₀:Hp}:(cxComp X scope cl N C ex s₀ H₀).K=X.K:=rfl
theorem cxAc {X:Cx}{scope:Scope}{cl:List (Str × Addr)}{N:List Str}{C:Addr}{ex:List Addr}{s₀:Shared}{H₀:Hp}:(cxComp X scope cl N C ex s₀ H₀).A=X.A:=rfl
end L2
set_option Elab.async false
set_option linter.all false
set_option maxRecDepth 100000
namespace L2
open PySem PySem.Spec PyProof.Rows
def chr1 (c:Nat):V:=.str ⟨#[c]⟩
def Its (x:Str):It:=⟨fun i _=>i < x.cps.size,fun i H v H'=>H'=H∧∃ c,x.cps[i]?=some c∧v=chr1 c,fun i _=>x.cps.size≤i⟩
theorem z765 {P:Program}{w:World}{K:PySem.W.Frag}{tg:Expr}(it:Addr) (x:Str) (t:Tok){ty:String}(hty:ty="str_ascii_iterator"∨ty="str_iterator"):Turn P w K tg (Its x) [it] it (fun i h=>h.IsStrIter it ty x t i) where
 mem:=by simp
 obj:=fun i h st b hb=>by
  have e:b=it:=by simpa using hb
  subst e
  obtain⟨o,e,c,d⟩:=st
  exact⟨o,e,fun v z=>by rw [d] at z;cases z⟩
 keep:=fun i h h' st k=>let ⟨o,e,r⟩:=st;⟨o,k it (by simp) o e,r⟩
 item:=by
  intro X hP hw hK hc i pins s σ H E I hf st hg
  subst hP hw hK
  have hi:i < x.cps.size:=hg
  obtain⟨f0,f1,f2,f3,f4,f5⟩:=hf it (by simp)
  have hx:x.cps[i]?=some x.cps[i]:=by simp [hi]
  have fin:∀ h',h'.IsStrIter it ty x t (i + 1)→Heap.SameBut it s.heap h'→∃ u,some (Value.str ⟨#[x.cps[i]]⟩ s.toks)=some u∧
    wpAny (model X.prog X.w) X.A (letOwnedTupleGo tg (.ref it) u) (fun _ s2=>∃ y H',Inv X pins σ H' s2∧RelV y u∧(Its x).yld i H y H'∧s2.heap.IsStrIter it ty x t (i + 1)∧∀ b∈[it],H' b=none) E { s with heap:=h',toks:=s.toks + 1 }:=fun h' st' sb=>by
   have I1:Inv X pins σ H { s with heap:=h',toks:=s.toks + 1 }:=I.turned (fun b o hb e=>(sb.2 b hb).trans e) f0 f1 f3 f4 f5
   obtain⟨o,e,c,d⟩:=id st'
   refine⟨_,rfl,go_of (s:={ s with heap:=h',toks:=s.toks + 1 }) e c d ?_ ⟨chr1 x.cps[i],H,I1,⟨_,rfl⟩,⟨rfl,_,hx,rfl⟩,st',fun b hb=>(hf b hb).1⟩⟩
   rcases hty with z | z <;> (subst z;decide)
  rcases hty with z | z
  ·subst z;exact wpAny_pyNext_ascii_item st hx fin
  ·subst z;exact wpAny_pyNext_wide_item st hx fin
 done:=by
  intro X hP hw hK hc i pins s σ H E I hf st hg
  subst hP hw hK
  have hi:x.cps.size≤i:=hg
  obtain⟨f0,f1,f2,f3,f4,f5⟩:=hf it (by simp)
  have hx:x.cps[i]?=none:=by simp [hi]
  have fin:∀ h',Heap.ExtBut it s.heap h'→(none:Option Value)=none∧Inv X pins σ H { s with heap:=h' }:=fun h' eb=>⟨rfl,I.turned (t':=s.toks) (fun b o hb e=>eb b o hb e) f0 f1 f3 f4 f5⟩
  rcases hty with z | z
  ·subst z;exact z495 (.inl rfl) (I.calm hc) st hx fin
  ·subst z;exact z495 (.inr rfl) (I.calm hc) st hx fin
 self:=fun _ _ _ _ _ st h=>by
  rcases hty with z | z
  ·subst z;exact wpAny_pyIter_striter_ascii st h
  ·subst z;exact wpAny_pyIter_striter_wide st h
def iStr (tl:TE):TI:=fun σ H R=>tl σ H fun v H1=>∃ x,v=.str x∧R (Its x) H1
theorem pi_str {X:Cx}{tg l:Expr}{tl:TE}(hl:PE X l tl):PI X tg l (iStr tl):=by
 intro pins s σ H R I h
 refine thn (hl pins s σ H _ I h) fun v s1 ⟨y,H1,I1,r1,q1⟩=>?_
 obtain⟨x,e,q⟩:=q1
 subst e
 obtain⟨t,rfl⟩:=r1
 have fin:∀ ty,(ty="str_ascii_iterator"∨ty="str_iterator")→PIE X pins σ tg R (.ref s1.heap.objs.size) { s1 with heap:=s1.heap.push { cls:=.type ty,data:=.fields #[.str x t,.int 0 0] } }:=fun ty hty=>by
  refine⟨s1.heap.objs.size,[s1.heap.objs.size],_,_,H1,rfl,I1.kept (t':=s1.toks) fun b o e=>Heap.get?_push_of_some _ e,z765 _ x t hty,⟨_,Heap.get?_push_size _ rfl,rfl,rfl⟩,fun b hb=>?_,q⟩
  have e:b=s1.heap.objs.size:=by simpa using hb
  subst e
  exact I1.fpOk (Nat.le_refl _) (I1.hok.fresh (Nat.le_refl _))
 cases ha:x.cps.all (· < 128)
 ·exact wpAny_pyIter_wide ha (fin _ (.inr rfl))
 ·exact wpAny_pyIter_ascii ha (fin _ (.inl rfl))
theorem z742 {H:Hp}{x:Str}:SrcIs (Its x) H (x.cps.toList.map chr1):=
 ⟨fun i hi=>(show i < x.cps.size by simpa using hi),fun i v H' hi y=>⟨y.1,by
  obtain⟨c,e1,e2⟩:=y.2
  rw [e2,List.getElem?_map,Array.getElem?_toList,e1];rfl⟩,by show x.cps.size≤_;simp⟩
section
variable {X:Cx}
theorem z510:OpR X (compareOp .In) (fun x y H Q=>∃ c j,x=chr1 c∧y=.str j∧Q (.bl (decide (c∈j.cps.toList))) H):=by
 intro pins s σ H x y v u Q I rx ry h
 obtain⟨c,j,rfl,rfl,q⟩:=h
 refine op_in_str pins s σ H _ _ v u Q I rx ry ⟨_,j,rfl,rfl,?_⟩
 rw [PySem.StrLaws.found_one]
 exact q
theorem z588:OpR X (binaryOp .Mult) (fun x y H Q=>∃ z n,x=.str z∧y=.int n∧MulOk z n∧Q (.str (Txt.mul z n)) H):=by
 intro pins s σ H x y v u Q I rx ry h
 obtain⟨z,n,rfl,rfl,hok,q⟩:=h
 obtain⟨t,rfl⟩:=rx
 obtain⟨t',rfl⟩:=ry
 exact SB.mul hok fun t'' k=>⟨.str (Txt.mul z n),H,I.tok _,⟨_,rfl⟩,q⟩
def tSlS (te:TE) (tl th:TO):TE:=fun σ H Q=>te σ H fun x H1=>tl σ H1 fun l H2=>th σ H2 fun u H3=>∃ z,x=.str z∧z.length≤sizeLine∧Q (.str (Txt.slice z l u)) H3
theorem z514 {e:Expr}{lo hi:Option Expr}{te:TE}{tl th:TO}{p2 pos:Pos}(he:PE X e te) (hl:PO X lo tl) (hu:PO X hi th):PE X (.Subscript e (.Slice lo hi none p2) pos) (tSlS te tl th):=by
 intro pins s σ H Q I h
 refine Subscript_ (thn (he pins s σ H _ I h) fun v s1 ⟨x,H1,I1,r1,q1⟩=>?_)
 refine wpAny_Slice (thn (hl pins s1 σ H1 _ I1 q1) fun vl s2 ⟨l,H2,I2,pl,q2⟩=>thn (hu pins s2 σ H2 _ I2 q2) fun vu s3 ⟨u,H3,I3,pu,q3⟩=>?_)
 rw [evalPart_none]
 refine wpAny_pure ?_
 obtain⟨z,rfl,hz,q⟩:=q3
 obtain⟨t,rfl⟩:=r1
 show wpAny (model X.prog X.w) X.A (subscriptTail e (.Slice lo hi none p2) (.str z t) (.ref s3.heap.objs.size)) (EP X pins σ Q) X.xe { s3 with heap:=s3.heap.push { cls:=.type "slice",data:=.fields #[vl,vu,.none] } }
 have hk:KeptH fun h'=>∀ b o,s3.heap.get? b=some o→h'.get? b=some o:=fun h ob p b o e=>Heap.get?_push_of_some _ (p b o e)
 have fin:∀ h' t' k,(∀ b o,s3.heap.get? b=some o→h'.get? b=some o)→EP X pins σ Q (.str (Txt.slice z l u) t') { s3 with heap:=h',toks:=k }:=fun h' t' k kp=>⟨.str (Txt.slice z l u),H3,I3.kept kp,⟨t',rfl⟩,q⟩
 have hI:ItemOn (model X.prog X.w) X.A X.xe (.str z t) (.ref s3.heap.objs.size) (EP X pins σ Q) { s3 with heap:=s3.heap.push { cls:=.type "slice",data:=.fields #[vl,vu,.none] } }:=by
  cases pl with
  | none=>
   cases pu with
   | none=>exact SBH.sliceItem_nn hk (fun b o e=>e) fin hz
   | int=>exact SBH.sliceItem_ns hk (fun b o e=>e) fin hz
  | int=>
   cases pu with
   | none=>exact SBH.sliceItem_sn hk (fun b o e=>e) fin hz
   | int=>exact SBH.sliceItem_ss hk (fun b o e=>e) fin hz
 obtain⟨T,id,hlk,hT,hg⟩:=hI
 exact tail_any (ops:=[.ref s3.heap.objs.size,.str z t]) hT hlk hg (by with_unfolding_all rfl)
theorem all_range (bs:List Bool):(List.range bs.length).all (fun i=>bs.getD i false)=bs.all id:=by
 rw [Bool.eq_iff_iff,List.all_eq_true,List.all_eq_true]
 constructor
 ·intro h b hb
  obtain⟨i,hi,e⟩:=List.mem_iff_getElem.mp hb
  have q:=h i (List.mem_range.mpr hi)
  simpa [List.getD,hi,e] using q
 ·intro h i hi
  have hi':=List.mem_range.mp hi
  have q:=h bs[i] (List.getElem_mem hi')
  simpa [List.getD,hi'] using q
theorem z240:CallR X (.builtin "all") (fun xs H Q=>∃ (a:Addr) (bs:List Bool),xs=[.ref a]∧X.A.handled=none∧SqL X.K H a (bs.map V.bl)∧Q (.bl (bs.all id)) H):=by
 intro pins s σ H xs us Q I r h
 obtain⟨a,bs,rfl,hh,hq,q⟩:=h
 obtain⟨u,rfl,ru⟩:=vals1 r
 cases ru
 obtain⟨its,rv,p,hz⟩:=I.list hq
 have hl:=rv.length
 rw [List.length_map] at hl
 obtain⟨o,ho,_⟩:=id p.isList
 have hlt:=Heap.lt_size ho
 refine call_all_walk (wpAny_pyIter_list p.isList ?_)
 refine⟨s.heap.objs.size,_,_,_,_,_,fun i=>bs.getD i false,rfl,Walks.list (A:=X.A.in1) hh s.heap.objs.size a (Nat.ne_of_lt hlt) its.toArray,⟨⟨_,Heap.get?_push_size _ rfl,rfl,rfl⟩,p.isList.at fun o e=>Heap.get?_push_of_some _ e⟩,?_,fun h' tk hk=>?_⟩
 ·intro i v s' Q' E' hv hQ
  have hv:its.toArray[i]?=some v:=hv
  have hi:its[i]?=some v:=by simpa using hv
  have hib:i < bs.length:=by rw [hl];exact(List.getElem?_eq_some_iff.mp hi).1
  obtain⟨u,hu,ru⟩:=rv.get (i:=i) (x:=V.bl bs[i]) (by simp [hib])
  rw [hi] at hu
  cases hu
  cases ru
  refine wpAny_truthy_bool ?_
  have e:bs.getD i false=bs[i]:=by simp [List.getD,hib]
  rw [← e]
  exact hQ
 ·rw [List.size_toArray,← hl,all_range]
  refine⟨.bl (bs.all id),H,I.kept fun b o e=>?_,rfl,q⟩
  exact hk b o (fun z=>Nat.lt_irrefl _ (by have:=Heap.lt_size e;rw [List.mem_singleton.mp z] at this;exact this)) (Heap.get?_push_of_some _ e)
end
theorem z113 (x y:Str):(x++y).cps.toList=x.cps.toList++y.cps.toList:=by
 show (x.cps++y.cps).toList=_
 simp
theorem z213 {x y:Str}(h:x.cps.toList=y.cps.toList):x=y:=by
 obtain⟨a⟩:=x
 obtain⟨b⟩:=y
 congr 1
 exact Array.toList_inj.mp h
theorem z109 (x:Str):x.cps.toList.length=x.length:=by simp [Str.length]
theorem z502 (a:Array Nat):∀ (k:Nat) (acc:Array Nat),((List.replicate k a).foldl (·++·) acc).toList=acc.toList++(List.replicate k a.toList).flatten
 | 0,acc=>by simp
 | k + 1,acc=>by
  rw [List.replicate_succ,List.foldl_cons,z502 a k,List.replicate_succ,List.flatten_cons]
  simp
theorem mul_list (x:Str) (n:Nat):(Txt.mul x (n:Int)).cps.toList=(List.replicate n x.cps.toList).flatten:=by
 unfold Txt.mul
 by_cases h1:(n:Int) < 1
 ·have h0:n=0:=by omega
  subst h0
  rw [if_pos h1]
  rfl
 ·rw [if_neg h1]
  by_cases h2:((n:Int) == 1 || x.length == 0)=true
  ·rw [if_pos h2]
   rcases Bool.or_eq_true_iff.mp h2 with h | h
   ·have h0:n=1:=by have:=eq_of_beq h;omega
    subst h0
    simp
   ·have h0:x.cps.toList=[]:=List.length_eq_zero_iff.mp (by rw [z109];exact eq_of_beq h)
    rw [h0]
    have:∀ k:Nat,(List.replicate k ([]:List Nat)).flatten=[]:=fun k=>by induction k with
     | zero=>rfl
     | succ k ih=>rw [List.replicate_succ,List.flatten_cons,ih];rfl
    exact(this n).symm
  ·rw [if_neg h2]
   show ((List.replicate (n:Int).toNat x.cps).foldl (·++·) #[]).toList=_
   rw [z502]
   simp
theorem mul_ok (x:Str) (n:Nat) (hn:n≤100000) (h:x.length * n≤100000):MulOk x (n:Int):=by
 have hz:(100000:Nat)≤sizeLine:=by rw [sizeLine_eq];decide
 refine⟨?_,fun h1 h2=>?_,fun h1 h2=>?_⟩
 ·rw [decide_eq_false (by omega),decide_eq_false (by omega)];rfl
 ·have hp:(0:Int) < n:=by omega
  rw [gt_iff_lt,Int.not_lt,Int.le_ediv_iff_mul_le hp]
  have e:((x.length:Int)) * (n:Int)=((x.length * n:Nat):Int):=by simp
  rw [e]
  omega
 ·unfold Builtin.Str.tooLong
  rw [Int.toNat_natCast]
  exact decide_eq_false (by omega)
end L2
set_option Elab.async false
set_option linter.all false
set_option maxRecDepth 100000
namespace L2
open PySem PySem.Spec PyProof.Rows
mutual
inductive Den (K:PySem.W.Frag) (H:Hp):V→PyData→Prop
 | non:Den K H .non .none
 | bl (b:Bool):Den K H (.bl b) (.bool b)
 | int (i:Int):Den K H (.int i) (.int i)
 | str (x:Str):Den K H (.str x) (.str x)
 | lst {a:Addr}{xs:List V}{ds:List PyData}:SqL K H a xs→DenAll K H xs ds→Den K H (.ref a) (.list ds)
 | tup {a:Addr}{xs:List V}{ds:List PyData}:SqT K H a xs→DenAll K H xs ds→Den K H (.ref a) (.tuple ds)
inductive DenAll (K:PySem.W.Frag) (H:Hp):List V→List PyData→Prop
 | nil:DenAll K H [] []
 | cons {x:V}{xs:List V}{d:PyData}{ds:List PyData}:Den K H x d→DenAll K H xs ds→DenAll K H (x::xs) (d::ds)
end
section
variable {X:Cx}{pins:List (Addr × Obj)}{σ:St}{H:Hp}{s:Shared}
mutual
theorem Den.reads (I:Inv X pins σ H s):∀ {x:V}{d:PyData}{u:Value},Den X.K H x d→RelV x u→∃ as,Reads s.heap u d as
 | _,_,_,.non,r=>by cases r;exact⟨_,Reads.none⟩
 | _,_,_,.bl b,r=>by cases r;exact⟨_,Reads.bool b⟩
 | _,_,_,.int i,r=>by obtain⟨t,rfl⟩:=r;exact⟨_,Reads.int i t⟩
 | _,_,_,.str x,r=>by obtain⟨t,rfl⟩:=r;exact⟨_,Reads.str x t⟩
 | _,_,_,.lst h hs,r=>by
  cases r
  obtain⟨its,rv,p,hz⟩:=I.list h
  obtain⟨as,q⟩:=DenAll.reads I hs rv
  obtain⟨o,ho,hc,n,hd⟩:=p.isList
  exact⟨_,reads_list_at ho hc hd (by simpa using q)⟩
 | _,_,_,.tup h hs,r=>by
  cases r
  obtain⟨its,rv,p,hz⟩:=I.tuple h
  obtain⟨as,q⟩:=DenAll.reads I hs rv
  obtain⟨o,ho,hc,n,hd⟩:=(show s.heap.IsTuple _ _ from p)
  exact⟨_,reads_tuple_at ho hc hd (by simpa using q)⟩
theorem DenAll.reads (I:Inv X pins σ H s):∀ {xs:List V}{ds:List PyData}{us:List Value},DenAll X.K H xs ds→Vals xs us→∃ as,ReadsAll s.heap us ds as
 | _,_,_,.nil,r=>by cases r;exact⟨_,ReadsAll.nil⟩
 | _,_,_,.cons h hs,r=>by
  cases r with
  | cons r rr=>
   obtain⟨as,q⟩:=Den.reads I h r
   obtain⟨bs,p⟩:=DenAll.reads I hs rr
   exact⟨_,ReadsAll.cons q p⟩
end
def rEqD (K:PySem.W.Frag) (neg:Bool):R2:=fun x y H Q=>∃ d e,Den K H x d∧Den K H y e∧SeqAt.shaped d=true∧SeqAt.shaped e=true∧Q (.bl (if neg then !PyData.eqv d e else PyData.eqv d e)) H
theorem op_eqD (hu:X.A.units + 64 < cLine):OpR X (compareOp .Eq) (rEqD X.K false):=by
 intro pins s σ H x y v u Q I rx ry h
 obtain⟨d,e,hd,he,sd,se,q⟩:=h
 obtain⟨as,ra⟩:=hd.reads I rx
 obtain⟨bs,rb⟩:=he.reads I ry
 exact eq_dataH ra rb sd se hu (fin_bl I q rfl)
theorem op_neD (hu:X.A.units + 64 < cLine):OpR X (compareOp .NotEq) (rEqD X.K true):=by
 intro pins s σ H x y v u Q I rx ry h
 obtain⟨d,e,hd,he,sd,se,q⟩:=h
 obtain⟨as,ra⟩:=hd.reads I rx
 obtain⟨bs,rb⟩:=he.reads I ry
 exact ne_dataH ra rb sd se hu (fin_bl I q rfl)
end
theorem z341 {K:PySem.W.Frag}{H:Hp}:∀ ns:List Int,DenAll K H (ns.map V.int) (ns.map PyData.int)
 | []=>.nil
 | n::r=>.cons (.int n) (z341 r)
section
variable {X:Cx}
theorem z36:CallR X (.builtin "isinstance") (fun xs H Q=>∃ x n t b,xs=[x,.ty n]∧TyOf X.K H x t∧PySem.W.kitOne X.K t (.type n)=some b∧Q (.bl b) H):=by
 intro pins s σ H xs us Q I r h
 obtain⟨x,n,t,b,rfl,ty,e,q⟩:=h
 obtain⟨u,v,rfl,ru,rv⟩:=vals2 r
 cases rv
 exact isinst_ok I ru ty e fun tk=>⟨.bl b,H,I.tok _,rfl,q⟩
end
end L2
set_option Elab.async false
set_option linter.all false
set_option maxRecDepth 100000
namespace L2
open PySem PySem.Spec PyProof.Rows
namespace RevF
end RevF
section
variable {X:Cx}
end
end L2
set_option Elab.async false
set_option linter.all false
set_option maxRecDepth 100000
namespace L2
open PySem PySem.Spec PyProof.Rows
section
variable {X:Cx}
end
end L2
set_option Elab.async false
set_option linter.all false
set_option maxRecDepth 100000
namespace L2
open PySem PySem.Spec PyProof.Rows
theorem vis_of {X:Cx}{sc:Scope}{x:Str}(h:Vis sc x) (e:X.env.scope=sc:=by rfl):Vis X.env.scope x:=e ▸ h
theorem gl_of {X:Cx}{sc:Scope}{x:Str}(h:sc.names.lookup x=some .globalImplicit) (e:X.env.scope=sc:=by rfl):Gl X x:=by
 show X.env.scope.names.lookup x=_
 rw [e]
 exact h
theorem loc_of {X:Cx}{sc:Scope}{x:Str}(h:sc.names.lookup x=some .local∨sc.names.lookup x=some .cell) (e:X.env.scope=sc:=by rfl):Loc X.env.scope x:=e ▸ h
def plainE:Expr→Bool
 | .Starred _ _=>false
 | _=>true
def plainAll:List Expr→Bool
 | []=>true
 | e::r=>plainE e && plainAll r
theorem stp {e:Expr}{es:List Expr}{env:Env}(h:plainE e=true):starEach (e::es) env=(false,eval e env)::starEach es env:=by
 cases e <;> first | rfl | cases h
theorem st1 {e:Expr}{env:Env}(h:plainE e=true):starEach [e] env=[(false,eval e env)]:=by
 rw [stp h];rfl
theorem st2 {e d:Expr}{env:Env}(h:plainE e=true) (h2:plainE d=true):starEach [e,d] env=[(false,eval e env),(false,eval d env)]:=by
 rw [stp h,st1 h2]
theorem anp {env:Env}{pos:Pos}:∀ {es:List Expr},plainAll es=true→(backTo pos (starEach es env)).any (·.1)=false
 | [],_=>rfl
 | e::r,h=>by
  have h':(plainE e && plainAll r)=true:=h
  rw [Bool.and_eq_true] at h'
  rw [stp h'.1]
  show (false || (backTo pos (starEach r env)).any (·.1))=false
  rw [anp h'.2]
  rfl
end L2
set_option Elab.async false
set_option linter.all false
set_option maxRecDepth 100000
namespace HT
open PySem PyProof.Rows
section
variable {prog:Program}{w:World}{A:Around}{E:Value→Shared→Prop}{s:Shared}
end
end HT
namespace L2
open PySem PySem.Spec PyProof.Rows
section
variable {X:Cx}
end
end L2
set_option Elab.async false
set_option linter.all false
set_option maxRecDepth 100000
namespace L2
open PySem PySem.Spec PyProof.Rows
def ForJ (J:It) (g:TG) (tb:TS) (D:Ends) (σ:St) (H1:Hp):Prop:=∃ W:Nat→Nat→St→Hp→Prop,(∃ m,W 0 m σ H1)∧∀ i m σ H,W i m σ H→
 (J.stop i H∧D.nx σ H)∨(J.go i H∧∃ N:St→Hp→Prop,(∀ σ' H',N σ' H'→∃ m',m' < m∧W (i + 1) m' σ' H')∧∀ x H',J.yld i H x H'→g x σ H' fun σ2 H2=>tb { D with nx:=N,ct:=N,bk:=D.nx } σ2 H2)
theorem z753 {wi:TI}{g:TG}{tb:TS}{D:Ends}{σ:St}{H:Hp}:tFor wi g tb D σ H=wi σ H fun J H1=>ForJ J g tb D σ H1:=rfl
theorem zz0 {H:Hp}{p:Addr}{o:HO}(h:H p=none):Same H (upd H p o):=fun b u e=>by rw [upd_ne (ne_of_none e h)];exact e
theorem z387 {H H1:Hp}{p:Addr}{o:HO}(h:Same H H1) (hp:H p=none):Same H (upd H1 p o):=fun b u e=>by rw [upd_ne (ne_of_none e hp)];exact h b u e
theorem z60 {K:PySem.W.Frag}{H:Hp}{a:Addr}{ns:List Int}(h:SqL K H a (ns.map V.int)):Den K H (.ref a) (.list (ns.map PyData.int)):=.lst h (z341 ns)
theorem z352:∀ ns:List Int,PyData.canLayAll0 (ns.map PyData.int)=true
 | []=>rfl
 | n::r=>by simp [PyData.canLayAll0,PyData.canLay0,z352 r]
theorem z447:∀ ns:List Int,PyData.depthAll (ns.map PyData.int)=0
 | []=>rfl
 | n::r=>by simp [PyData.depthAll,PyData.depth,z447 r]
theorem shaped_ints (ns:List Int):SeqAt.shaped (.list (ns.map PyData.int))=true:=by
 simp [SeqAt.shaped,PyData.canLay0,PyData.depth,z352 ns,z447 ns]
mutual
theorem z386:∀ d:PyData,d.canLay0=true→PyData.eqv d d=true
 | .none,_=>rfl
 | .bool b,_=>by simp [PyData.eqv]
 | .int i,_=>by simp [PyData.eqv]
 | .str x,_=>by simp [PyData.eqv]
 | .list xs,h=>by
  have h':PyData.canLayAll0 xs=true:=h
  show PyData.eqvAll xs xs=true
  exact z238 xs h'
 | .tuple xs,h=>by
  have h':PyData.canLayAll0 xs=true:=h
  show PyData.eqvAll xs xs=true
  exact z238 xs h'
 | .dict _,h=>by cases h
theorem z238:∀ ds:List PyData,PyData.canLayAll0 ds=true→PyData.eqvAll ds ds=true
 | [],_=>rfl
 | d::r,h=>by
  have h':(PyData.canLay0 d && PyData.canLayAll0 r)=true:=h
  rw [Bool.and_eq_true] at h'
  show (PyData.eqv d d && PyData.eqvAll r r)=true
  rw [z386 d h'.1,z238 r h'.2]
  rfl
end
end L2
set_option Elab.async false
set_option linter.all false
set_option maxRecDepth 100000
namespace HT
open PySem PyProof.Rows
section
variable {prog:Program}{w:World}{A:Around}{E:Value→Shared→Prop}{s:Shared}
theorem z130 {α β:Type}{f:α→Option β}{g:α→β}:∀ {l:List α},(∀ m∈l,f m=some (g m))→l.filterMap f=l.map g
 | [],_=>rfl
 | a::r,h=>by
  rw [List.filterMap_cons,h a List.mem_cons_self,List.map_cons,z130 fun m hm=>h m (List.mem_cons_of_mem _ hm)]
end
end HT
namespace L2
open PySem PySem.Spec PyProof.Rows
section
variable {X:Cx}{pos:Pos}
end
end L2
set_option Elab.async false
set_option linter.all false
set_option maxRecDepth 100000
namespace L2
open PySem PySem.Spec PyProof.Rows
theorem z583:∀ {ys:List Str}{us:List Value},Vals (ys.map V.str) us→StrsAre us ys:=by
 intro ys
 induction ys with
 | nil=>intro us r;rw [List.map_nil] at r;cases r;exact .nil
 | cons n ns ih=>
  intro us r
  rw [List.map_cons] at r
  cases r with
  | cons r1 r2=>
   obtain⟨t,e⟩:=r1
   subst e
   exact .cons n t (ih r2)
section
variable {X:Cx}
def rJoin (K:PySem.W.Frag):V→List V→Hp→VK→Prop:=fun x vs H Q=>∃ (sep:Str) (a:Addr) (ys:List Str),x=.str sep∧vs=[.ref a]∧SqL K H a (ys.map V.str)∧(ys.map (·.length)).sum + ys.length * sep.length≤16777216∧Q (.str (Txt.join sep ys)) H
theorem z744:MtR X "str.join" (rJoin X.K):=by
 intro pins s σ H x vs v us Q I rx rv h
 obtain⟨sep,a,ys,rfl,rfl,hq,hok,q⟩:=h
 obtain⟨t,rfl⟩:=rx
 obtain⟨u,rfl,ru⟩:=rv.one
 cases ru
 obtain⟨its,r,pl,hz⟩:=I.list hq
 exact join_list pl.isList (z583 (by simpa using r)) hok fun t' k=>⟨.str (Txt.join sep ys),H,I.tok _,⟨t',rfl⟩,q⟩
end
end L2
set_option Elab.async false
set_option linter.all false
set_option maxRecDepth 100000
namespace L2
open PySem PySem.Spec PyProof.Rows
section
variable {X:Cx}{K:PySem.W.Frag}
theorem z797 {e:Expr}{f:Str}{pos:Pos}{ta:TE}(hK:X.K=K) (he:PE X e ta) (hb:attributeBase e f X.env (eval e X.env)=eval e X.env):PE X (.Attribute e f pos) (tFld K ta f):=by
 subst hK
 exact pe_fld he hb
theorem z780 (hK:X.K=K):IxR X (rIxL K):=by subst hK;exact ix_list
theorem z818 (hK:X.K=K):IxR X (rIxT K):=by subst hK;exact ix_tup
theorem z417 (hK:X.K=K):OpR X (compareOp .NotIn) (rIn K true):=by subst hK;exact op_notIn_seq
theorem z413 (hK:X.K=K):CallR X (.builtin "len") (fun xs H Q=>∃ p ys,xs=[.ref p]∧(SqL K H p ys∨SqT K H p ys)∧Q (.int ys.length) H):=by subst hK;exact call_len_seq
end
theorem z740 {K:PySem.W.Frag}{a:Addr}{H:Hp}{xs:List V}{tt:TT}{te:TE}{cs:St}{F:List V→Hp→Prop}(Pv:Nat→List V→Hp→Prop) (h0:Pv 0 [] H) (hl:∀ i ys H,i≤xs.length→Pv i ys H→SqL K H a xs)
  (hs:∀ i x ys H,xs[i]?=some x→Pv i ys H→tt (some x::cs) H fun b H3=>if b=true then te (some x::cs) H3 fun y H4=>ys.length≤sizeLine∧Pv (i + 1) (ys++[y]) H4 else Pv (i + 1) ys H3)
  (hd:∀ ys H,Pv xs.length ys H→ys.length≤sizeLine∧F ys H):
  ∃ W:Nat→Nat→List V→Hp→Prop,(∃ m,W 0 m [] H)∧CompW (Itl K a) (gName 0) tt te (none::cs) W F:=by
 refine⟨fun i m ys H'=>m=xs.length - i∧i≤xs.length∧Pv i ys H',⟨xs.length,by simp,Nat.zero_le _,h0⟩,?_⟩
 rintro i m ys H' ⟨rfl,hi,p⟩
 have q:=hl i ys H' hi p
 have S:=src_list q
 by_cases hlt:i < xs.length
 ·refine .inr ⟨S.go i hlt,fun ys' H''=>Pv (i + 1) ys' H'',fun ys' H'' p'=>⟨xs.length - (i + 1),by omega,rfl,hlt,p'⟩,fun x H'' y=>?_⟩
  obtain⟨e1,e2⟩:=S.yld i x H'' hlt y
  subst e1
  refine⟨⟨rfl,fun j v hj=>?_⟩,?_⟩
  ·cases j with
   | zero=>cases hj
   | succ j=>exact hj
  ·exact hs i x ys H'' e2 p
 ·have e:i=xs.length:=by omega
  subst e
  exact .inl ⟨S.stop,hd ys H' p⟩
theorem z809 {z:Int}{xs:List Int}:inV (V.int z) (xs.map V.int)=decide (z∈xs):=by
 unfold inV
 rw [Bool.eq_iff_iff,List.any_eq_true,decide_eq_true_eq]
 constructor
 ·rintro⟨y,hy,e⟩
  obtain⟨x,hx,rfl⟩:=List.mem_map.mp hy
  have:(x == z)=true:=e
  rw [← eq_of_beq this]
  exact hx
 ·intro h
  exact⟨V.int z,List.mem_map.mpr ⟨z,h,rfl⟩,by show (z == z)=true;simp⟩
end L2
set_option Elab.async false
set_option linter.all false
set_option maxRecDepth 100000
namespace L2
open PySem PyProof.Rows PySem.Calls
section
variable {M:Model}{A:Around}{E:Value→Shared→Prop}{s:Shared}{B:Heap}{env:Env}{outer l:List Env}{L e:Addr}{cls:Value}{dx:Option Addr}{Q:Unit→Shared→Prop}
end
end L2
set_option Elab.async false
set_option linter.all false
set_option maxRecDepth 100000
namespace L2
open PySem PySem.Spec PyProof.Rows
structure UnB (fs:List Addr) (H H':Hp) (h B:Heap):Prop where
 keep:∀ b o,h.get? b=some o→H b=none→b ∉ fs→B.get? b=some o
 free:∀ b o,h.get? b=some o→H b=none→H' b=none
 there:∀ b o,h.get? b=some o→b ∉ fs→∃ o',B.get? b=some o'
 tups:∀ b xs,H b=some (.tup xs)→H' b=some (.tup xs)
 frzs:∀ b o u,H b=some (.frz o u)→H' b=some (.frz o u)
 tbls:∀ b ps,H b=some (.tbl ps)→∃ more,H' b=some (.tbl (ps++more))
abbrev WXT:=St→XK
section
variable {P:Program}{w:World}{K:PySem.W.Frag}{mg:Str→Option Value}{base:Heap}{N:List Str}{qual:Str}{scope:Scope}{f:Addr}{cd:Value}{A:Around}{outer:List Env}{s₀:Shared}{H₀:Hp}{E:XK}
end
section
variable {X:Cx}{k:Nat}{f C:Addr}{fd:FuncData}{ps:List Str}{sp:Sp}{dvs:List V}{ds:List Value}{WX:WXT}{x m:Str}{p pos apos:Pos}{e o:Expr}{es:List Expr}{ta:TE}{t:TA}
end
end L2
set_option Elab.async false
set_option linter.all false
set_option maxRecDepth 100000
namespace L2
open PySem PySem.Spec PyProof.Rows
section
variable {X:Cx}{pins pins':List (Addr × Obj)}{σ:St}{H:Hp}{s:Shared}{E:Value→Shared→Prop}{ea:Addr}{ob:Obj}
end
section
variable {X:Cx}{x n:Str}{C:Addr}{body:List Stmt}{b₀:Stmt}{suite:List Stmt}{np pos hpos:Pos}{tb:WXT→TS}{th:Addr→Addr→Option Addr→TS}
end
end L2
set_option Elab.async false
set_option linter.all false
set_option maxRecDepth 100000
namespace L2
open PySem PySem.Spec PyProof.Rows
structure RoomM (k:Nat) (A:Around):Prop where
 dp:A.depth + 3 * k + 5 < recursionLimit
 un:A.units + 16 * k + 200 < cLine
section
variable {P:Program}{w:World}{K:PySem.W.Frag}{mg:Str→Option Value}{base:Heap}{x qual:Str}{st:Stmt}{f:Addr}{fd:FuncData}{N ps:List Str}{k:Nat}{sp:Sp}
end
section
variable {X:Cx}{k:Nat}{f C:Addr}{fd:FuncData}{ps:List Str}{sp:Sp}{ea:Addr}{ob:Obj}{x m:Str}{p pos apos:Pos}{e o:Expr}{es:List Expr}{ta:TE}{t:TA}
end
end L2
set_option Elab.async false
set_option linter.all false
set_option maxRecDepth 100000
namespace L2
open PySem PySem.Spec PyProof.Rows PySem.W
section
variable {prog:Program}{w:World}{A:Around}{E:Value→Shared→Prop}{s:Shared}{K:Frag}{x D:Addr}{ox:Obj}{od:Option Obj}{name:Str}
end
section
variable {X:Cx}{ea C:Addr}{dx:Option Addr}{ob:Obj}
end
end L2
set_option Elab.async false
set_option linter.all false
set_option maxRecDepth 100000
namespace L2
open PySem PySem.Spec PyProof.Rows PySem.Builtin PySem.Builtin.Str PySem.Builtin.Int
structure FunD (K:PySem.W.Frag) (x qual:Str) (st:Stmt) (f:Addr) (fd:FuncData) (items:Array Value):Prop where
 ex:∃ (oc:Value) (od:Option Addr) (kV doc pm:Value) (an:Option Addr) (cdv ct:Value) (osl:Array (Option Value)) (T:Addr) (oT:Obj) (n:Nat),
  fd=PySem.W.fnOf x qual (defArgs st) (defBody st) (defScope st) (.ref T) kV doc pm an cdv ct∧K.lookup f=some ⟨oc,od,.func fd,osl⟩∧PySem.W.codeIn K cdv qual=true∧K.lookup T=some oT∧oT.data=.seq items n
 kp:PySem.W.keepIn K (.ref f)=true
section
variable {P:Program}{w:World}{K:PySem.W.Frag}{mg:Str→Option Value}{base:Heap}{x qual:Str}{st:Stmt}{f:Addr}{fd:FuncData}{items:Array Value}{N ps:List Str}{k:Nat}{sp:Sp}
theorem FunD.ok (F:FunD K x qual st f fd items) (S:FnScope N ps (defScope st)) (len:∀ vs H Q E,sp vs H Q E→vs.length=ps.length)
  (hbody:∀ (cdv:Value) (A:Around) (outer:List Env) (s:Shared) (H:Hp) (vs:List V) (Q:VK) (E:XK),Room k (A.deeper (envOfC qual (defScope st) s.heap.objs.size f cdv))→sp vs H Q E→
   ∃ t,PSs (cxOf CX0 P w K mg base N qual (defScope st) f cdv A outer s H E).nox (defBody st) t∧t { nx:=fun _ H'=>Q .non H',rt:=Q } (start N vs) H):FnOk P w K mg base CX0 (k + 1) f fd ps sp:=by
 obtain⟨oc,od,kV,doc,pm,an,cdv,ct,osl,T,oT,n,rfl,lk,hcd,_⟩:=F.ex
 refine fn_of lk hcd S len fun A outer s H vs Q E hr hsp=>?_
 obtain⟨t,h,q⟩:=hbody cdv A outer s H vs Q E hr hsp
 exact⟨t,h.nox,q⟩
theorem FunD.binds {ds:List Value}(F:FunD K x qual st f fd items)
  (h:∀ (T:Addr) (kV doc pm:Value) (an:Option Addr) (cdv ct:Value) (us:List Value),(us++ds).length=ps.length→∃ k:Option (Array Value)→Sem (List (Str × Value)),
   bindArgs (PySem.W.fnOf x qual (defArgs st) (defBody st) (defScope st) (.ref T) kV doc pm an cdv ct) ⟨us,[]⟩=(seqItems? (.ref T) >>= k)∧k (some items)=pure (ps.zip (us++ds))):Binds K fd ps ds:=by
 obtain⟨oc,od,kV,doc,pm,an,cdv,ct,osl,T,oT,n,rfl,lk,hcd,hT,hd⟩:=F.ex
 intro s us KX hl
 obtain⟨k,h1,h2⟩:=h T kV doc pm an cdv ct us hl
 exact .of_defaults (k:=k) rfl (KX _ _ hT) hd h1 h2
theorem z803 {oc:Value}{od an:Option Addr}{osl sT:Array (Option Value)}{kV doc pm cdv ct cT:Value}{T:Addr}{dT:Option Addr}{n:Nat}(l:K.lookup f=some ⟨oc,od,.func (PySem.W.fnOf x qual (defArgs st) (defBody st) (defScope st) (.ref T) kV doc pm an cdv ct),osl⟩)
  (c:PySem.W.codeIn K cdv qual=true) (k:PySem.W.keepIn K (.ref f)=true) (t:K.lookup T=some ⟨cT,dT,.seq items n,sT⟩):FunD K x qual st f (PySem.W.fnOf x qual (defArgs st) (defBody st) (defScope st) (.ref T) kV doc pm an cdv ct) items:=
 ⟨⟨oc,od,kV,doc,pm,an,cdv,ct,osl,T,_,n,rfl,l,c,t,rfl⟩,k⟩
end
structure Disp (X:Cx) (m:Str) (k:Nat) (ps:List Str) (e:Addr × Sp):Prop where
 cl:Cls X.K e.1
 ex:∃ f fd,Meth X.K e.1 m f∧FnOk X.prog X.w X.K X.mg X.base CX0 k f fd ps e.2∧Binds X.K fd ps []
theorem z111 {X:Cx}{m:Str}{k:Nat}{ps:List Str}:∀ e∈([]:List (Addr × Sp)),Disp X m k ps e:=fun e h=>nomatch h
theorem z5 {X:Cx}{m:Str}{k j:Nat}{ps:List Str}{C f:Addr}{fd:FuncData}{sp:Sp}{tab:List (Addr × Sp)} (cl:Cls X.K C) (hm:Meth X.K C m f) (F:FnOk X.prog X.w X.K X.mg X.base CX0 j f fd ps sp) (hj:j≤k) (hb:Binds X.K fd ps []) (r:∀ e∈tab,Disp X m k ps e):∀ e∈(C,sp)::tab,Disp X m k ps e:=
 fun e h=>(List.mem_cons.mp h).elim (fun z=>by rw [z];exact⟨cl,f,fd,hm,F.mono hj,hb⟩) (r e)
def tMethV (tab:List (Addr × Sp)) (m:Str) (ta:TE) (t:TA):TE:=fun σ H Q=>ta σ H fun x H1=>∃ a dx fs e,e∈tab∧x=.ref a∧H1 a=some (.ins e.1 dx fs)∧fs.lookup m=none∧t σ H1 fun vs H2=>e.2 (x::vs) H2 Q E0
section
variable {X:Cx}{k:Nat}{ps:List Str}{tab:List (Addr × Sp)}{m:Str}{pos apos:Pos}{e o:Expr}{es:List Expr}{ta:TE}{t:TA}
theorem z132 {pl:Sem Bool}(he:PE X o ta) (D:∀ e∈tab,Disp X m k ps e) (hr:Room k X.A) (ha:PA X (e::es) t)
  (hst:starEach (e::es) X.env=(false,eval e X.env)::starEach es X.env:=by rfl) (hpl:(backTo pos (starEach es X.env)).any (·.1)=false:=by rfl)
  (ht:eval (.Call (.Attribute o m apos) (e::es) [] pos) X.env=(eval o X.env >>= fun ov=>standAt apos.atName >>= fun _=>holding [ov] (getMethod ov m pl) >>= fun r=>callWith pos r.1 r.2 (backTo pos (starEach (e::es) X.env)) (backToKw pos (keywordEach [] X.env))):=by rfl):
  PE X (.Call (.Attribute o m apos) (e::es) [] pos) (tMethV tab m ta t):=by
 intro pins s σ H Q I h
 refine PySem.W.methodCall_KW (pl:=pl) (thn (he pins s σ H _ I h) fun u s1 ⟨x,H1,I1,rx,a,dx,fs,C,hC,ex,ea,l,q⟩=>?_) ht
 subst ex
 cases (show u=Value.ref a from rx)
 obtain⟨c,f,fd,hm,F,hb⟩:=D C hC
 refine getmeth_ok I1 ea c hm l ?_
 exact PySem.W.callWith_K (first:=[.ref a]) (h₀:=X.base) I.ok.mod.kin hm.kp (thn (ha pos pins s1 σ H1 _ I1 q) fun us s2 ⟨vs,H2,I2,r,q2⟩=>⟨I2.kIn,run_fn (us:=.ref a::us) (vs:=.ref a::vs) (dvs:=[]) (ds:=[]) F hr hb .nil pass0 I2 (.cons rfl r) (by simpa only [List.append_nil] using q2)⟩) hst hpl
theorem z680 {pl:Sem Bool}(he:PE X o ta) (D:∀ e∈tab,Disp X m k ps e) (hr:Room k X.A)
  (ht:eval (.Call (.Attribute o m apos) [] [] pos) X.env=(eval o X.env >>= fun ov=>standAt apos.atName >>= fun _=>holding [ov] (getMethod ov m pl) >>= fun r=>callWith pos r.1 r.2 (backTo pos (starEach [] X.env)) (backToKw pos (keywordEach [] X.env))):=by rfl):
  PE X (.Call (.Attribute o m apos) [] [] pos) (tMethV tab m ta tNil):=by
 intro pins s σ H Q I h
 refine PySem.W.methodCall_KW (pl:=pl) (thn (he pins s σ H _ I h) fun u s1 ⟨x,H1,I1,rx,a,dx,fs,C,hC,ex,ea,l,q⟩=>?_) ht
 subst ex
 cases (show u=Value.ref a from rx)
 obtain⟨c,f,fd,hm,F,hb⟩:=D C hC
 exact getmeth_ok I1 ea c hm l (PySem.W.callWith_K0 (first:=[.ref a]) I1.kIn hm.kp (run_fn (us:=[.ref a]) (vs:=[.ref a]) (dvs:=[]) (ds:=[]) F hr hb .nil pass0 I1 (.cons rfl .nil) q))
end
theorem z473 {X:Cx}{K:PySem.W.Frag}{scope:Scope}{cl:List (Str × Addr)}{a b:Str}{N:List Str}{C:Addr}{ex:List Addr}{s₀:Shared}{H₀:Hp}{k}{pa pb pos:Pos}(hK:X.K=K) (hc:Calm X) (hN:(a::b::N).Nodup) (la:Loc (compEnvC scope cl C X.env).scope a) (lb:Loc (compEnvC scope cl C X.env).scope b)
  (fa:(compEnvC scope cl C X.env).scope.names.lookup a=some .local) (fb:(compEnvC scope cl C X.env).scope.names.lookup b=some .local):
  PG (cxComp X scope cl (a::b::N) C ex s₀ H₀) (.Tuple [.Name a pa,.Name b pb] k pos) (gTup K 2 (gCons (gName 0) (gCons (gName 1) gNil))):=by
 subst hK
 exact pg_tup (X:=cxComp X scope cl (a::b::N) C ex s₀ H₀) (n:=2) (z391 hc) (pgs_cons (pg_name (i:=0) hN rfl la (.inr fa)) (pgs_cons (pg_name (i:=1) hN rfl lb (.inr fb)) pgs_nil))
theorem z272 {K:PySem.W.Frag}{J:It}{H:Hp}{ts:List Addr}{u v:Addr→V}{tt:TT}{te:TE}{cs:St}{F:List V→Hp→Prop}(S:SrcIs J H (ts.map V.ref)) (ht:∀ t∈ts,SqT K H t [u t,v t]) (p:Addr→Bool) (f:Addr→V)
  (htt:∀ t∈ts,∀ Q:Bool→Hp→Prop,Q (p t) H→tt (some (u t)::some (v t)::cs) H Q) (hte:∀ t∈ts,p t=true→∀ Q:VK,Q (f t) H→te (some (u t)::some (v t)::cs) H Q) (hn:ts.length≤sizeLine) (hF:F ((ts.filter p).map f) H):
  ∃ W:Nat→Nat→List V→Hp→Prop,(∃ m,W 0 m [] H)∧CompW J (gTup K 2 (gCons (gName 0) (gCons (gName 1) gNil))) tt te (none::none::cs) W F:=by
 refine⟨fun i m ys H'=>m=ts.length - i∧i≤ts.length∧H'=H∧ys=((ts.take i).filter p).map f,⟨ts.length,by simp,Nat.zero_le _,rfl,by simp⟩,?_⟩
 rintro i m ys H' ⟨rfl,hi,rfl,rfl⟩
 have hlen:(((ts.take i).filter p).map f).length≤sizeLine:=by
  rw [List.length_map]
  refine Nat.le_trans (List.length_filter_le _ _) ?_
  rw [List.length_take]
  omega
 by_cases hlt:i < ts.length
 ·refine .inr ⟨S.go i (by rw [List.length_map];exact hlt),fun ys' H''=>H''=H'∧ys'=((ts.take (i + 1)).filter p).map f,fun ys' H'' h=>⟨ts.length - (i + 1),by omega,rfl,hlt,h.1,h.2⟩,fun x H'' y=>?_⟩
  obtain⟨rfl,hx⟩:=S.yld i x H'' (by rw [List.length_map];exact hlt) y
  rw [List.getElem?_map] at hx
  obtain⟨t,e,rfl⟩:=Option.map_eq_some_iff.mp hx
  have hm:t∈ts:=List.mem_of_getElem? e
  have htk:ts.take (i + 1)=ts.take i++[t]:=by
   rw [List.take_add_one,e];rfl
  refine⟨t,[u t,v t],rfl,ht t hm,rfl,u t,[v t],rfl,v t,[],rfl,rfl,⟨by simp,fun j z hz=>?_⟩,?_⟩
  ·match j,hz with
   | 0,hz=>cases hz
   | 1,hz=>cases hz
   | (j + 2),hz=>exact hz
  ·refine htt t hm _ ?_
   cases hp:p t with
   | true=>
    rw [if_pos rfl]
    refine hte t hm hp _ ⟨hlen,rfl,?_⟩
    rw [htk,List.filter_append,List.map_append]
    simp [hp]
   | false=>
    rw [if_neg (by decide)]
    refine⟨rfl,?_⟩
    rw [htk,List.filter_append,List.map_append]
    simp [hp]
 ·have e:i=ts.length:=by omega
  subst e
  refine .inl ⟨by have:=S.stop;rw [List.length_map] at this;exact this,hlen,?_⟩
  rw [List.take_length]
  exact hF
theorem hu1 {n:Nat}(h:n + 64 < cLine):n + 1 < cLine:=by omega
end L2
set_option Elab.async false
set_option linter.all false
set_option maxRecDepth 100000
namespace L2
open PySem PySem.Spec PyProof.Rows
section
variable {prog:Program}{w:World}{K:Type} [DecidableEq K]{knd:HeapKind prog w K}{A:Around}{E:Value→Shared→Prop}{s:Shared}
end
section
variable {prog:Program}{w:World}{K:Type} [DecidableEq K]{knd:HeapKind prog w K}{A:Around}{E:Value→Shared→Prop}{s:Shared}
end
theorem Paired.at1 {α β:Type}{R:α→β→Prop}:∀ {l:List α}{m:List β},Paired R l m→∀ {j:Nat}{a:α},l[j]?=some a→∃ b,m[j]?=some b∧R a b
 | _,_,.cons h r,0,_,e=>by cases e;exact⟨_,rfl,h⟩
 | _,_,.cons h r,j + 1,_,e=>by
  rw [List.getElem?_cons_succ] at e
  obtain⟨b,e1,e2⟩:=Paired.at1 r e
  exact⟨b,by rw [List.getElem?_cons_succ];exact e1,e2⟩
section
variable {prog:Program}{w:World}{A:Around}{E:Value→Shared→Prop}{s:Shared}
theorem z511 {d:Addr}{od:Obj}{es:Array DictEntry}{ep:Nat}{Q:Value→Shared→Prop}(hd:(d == sysModules)=false) (ho:s.heap.get? d=some od) (hc:od.ExactDict) (hdat:od.data=.dict es ep)
  (hQ:Q (.ref s.heap.objs.size) { s with heap:=s.heap.push { cls:=.type "dict_keyiterator",data:=.fields #[.ref d,.int 0 0,.int es.size 0,.int ep 0] } }):
  wpAny (model prog w) A (pyIter (.ref d)) Q E s:=by
 have hT:s.TypeIs (.ref d) "dict":=⟨od,ho,hc.1⟩
 refine wpAny_pyIter_slot hT F.slot_dict_iter (wpAny_call_entry F.slot_dict_iter hT F.entry_dict_iter ?_ (F.args_dict_iter_1 _))
 unfold Builtin.«dict.__iter__»
 refine wpAny_bind ?_
 unfold Builtin.Dict.dictSlotNone
 refine wpAny_bind (wpAny_notOrdered_dict hT ?_)
 show wpAny _ _ (pure (Value.ref d)) _ _ s
 refine wpAny_pure ?_
 show wpAny _ _ (Builtin.Dict.showsAll d >>= _) _ _ s
 unfold Builtin.Dict.showsAll
 rw [if_neg (by rw [hd];exact Bool.false_ne_true)]
 refine wpAny_bind (wpAny_pure ?_)
 refine wpAny_bind (wpAny_dictEntries ho hdat ?_)
 refine wpAny_bind (wpAny_dictEpoch ho hdat ?_)
 refine wpAny_bind (wpAny_newObj_type (wpAny_pure ⟨_,rfl,"dict_keyiterator",_,⟨_,Heap.get?_push_size _ rfl,rfl⟩,F.slot_dict_keyiterator_next.lookup,?_⟩))
 simpa [rawInt] using hQ
theorem z691 {it d:Addr}{i ep:Nat}{od:Obj}{es:Array DictEntry}{e:DictEntry}{Q:Option Value→Shared→Prop}(hit:s.heap.IsKeyIter it d i es.size ep) (hod:s.heap.get? d=some od) (hdd:od.data=.dict es ep)
  (hx:es[i]?=some e) (hQ:∀ h',h'.IsKeyIter it d (i + 1) es.size ep→Heap.SameBut it s.heap h'→Q (some e.key) { s with heap:=h' }):
  wpAny (model prog w) A (pyNext (.ref it)) Q E s:=by
 obtain⟨o,ho,hc,hd⟩:=id hit
 unfold pyNext
 refine wpAny_bind (wpAny_attempt (wpAny_callSpecial?_slot (name:=Str.ofString "__next__") hit.typeIs F.slot_dict_keyiterator_next
  (wpAny_call_entry F.slot_dict_keyiterator_next hit.typeIs F.entry_dict_keyiterator_next ?_ (F.args_dict_keyiterator_next_1 _))))
 refine wpAny_bind (wpAny_pure ?_)
 refine wpAny_bind ?_
 refine wpAny_bind ?_
 first | refine wpAny_bind (wpAny_typeNameOfWhole_keyiter hit.typeIs (wpAny_pure ?_)) | refine wpAny_bind (wpAny_typeNameOf_keyiter hit.typeIs (wpAny_pure ?_))
 refine wpAny_bind (wpAny_fieldsOf ho hd ?_)
 have hown:Builtin.Dict_items.ownsTuple "dict_keyiterator"=false:=by decide
 simp only [hown,Bool.false_eq_true,if_false]
 show wpAny _ _ (if (Value.ref d == Value.none)=true then _ else _) _ _ s
 rw [if_neg (show ¬ ((Value.ref d == Value.none)=true) from Bool.false_ne_true)]
 refine wpAny_bind (wpAny_pure ?_)
 refine wpAny_bind (wpAny_dictEntries hod hdd ?_)
 rw [if_neg (by simp)]
 refine wpAny_bind (wpAny_pure ?_)
 refine wpAny_bind (wpAny_dictEpoch hod hdd ?_)
 rw [if_neg (by simp)]
 refine wpAny_pure ?_
 simp only [show ¬ ((i:Int) < 0) from by omega,if_false,Int.toNat_natCast,hx]
 refine wpAny_bind ?_
 first | refine wpAny_bind (wpAny_typeNameOfWhole_keyiter hit.typeIs (wpAny_pure ?_)) | refine wpAny_bind (wpAny_typeNameOf_keyiter hit.typeIs (wpAny_pure ?_))
 refine wpAny_bind (wpAny_isOneOf_keyiter hit.typeIs ?_)
 show wpAny _ _ (setField (.ref it) 1 (rawInt ((i:Int) + 1)) >>= _) _ _ s
 refine wpAny_bind (wpAny_setField ho hd (by simp) ?_)
 have hit':(s.heap.update it (Obj.mapFields (·.setIfInBounds 1 (rawInt ((i:Int) + 1))))).IsKeyIter it d (i + 1) es.size ep:=
  ⟨_,Heap.get?_update_self _ ho (Obj.isFreed_of_fields (Obj.data_mapFields hd _)),(Obj.cls_mapFields ..).trans hc,by rw [Obj.data_mapFields hd];simp [rawInt]⟩
 refine wpAny_bind (wpAny_holding ?_)
 refine wpAny_bind (wpAny_isOneOf_keyiter (s:={ s with heap:=s.heap.update it (Obj.mapFields (·.setIfInBounds 1 (rawInt ((i:Int) + 1)))) }) hit'.typeIs ?_)
 show wpAny _ _ (pure e.key) _ _ _
 exact wpAny_pure (wpAny_pure ⟨_,rfl,wpAny_pure (hQ _ hit' (Heap.SameBut.update ..))⟩)
theorem z770 {it d:Addr}{i ep:Nat}{od:Obj}{es:Array DictEntry}{Q:Option Value→Shared→Prop}(hh:Hd A s.heap) (hit:s.heap.IsKeyIter it d i es.size ep) (hod:s.heap.get? d=some od) (hdd:od.data=.dict es ep)
  (hge:es.size≤i) (hQ:∀ h',Heap.ExtBut it s.heap h'→Q none { s with heap:=h' }):wpAny (model prog w) A (pyNext (.ref it)) Q E s:=by
 obtain⟨o,ho,hc,hd⟩:=id hit
 unfold pyNext
 refine wpAny_bind (wpAny_attempt (wpAny_callSpecial?_slot (name:=Str.ofString "__next__") hit.typeIs F.slot_dict_keyiterator_next
  (wpAny_call_entry F.slot_dict_keyiterator_next hit.typeIs F.entry_dict_keyiterator_next ?_ (F.args_dict_keyiterator_next_1 _))))
 refine wpAny_bind (wpAny_pure ?_)
 refine wpAny_bind ?_
 refine wpAny_bind ?_
 first | refine wpAny_bind (wpAny_typeNameOfWhole_keyiter hit.typeIs (wpAny_pure ?_)) | refine wpAny_bind (wpAny_typeNameOf_keyiter hit.typeIs (wpAny_pure ?_))
 refine wpAny_bind (wpAny_fieldsOf ho hd ?_)
 have hown:Builtin.Dict_items.ownsTuple "dict_keyiterator"=false:=by decide
 simp only [hown,Bool.false_eq_true,if_false]
 show wpAny _ _ (if (Value.ref d == Value.none)=true then _ else _) _ _ s
 rw [if_neg (show ¬ ((Value.ref d == Value.none)=true) from Bool.false_ne_true)]
 refine wpAny_bind (wpAny_pure ?_)
 refine wpAny_bind (wpAny_dictEntries hod hdd ?_)
 rw [if_neg (by simp)]
 refine wpAny_bind (wpAny_pure ?_)
 refine wpAny_bind (wpAny_dictEpoch hod hdd ?_)
 rw [if_neg (by simp)]
 refine wpAny_pure ?_
 simp only [show ¬ ((i:Int) < 0) from by omega,if_false,Int.toNat_natCast,Array.getElem?_eq_none hge]
 refine wpAny_bind ?_
 first | refine wpAny_bind (wpAny_typeNameOfWhole_keyiter hit.typeIs (wpAny_pure ?_)) | refine wpAny_bind (wpAny_typeNameOf_keyiter hit.typeIs (wpAny_pure ?_))
 show wpAny _ _ (setField (.ref it) 0 .none >>= _) _ _ s
 refine wpAny_bind (wpAny_setField ho hd (by simp) ?_)
 refine z88 (hh.update (A:=A) ho hc _) fun h' e k1 k2=>z62 k2 (hQ h' fun b o hb z=>k1 b o ?_)
 rw [Heap.get?_update_other _ _ (Ne.symm hb)]
 exact z
end
section
variable {X:Cx}{pins:List (Addr × Obj)}{σ:St}{H:Hp}{s:Shared}{a:Addr}
theorem Inv.re {u v:HO}(I:Inv X pins σ H s) (e:H a=some u) (nt:∀ xs,u≠.tup xs) (no:∀ y,u≠.own y) (nb:∀ ps,u≠.tbl ps) (nf:∀ o w,X.H₀ a≠some (.frz o w)) (new:ObjOk X.prog X.w (upd H a v) s.heap a v):Inv X pins σ (upd H a v) s:=by
 have ne:∀ {b:Addr},H b=none→b≠a:=fun{b} h z=>by rw [z,e] at h;cases h
 refine⟨I.ok,I.os,I.bare,⟨I.base.keep,I.base.slot,fun b o q n hx=>?_,I.base.there,fun b xs q=>?_,fun b o w q=>?_,fun b ps q=>?_⟩,I.loc,I.cell,?_,fun x c h=>?_,fun p hp=>?_,fun b o q=>?_,I.len⟩
 ·have z:=I.base.free b o q n hx
  rw [upd_ne (ne z)]
  exact z
 ·have z:=I.base.tups b xs q
  rw [upd_ne (fun h=>by rw [h,e] at z;exact nt xs (Option.some.inj z))]
  exact z
 ·have z:=I.base.frzs b o w q
  rw [upd_ne (fun h=>by rw [h] at q;exact nf o w q)]
  exact z
 ·obtain⟨more,z⟩:=I.base.tbls b ps q
  exact⟨more,by rw [upd_ne (fun h=>by rw [h,e] at z;exact nb _ (Option.some.inj z))];exact z⟩
 ·rw [upd_ne (ne I.free)]
  exact I.free
 ·rw [upd_ne (ne (I.freeC x c h))]
  exact I.freeC x c h
 ·obtain⟨z1,z2,z3⟩:=I.pin p hp
  exact⟨z1,by rw [upd_ne (ne z2)];exact z2,z3⟩
 ·by_cases hb:b=a
  ·subst hb
   rw [upd_same] at q
   cases q
   exact new
  ·rw [upd_ne hb] at q
   refine(I.hok b o q).stay (fun _ _ _ z=>z) (fun c z=>?_) fun c xs z=>?_
   ·rw [upd_ne (fun h=>by rw [h,e] at z;exact no _ (Option.some.inj z))]
    exact z
   ·rw [upd_ne (fun h=>by rw [h,e] at z;exact nt _ (Option.some.inj z))]
    exact z
end
section
variable {prog:Program}{w:World}{d:Addr}
end
theorem hu65 {k:Nat}{A:Around}(r:Room k A):A.units + 64 + 1 < cLine:=by have:=r.un;omega
end L2
set_option Elab.async false
set_option linter.all false
set_option maxRecDepth 100000
namespace L2
open PySem PySem.Spec PyProof.Rows
theorem ints_of:∀ {ns:List Int}{us:List Value},Vals (ns.map V.int) us→∃ xs:List (Int × Tok),us=xs.map (fun p=>Value.int p.1 p.2)∧xs.map (·.1)=ns
 | [],_,r=>by rw [List.map_nil] at r;cases r;exact⟨[],rfl,rfl⟩
 | n::ns,_,r=>by
  rw [List.map_cons] at r
  cases r with
  | cons h t=>
   obtain⟨u,rfl⟩:=h
   obtain⟨xs,rfl,e⟩:=ints_of t
   exact⟨(n,u)::xs,rfl,by rw [List.map_cons,e]⟩
theorem z429 (xs:List (Int × Tok)) (i:Nat):numAt xs.toArray i=(xs.map (·.1)).getD i 0:=by
 unfold numAt
 rw [List.getD_eq_getElem?_getD,List.getElem?_map]
 simp
section
variable {X:Cx}
theorem z493 (hc:X.calm=true):CallR X (.builtin "min") (fun xs H Q=>∃ p ns,xs=[.ref p]∧SqL X.K H p (ns.map V.int)∧ns≠[]∧∀ m:Int,m∈ns→(∀ a∈ns,m≤a)→Q (.int m) H):=by
 intro pins s σ H xs us Q I r h
 obtain⟨p,ns,rfl,hq,hne,q⟩:=h
 obtain⟨u,rfl,rx⟩:=vals1 r
 cases rx
 obtain⟨its,r',pl,hz⟩:=I.list hq
 obtain⟨ps,rfl,rfl⟩:=ints_of r'
 have hl:s.heap.IsList p (intItems ps.toArray):=by
  have:=pl.isList
  simpa [intItems] using this
 have hsz:0 < ps.toArray.size:=by
  cases ps with
  | nil=>exact absurd rfl hne
  | cons a b=>simp
 refine min_intList (I.ok.hd hc) hl hsz fun v h' tk hv hk=>?_
 obtain⟨t,rfl⟩:=intItems_at hv
 obtain⟨h1,h2⟩:=argBest_lt (numAt ps.toArray) (ps.toArray.size - 1)
 have lt:∀ {i:Nat},i≤ps.toArray.size - 1→i < (ps.map (·.1)).length:=fun{i} h=>by rw [List.length_map];simp only [List.size_toArray] at h hsz;omega
 refine⟨.int _,H,I.kept (t':=tk) hk,⟨t,rfl⟩,q _ ?_ fun a ha=>?_⟩
 ·rw [z429]
  exact getD_mem (lt h1)
 ·obtain⟨j,hj,rfl⟩:=mem_getD ha
  rw [← z429]
  exact h2 j (by rw [List.length_map] at hj;simp only [List.size_toArray];omega)
end
end L2
set_option Elab.async false
set_option linter.all false
set_option maxRecDepth 100000
namespace L2
open PySem PySem.Spec PyProof.Rows
section
variable {prog:Program}{w:World}{K:Type} [DecidableEq K]{knd:KeyKind prog w K}{A:Around}{R:Result→Shared→Prop}
end
section
variable {prog:Program}{w:World}{K:Type} [DecidableEq K]{knd:KeyKind prog w K}{A:Around}{E:Value→Shared→Prop}{s:Shared}
end
section
variable {X:Cx}
end
end L2
set_option Elab.async false
set_option linter.all false
set_option maxRecDepth 100000
namespace L2
open PySem PySem.Spec PyProof.Rows
inductive KHits (K:PySem.W.Frag) (H:Hp) (kb:List (Key × V)):List (Key × V)→Bool→Prop
 | nil:KHits K H kb [] true
 | miss {k:Key}{v:V}{r:List (Key × V)}:valV kb k=none→KHits K H kb ((k,v)::r) false
 | hit {k:Key}{v y:V}{r:List (Key × V)}{d e:PyData}{b:Bool}:valV kb k=some y→Den K H v d→Den K H y e→SeqAt.shaped d=true→SeqAt.shaped e=true→KHits K H kb r b→KHits K H kb ((k,v)::r) (PyData.eqv d e && b)
theorem KHits.keq {X:Cx}{pins:List (Addr × Obj)}{σ:St}{H:Hp}{s:Shared}(I:Inv X pins σ H s) (hu:X.A.units + 64 + 1 < cLine){kb:List (Key × V)}{vb:List (Key × Value)} (rb:KV kb vb)
  {ka:List (Key × V)}{b:Bool}(h:KHits X.K H kb ka b):∀ {va:List (Key × Value)},KV ka va→PySem.W.KeqHits X.A.in1 s vb va b:=by
 induction h with
 | nil=>intro va ra;cases ra;exact .nil
 | @miss k v r hn=>
  intro va ra
  cases ra with
  | @cons p q _ _ h t=>
   obtain⟨k',u⟩:=q
   obtain⟨e,ru⟩:=h
   have e:k=k':=e
   subst e
   have:=rb.val k
   rw [hn] at this
   refine .miss ?_
   cases hv:PySem.valueAt vb k with
   | none=>rfl
   | some z=>rw [hv] at this;exact this.elim
 | @hit k v y r d e b hv d1 d2 s1 s2 hr ih=>
  intro va ra
  cases ra with
  | @cons p q _ _ h t=>
   obtain⟨k',u⟩:=q
   obtain⟨e,ru⟩:=h
   have e:k=k':=e
   subst e
   have:=rb.val k
   rw [hv] at this
   cases hz:PySem.valueAt vb k with
   | none=>rw [hz] at this;exact this.elim
   | some z=>
    rw [hz] at this
    obtain⟨as,r1⟩:=d1.reads I ru
    obtain⟨bs,r2⟩:=d2.reads I this
    exact .hit hz (PySem.W.keq_at (A:=X.A) r1 r2 s1 s2 hu) (ih t)
def rEqK (K:PySem.W.Frag) (neg:Bool):R2:=fun x y H Q=>∃ a b ka kb r,x=.ref a∧y=.ref b∧H a=some (.dK ka)∧H b=some (.dK kb)∧(ka.length=kb.length→KHits K H kb ka r)∧Q (.bl (if neg then !(ka.length == kb.length && r) else(ka.length == kb.length && r))) H
theorem op_eqK {X:Cx}(hu:X.A.units + 64 + 1 < cLine):OpR X (compareOp .Eq) (rEqK X.K false):=by
 intro pins s σ H x y v u Q I rx ry h
 obtain⟨a,b,ka,kb,r,rfl,rfl,ea,eb,hh,q⟩:=h
 cases rx
 cases ry
 obtain⟨_,ha,va,ra,da⟩:=dk_of I.hok ea
 obtain⟨_,hb,vb,rb,db⟩:=dk_of I.hok eb
 refine PySem.W.keq_eq ha hb da db (by omega) (fun e=>(hh (by rw [ra.length,rb.length,e])).keq I hu rb ra) (fin_bl I q ?_)
 rw [ra.length,rb.length]
 rfl
end L2
set_option Elab.async false
set_option linter.all false
set_option maxRecDepth 100000
namespace Fl
open PySem L2
theorem z594:∀ {l m:List Int},l.Pairwise (· < ·)→m.Pairwise (· < ·)→(∀ x,x∈l↔x∈m)→l=m
 | [],[],_,_,_=>rfl
 | [],b::m,_,_,h=>by have:=(h b).mpr (by simp);simp at this
 | a::l,[],_,_,h=>by have:=(h a).mp (by simp);simp at this
 | a::l,b::m,hl,hm,h=>by
  obtain⟨l1,l2⟩:=List.pairwise_cons.mp hl
  obtain⟨m1,m2⟩:=List.pairwise_cons.mp hm
  have e:a=b:=by
   rcases List.mem_cons.mp ((h a).mp (by simp)) with z | z
   ·exact z
   ·rcases List.mem_cons.mp ((h b).mpr (by simp)) with y | y
    ·exact y.symm
    ·have:=m1 a z
     have:=l1 b y
     omega
  subst e
  congr 1
  refine z594 l2 m2 fun x=>⟨fun hx=>?_,fun hx=>?_⟩
  ·rcases List.mem_cons.mp ((h x).mp (List.mem_cons_of_mem _ hx)) with z | z
   ·have:=l1 x hx
    omega
   ·exact z
  ·rcases List.mem_cons.mp ((h x).mpr (List.mem_cons_of_mem _ hx)) with z | z
   ·have:=m1 x hx
    omega
   ·exact z
theorem sq_one {x y:Int}(h:x * x + y * y=1):(x=0∧(y=1∨y=-1))∨(y=0∧(x=1∨x=-1)):=by
 have key:∀ z:Int,z≤z * z∧-z≤z * z:=fun z=>by
  by_cases hz:0≤z
  ·by_cases h1:z=0
   ·subst h1;decide
   ·have:=Int.mul_nonneg hz (show 0≤z - 1 by omega)
    rw [Int.mul_sub,Int.mul_one] at this
    omega
  ·have:=Int.mul_nonneg (show 0≤-z by omega) (show 0≤-z - 1 by omega)
   rw [Int.mul_sub,Int.neg_mul_neg,Int.mul_one] at this
   omega
 have k1:=key x
 have k2:=key y
 have n1:0≤x * x:=by omega
 have n2:0≤y * y:=by omega
 have hx:x=0∨x=1∨x=-1:=by omega
 have hy:y=0∨y=1∨y=-1:=by omega
 rcases hx with rfl | rfl | rfl <;> rcases hy with rfl | rfl | rfl <;> simp_all
theorem z509 {w c b q:Int}(hw:0 < w) (h:c=w * b + q) (h0:0≤q) (h1:q < w):c / w=b∧c % w=q:=by
 subst h
 constructor
 ·rw [Int.add_comm,Int.add_mul_ediv_left _ _ (by omega),Int.ediv_eq_zero_of_lt h0 h1]
  omega
 ·rw [Int.add_comm,Int.add_mul_emod_self_left,Int.emod_eq_of_lt h0 h1]
def sgOk (c:Nat):Prop:=c=46∨c=35∨c=43∨c=126∨c=124
structure Good (w h:Nat) (sg:List Nat):Prop where
 w0:1≤w
 w1:w≤10
 h0:1≤h
 h1:h≤10
 len:sg.length=w * h
 ok:∀ c∈sg,sgOk c
 cell:∃ c∈sg,c≠35
def txt (cs:List Nat):Str:=⟨cs.toArray⟩
def lineOf (w:Nat) (sg:List Nat) (j:Nat):Str:=txt ((sg.drop (w * j)).take w)
def linesOf (w h:Nat) (sg:List Nat):List Str:=(List.range h).map (lineOf w sg)
theorem len100 {w h:Nat}{sg:List Nat}(g:Good w h sg):1≤sg.length∧sg.length≤100:=by
 rw [g.len]
 exact⟨Nat.mul_le_mul g.w0 g.h0,Nat.mul_le_mul g.w1 g.h1⟩
theorem z46 (cs:List Nat):(txt cs).length=cs.length:=by simp [txt,Str.length]
theorem z71 (cs:List Nat):(txt cs).cps.toList=cs:=by simp [txt]
theorem z755 {w h:Nat}{j:Nat}(hj:j < h):w * j + w≤w * h:=by
 have:=Nat.mul_le_mul_left w (show j + 1≤h from hj)
 rw [Nat.mul_add,Nat.mul_one] at this
 exact this
theorem z110 {w h:Nat}{sg:List Nat}(g:Good w h sg){j:Nat}(hj:j < h):(lineOf w sg j).length=w:=by
 have:=z755 (w:=w) hj
 have:=g.len
 unfold lineOf
 rw [z46,List.length_take,List.length_drop]
 omega
theorem z262 (w h:Nat) (sg:List Nat):(linesOf w h sg).length=h:=by simp [linesOf]
theorem z87 {w h:Nat}{sg:List Nat}{j:Nat}(hj:j < h):(linesOf w h sg)[j]?=some (lineOf w sg j):=by
 simp [linesOf,hj]
theorem z396 (w:Nat) (sg:List Nat):∀ h:Nat,((List.range h).map fun j=>(sg.drop (w * j)).take w).flatten=sg.take (w * h)
 | 0=>by simp
 | h + 1=>by
  rw [List.range_succ,List.map_append,List.flatten_append,z396 w sg h,Nat.mul_add,Nat.mul_one]
  simp [List.take_add]
theorem z738:∀ ys:List Str,(Txt.join (Str.ofString "") ys).cps.toList=(ys.map (·.cps.toList)).flatten:=by
 have e:∀ ys:List Str,(Str.join (Str.ofString "") ys).cps.toList=(ys.map (·.cps.toList)).flatten:=by
  intro ys
  have e0:(Str.ofString "").cps.toList=[]:=by decide +kernel
  induction ys with
  | nil=>rfl
  | cons x r ih=>
   cases r with
   | nil=>simp [Str.join]
   | cons y r=>
    show (x++Str.ofString ""++Str.join (Str.ofString "") (y::r)).cps.toList=_
    rw [z113,z113,e0,ih]
    simp
 intro ys
 show (Builtin.Str.glued (Str.ofString "") ys).cps.toList=_
 rw [StrLaws.glued_eq_join,e]
theorem z406 {w h:Nat}{sg:List Nat}(g:Good w h sg):Txt.join (Str.ofString "") (linesOf w h sg)=txt sg:=by
 refine z213 ?_
 rw [z738,z71]
 unfold linesOf
 rw [List.map_map]
 have:((fun x:Str=>x.cps.toList) ∘ lineOf w sg)=fun j=>(sg.drop (w * j)).take w:=by
  funext j
  exact z71 _
 rw [this,z396,← g.len,List.take_length]
theorem z486 {w h:Nat}{sg:List Nat}(g:Good w h sg):((linesOf w h sg).map (·.length)).sum + (linesOf w h sg).length * (Str.ofString "").length≤16777216:=by
 have e0:(Str.ofString "").length=0:=by decide +kernel
 have:∀ n,n≤h→(((List.range n).map (lineOf w sg)).map (·.length)).sum=n * w:=by
  intro n
  induction n with
  | zero=>intro _;simp
  | succ n ih=>
   intro hn
   rw [List.range_succ,List.map_append,List.map_append,List.sum_append,ih (by omega)]
   simp [z110 g (show n < h by omega),Nat.add_mul]
 unfold linesOf
 rw [e0,this h (Nat.le_refl _)]
 have:=Nat.mul_le_mul g.h1 g.w1
 omega
theorem z813 {w h:Nat}{sg:List Nat}(g:Good w h sg){j:Nat}:∀ c∈(lineOf w sg j).cps.toList,sgOk c:=by
 intro c hc
 unfold lineOf at hc
 rw [z71] at hc
 exact g.ok c (List.mem_of_mem_drop (List.mem_of_mem_take hc))
def at_ (sg:List Nat) (i:Int):Nat:=sg.getD i.toNat 0
def hasI (sg:List Nat) (i:Int):Bool:=decide (0≤i) && decide (i < sg.length) && !decide (at_ sg i=35)
def hasV (sg:List Nat):V→Bool
 | .int i=>hasI sg i
 | _=>false
def places (sg:List Nat):List Int:=(List.range sg.length).map fun i=>((i:Nat):Int)
def cellsOf (sg:List Nat):List Int:=(places sg).filter fun i=>!decide (at_ sg i=35)
def z19 (sg:List Nat):List Int:=(places sg).filter fun i=>decide (at_ sg i=43)
theorem z297 {sg:List Nat}{i:Int}:i∈places sg↔0≤i∧i < sg.length:=by
 unfold places
 rw [List.mem_map]
 constructor
 ·rintro⟨j,hj,rfl⟩
  have:=List.mem_range.mp hj
  omega
 ·intro h
  exact⟨i.toNat,List.mem_range.mpr (by omega),by omega⟩
theorem z345 (sg:List Nat):(places sg).Pairwise (· < ·):=by
 unfold places
 rw [List.pairwise_map]
 exact List.Pairwise.imp (fun h=>by omega) List.pairwise_lt_range
theorem z503 (sg:List Nat):cellsOf sg=(places sg).filter (hasI sg):=by
 unfold cellsOf
 refine List.filter_congr fun i hi=>?_
 have:=z297.mp hi
 unfold hasI
 rw [decide_eq_true this.1,decide_eq_true this.2]
 rfl
theorem z263 {sg:List Nat}{i:Int}:i∈cellsOf sg↔hasI sg i=true:=by
 rw [z503,List.mem_filter,z297]
 unfold hasI
 simp only [Bool.and_eq_true,decide_eq_true_eq]
 constructor
 ·intro h;exact h.2
 ·intro h;exact⟨h.1,h⟩
def nearOf (w:Nat) (c:Int):List Int:=[c - w]++(if c % w > 0 then [c - 1] else [])++(if c % w < (w:Int) - 1 then [c + 1] else [])++[c + w]
def z24 (w:Nat) (sg:List Nat) (c:Int):List Int:=(nearOf w c).filter (hasI sg)
def z158 (w:Nat) (sg:List Nat) (c:Int):List Int:=(cellsOf sg).filter fun o=>decide ((o / w - c / w) * (o / w - c / w) + (o % w - c % w) * (o % w - c % w)=1)
theorem z384 {w h:Nat}{sg:List Nat}(g:Good w h sg){c:Int}(c0:0≤c) (c1:c < sg.length):z24 w sg c=z158 w sg c:=by
 have w0:(0:Int) < w:=by have:=g.w0;omega
 have q0:=Int.emod_nonneg c (show (w:Int)≠0 by omega)
 have q1:=Int.emod_lt_of_pos c w0
 have qd:=Int.mul_ediv_add_emod c w
 refine z594 ?_ ?_ fun o=>?_
 ·unfold z24 nearOf
  refine List.Pairwise.filter _ ?_
  by_cases a1:c % w > 0 <;> by_cases a2:c % w < (w:Int) - 1 <;> simp [a1,a2,List.pairwise_cons] <;> omega
 ·unfold z158 cellsOf
  exact((z345 sg).filter _).filter _
 ·unfold z24 z158
  rw [List.mem_filter,List.mem_filter,z263,decide_eq_true_eq]
  have mem:o∈nearOf w c↔o=c - w∨(c % w > 0∧o=c - 1)∨(c % w < (w:Int) - 1∧o=c + 1)∨o=c + w:=by
   unfold nearOf
   by_cases a1:c % w > 0 <;> by_cases a2:c % w < (w:Int) - 1 <;> simp [a1,a2]
  rw [mem]
  constructor
  ·rintro⟨hm,ho⟩
   refine⟨ho,?_⟩
   rcases hm with rfl | ⟨a1,rfl⟩ | ⟨a2,rfl⟩ | rfl
   ·obtain⟨e1,e2⟩:=z509 (c:=c - w) (b:=c / w - 1) (q:=c % w) w0 (by rw [Int.mul_sub,Int.mul_one];omega) q0 q1
    rw [e1,e2,show c / (w:Int) - 1 - c / w=-1 by omega,Int.sub_self]
    rfl
   ·obtain⟨e1,e2⟩:=z509 (c:=c - 1) (b:=c / w) (q:=c % w - 1) w0 (by omega) (by omega) (by omega)
    rw [e1,e2,show c % (w:Int) - 1 - c % w=-1 by omega,Int.sub_self]
    rfl
   ·obtain⟨e1,e2⟩:=z509 (c:=c + 1) (b:=c / w) (q:=c % w + 1) w0 (by omega) (by omega) (by omega)
    rw [e1,e2,show c % (w:Int) + 1 - c % w=1 by omega,Int.sub_self]
    rfl
   ·obtain⟨e1,e2⟩:=z509 (c:=c + w) (b:=c / w + 1) (q:=c % w) w0 (by rw [Int.mul_add,Int.mul_one];omega) q0 q1
    rw [e1,e2,show c / (w:Int) + 1 - c / w=1 by omega,Int.sub_self]
    rfl
  ·rintro⟨ho,hs⟩
   refine⟨?_,ho⟩
   have r0:=Int.emod_nonneg o (show (w:Int)≠0 by omega)
   have r1:=Int.emod_lt_of_pos o w0
   have rd:=Int.mul_ediv_add_emod o w
   rcases sq_one hs with ⟨x0,y1⟩ | ⟨y0,x1⟩
   ·have e:o / (w:Int)=c / w:=by omega
    rw [e] at rd
    rcases y1 with y1 | y1
    ·exact .inr (.inr (.inl ⟨by omega,by omega⟩))
    ·exact .inr (.inl ⟨by omega,by omega⟩)
   ·rcases x1 with x1 | x1
    ·have e:o / (w:Int)=c / w + 1:=by omega
     rw [e,Int.mul_add,Int.mul_one] at rd
     exact .inr (.inr (.inr (by omega)))
    ·have e:o / (w:Int)=c / w - 1:=by omega
     rw [e,Int.mul_sub,Int.mul_one] at rd
     exact .inl (by omega)
theorem z615 {w h:Nat}{sg:List Nat}(g:Good w h sg){c:Int}(c0:0≤c) (c1:c < sg.length):(c / w).toNat < h∧0≤c / w∧0≤c % w∧c % w < w∧(lineOf w sg (c / w).toNat).cps.toList[(c % w).toNat]?=some (at_ sg c):=by
 have w0:(0:Int) < w:=by have:=g.w0;omega
 have q0:=Int.emod_nonneg c (show (w:Int)≠0 by omega)
 have q1:=Int.emod_lt_of_pos c w0
 have qd:=Int.mul_ediv_add_emod c w
 have d0:=Int.ediv_nonneg c0 (show (0:Int)≤w by omega)
 obtain⟨j,hj⟩:=Int.eq_ofNat_of_zero_le d0
 obtain⟨r,hr⟩:=Int.eq_ofNat_of_zero_le q0
 rw [hj,hr] at qd ⊢
 rw [hr] at q1
 have len:=g.len
 have hc:c=((w * j + r:Nat):Int):=by rw [← qd];simp
 have hjh:j < h:=by
  have:w * j < w * h:=by omega
  exact Nat.lt_of_mul_lt_mul_left this
 refine⟨by simpa using hjh,by omega,by omega,q1,?_⟩
 unfold lineOf at_
 rw [z71,hc]
 simp only [Int.toNat_natCast]
 rw [List.getElem?_take_of_lt (by omega),List.getElem?_drop]
 have:w * j + r < sg.length:=by omega
 simp [this]
theorem slice_list {cs:List Nat}{a b:Nat}(hab:a≤b) (hb:b≤cs.length):(Txt.slice (txt cs) (some (a:Int)) (some (b:Int))).cps.toList=(cs.drop a).take (b - a):=by
 have hi:Builtin.Str.strSliceIndices (some (a:Int)) (some (b:Int)) 1 (txt cs).length=(List.range (b - a)).map fun k=>a + k:=by
  rw [z46]
  unfold Builtin.Str.strSliceIndices sliceRange
  have e1:¬ ((a:Int) < 0):=by omega
  have e2:¬ ((b:Int) < 0):=by omega
  simp only [e1,e2,if_false,show (1:Int) > 0 by decide,if_true,Int.ediv_one]
  have e3:max 0 (min (a:Int) (cs.length:Int))=a:=by omega
  have e4:max 0 (min (b:Int) (cs.length:Int))=b:=by omega
  rw [e3,e4]
  have e5:(if (a:Int) < b then(b:Int) - a + 1 - 1 else 0).toNat=b - a:=by split <;> omega
  rw [e5]
  refine List.map_congr_left fun k _=>?_
  omega
 have pick:((List.range (b - a)).map fun k=>a + k).filterMap ((txt cs).cps[·]?)=(cs.drop a).take (b - a):=by
  refine List.ext_getElem? fun j=>?_
  rw [HT.z130 (g:=fun m=>cs.getD m 0) (fun m hm=>?_)]
  ·rw [List.getElem?_map,List.getElem?_map]
   by_cases hj:j < b - a
   ·rw [List.getElem?_range hj,List.getElem?_take_of_lt hj,List.getElem?_drop]
    have:a + j < cs.length:=by omega
    simp [this]
   ·rw [List.getElem?_eq_none (by simpa using hj),List.getElem?_eq_none (by rw [List.length_take];omega)]
    rfl
  ·obtain⟨k,hk,rfl⟩:=List.mem_map.mp hm
   have:=List.mem_range.mp hk
   have:a + k < cs.length:=by omega
   simp [txt,this]
 unfold Txt.slice
 rw [hi]
 split
 ·rename_i h
  have h':b - a=cs.length:=by
   simp only [beq_self_eq_true,Bool.true_and,beq_iff_eq,List.length_map,List.length_range,z46] at h
   exact h
  have ha:a=0:=by omega
  have hbl:b=cs.length:=by omega
  rw [z71,ha,hbl]
  simp
 ·show (List.filterMap _ _).toArray.toList=_
  rw [List.toList_toArray]
  exact pick
theorem z547 {cs:List Nat}:(Txt.slice (txt cs) (some (1:Int)) none).cps.toList=cs.drop 1:=by
 cases cs with
 | nil=>rfl
 | cons c r=>
  have hi:Builtin.Str.strSliceIndices (some (1:Int)) none 1 (txt (c::r)).length=(List.range r.length).map fun k=>1 + k:=by
   rw [z46]
   unfold Builtin.Str.strSliceIndices sliceRange
   simp only [show ¬ ((1:Int) < 0) by decide,if_false,show (1:Int) > 0 by decide,if_true,Int.ediv_one,List.length_cons]
   have e3:max 0 (min (1:Int) ((r.length + 1:Nat):Int))=1:=by omega
   rw [e3]
   have e5:(if (1:Int) < ((r.length + 1:Nat):Int) then((r.length + 1:Nat):Int) - 1 + 1 - 1 else 0).toNat=r.length:=by split <;> omega
   rw [e5]
   refine List.map_congr_left fun k _=>?_
   omega
  unfold Txt.slice
  rw [hi,if_neg (by simp [z46])]
  show (List.filterMap _ _).toArray.toList=_
  rw [List.toList_toArray,HT.z130 (g:=fun m=>(c::r).getD m 0) (fun m hm=>?_)]
  ·refine List.ext_getElem? fun j=>?_
   rw [List.getElem?_map,List.getElem?_map]
   by_cases hj:j < r.length
   ·rw [List.getElem?_range hj]
    simp [hj,Nat.add_comm 1 j]
   ·rw [List.getElem?_eq_none (by simpa using hj),List.getElem?_eq_none (by simpa using hj)]
    rfl
  ·obtain⟨k,hk,rfl⟩:=List.mem_map.mp hm
   have:=List.mem_range.mp hk
   simp [txt,Nat.add_comm 1 k,this]
theorem z607 {w h:Nat}{sg:List Nat}(hl:sg.length=w * h){j:Nat}(hj:j < h):Txt.slice (txt sg) (some ((w * j:Nat):Int)) (some ((w * j + w:Nat):Int))=lineOf w sg j:=by
 refine z213 ?_
 have:=z755 (w:=w) hj
 rw [slice_list (by omega) (by omega),lineOf,z71]
 congr 1
 omega
end Fl
set_option Elab.async false
set_option linter.all false
namespace Hq
open PySem L2
theorem z432:∀ a:List Int,HT.lexLt a a=false
 | []=>rfl
 | x::a=>by rw [HT.lexLt_cons,if_pos rfl];exact z432 a
theorem z508:∀ {a b:List Int},HT.lexLt a b=true→HT.lexLt b a=false
 | [],[],h=>by cases h
 | [],_::_,_=>rfl
 | _::_,[],h=>by cases h
 | x::a,y::b,h=>by
  rw [HT.lexLt_cons] at h ⊢
  by_cases e:x=y
  ·rw [if_pos e] at h
   rw [if_pos e.symm]
   exact z508 h
  ·rw [if_neg e,decide_eq_true_eq] at h
   rw [if_neg (fun z=>e z.symm)]
   exact decide_eq_false (by omega)
def Le (a b:List Int):Prop:=HT.lexLt b a=false
theorem Le.refl (a:List Int):Le a a:=z432 a
theorem Le.of {a b:List Int}(h:HT.lexLt a b=true):Le a b:=z508 h
theorem Le.trans:∀ {a b c:List Int},Le a b→Le b c→Le a c
 | [],_,[],_,_=>rfl
 | [],_,_::_,_,_=>rfl
 | _::_,[],_,h,_=>by cases h
 | _::_,_::_,[],_,h=>by cases h
 | x::a,y::b,z::c,h1,h2=>by
  unfold Le at h1 h2 ⊢
  rw [HT.lexLt_cons] at h1 h2 ⊢
  by_cases e1:y=x <;> by_cases e2:z=y
  ·rw [if_pos e1] at h1
   rw [if_pos e2] at h2
   rw [if_pos (e2.trans e1)]
   exact Le.trans (a:=a) (b:=b) h1 h2
  ·rw [if_neg e2,decide_eq_false_iff_not] at h2
   rw [if_neg (by omega)]
   exact decide_eq_false (by omega)
  ·rw [if_neg e1,decide_eq_false_iff_not] at h1
   rw [if_neg (by omega)]
   exact decide_eq_false (by omega)
  ·rw [if_neg e1,decide_eq_false_iff_not] at h1
   rw [if_neg e2,decide_eq_false_iff_not] at h2
   rw [if_neg (by omega)]
   exact decide_eq_false (by omega)
section
variable {α:Type}{k:α→List Int}{ts:List α}
def Hok (k:α→List Int) (ts:List α):Prop:=∀ (i:Nat) (x y:α),0 < i→ts[i]?=some x→ts[(i - 1) / 2]?=some y→Le (k y) (k x)
def swp (ts:List α) (p a:Nat) (x y:α):List α:=(ts.set p y).set a x
theorem z748 {p a:Nat}{x y:α}(hp:p < ts.length) (ha:a < ts.length) (i:Nat):(swp ts p a x y)[i]?=if i=a then some x else if i=p then some y else ts[i]?:=by
 unfold swp
 rw [List.getElem?_set]
 by_cases e:a=i
 ·subst e
  rw [if_pos rfl,if_pos rfl,if_pos (by rw [List.length_set];exact ha)]
 ·rw [if_neg e,if_neg (fun z=>e z.symm),List.getElem?_set]
  by_cases e2:p=i
  ·subst e2
   rw [if_pos rfl,if_pos rfl,if_pos hp]
  ·rw [if_neg e2,if_neg (fun z=>e2 z.symm)]
theorem z801 {p a:Nat}{x y:α}:(swp ts p a x y).length=ts.length:=by simp [swp]
structure Lift (k:α→List Int) (ts:List α) (p:Nat):Prop where
 up:∀ (i:Nat) (x y:α),0 < i→i≠p→ts[i]?=some x→ts[(i - 1) / 2]?=some y→Le (k y) (k x)
 gp:0 < p→∀ (i:Nat) (x y:α),0 < i→(i - 1) / 2=p→ts[i]?=some x→ts[(p - 1) / 2]?=some y→Le (k y) (k x)
theorem z41 {i:Nat}{x:α}(h:ts[i]?=some x):i < ts.length:=(List.getElem?_eq_some_iff.mp h).1
theorem Lift.step {p:Nat}{x y:α}(L:Lift k ts p) (p0:0 < p) (hx:ts[p]?=some x) (hy:ts[(p - 1) / 2]?=some y) (h:HT.lexLt (k x) (k y)=true):Lift k (swp ts p ((p - 1) / 2) x y) ((p - 1) / 2):=by
 have lp:=z41 hx
 have la:=z41 hy
 have ne:(p - 1) / 2≠p:=by omega
 have g:=z748 (x:=x) (y:=y) lp la
 refine⟨fun i u v i0 ia hu hv=>?_,fun a0 i u v i0 ia hu hv=>?_⟩
 ·rw [g] at hu hv
  rw [if_neg ia] at hu
  by_cases ip:i=p
  ·subst ip
   rw [if_pos rfl] at hu hv
   cases hu
   cases hv
   exact Le.of h
  ·rw [if_neg ip] at hu
   by_cases ja:(i - 1) / 2=(p - 1) / 2
   ·rw [if_pos ja] at hv
    cases hv
    exact Le.trans (Le.of h) (L.up i u y i0 ip hu (by rw [ja];exact hy))
   ·rw [if_neg ja] at hv
    by_cases jp:(i - 1) / 2=p
    ·rw [if_pos jp] at hv
     cases hv
     exact L.gp p0 i u _ i0 jp hu hy
    ·rw [if_neg jp] at hv
     exact L.up i u v i0 ip hu hv
 ·rw [g] at hu hv
  have e1:¬ ((p - 1) / 2 - 1) / 2=(p - 1) / 2:=by omega
  have e2:¬ ((p - 1) / 2 - 1) / 2=p:=by omega
  rw [if_neg e1,if_neg e2] at hv
  have hz:=L.up _ y v a0 ne hy hv
  rw [if_neg (show ¬ i=(p - 1) / 2 by omega)] at hu
  by_cases ip:i=p
  ·rw [if_pos ip] at hu
   cases hu
   exact hz
  ·rw [if_neg ip] at hu
   exact Le.trans hz (L.up i u y i0 ip hu (by rw [ia];exact hy))
theorem Lift.done {p:Nat}(L:Lift k ts p) (h:p=0∨∃ x y,ts[p]?=some x∧ts[(p - 1) / 2]?=some y∧HT.lexLt (k x) (k y)=false):Hok k ts:=by
 intro i x y i0 hx hy
 by_cases ip:i=p
 ·subst ip
  rcases h with h | ⟨x',y',h1,h2,h3⟩
  ·omega
  ·rw [hx] at h1
   rw [hy] at h2
   cases h1
   cases h2
   exact h3
 ·exact L.up i x y i0 ip hx hy
theorem Lift.start {t:α}(h:Hok k ts):Lift k (ts++[t]) ts.length:=by
 refine⟨fun i x y i0 ip hx hy=>?_,fun p0 i x y i0 ip hx hy=>?_⟩
 ·have li:=z41 hx
  rw [List.length_append,List.length_cons,List.length_nil] at li
  rw [List.getElem?_append_left (by omega)] at hx
  rw [List.getElem?_append_left (by omega)] at hy
  exact h i x y i0 hx hy
 ·have li:=z41 hx
  rw [List.length_append,List.length_cons,List.length_nil] at li
  omega
structure Sink (k:α→List Int) (ts:List α) (p:Nat):Prop where
 up:∀ (i:Nat) (x y:α),0 < i→(i - 1) / 2≠p→ts[i]?=some x→ts[(i - 1) / 2]?=some y→Le (k y) (k x)
 gp:0 < p→∀ (i:Nat) (x y:α),0 < i→(i - 1) / 2=p→ts[i]?=some x→ts[(p - 1) / 2]?=some y→Le (k y) (k x)
structure Lesser (k:α→List Int) (ts:List α) (p b:Nat):Prop where
 b0:0 < b
 bp:(b - 1) / 2=p
 le:∀ (i:Nat) (x y:α),0 < i→(i - 1) / 2=p→ts[i]?=some x→ts[b]?=some y→Le (k y) (k x)
theorem Sink.step {p b:Nat}{x y:α}(S:Sink k ts p) (B:Lesser k ts p b) (hx:ts[b]?=some x) (hy:ts[p]?=some y) (h:HT.lexLt (k x) (k y)=true):Sink k (swp ts p b y x) b:=by
 have lb:=z41 hx
 have lp:=z41 hy
 have b0:=B.b0
 have bp:=B.bp
 have g:=z748 (x:=y) (y:=x) lp lb
 refine⟨fun i u v i0 jb hu hv=>?_,fun _ i u v i0 jb hu hv=>?_⟩
 ·rw [g] at hu hv
  rw [if_neg jb] at hv
  by_cases jp:(i - 1) / 2=p
  ·rw [if_pos jp] at hv
   cases hv
   by_cases ib:i=b
   ·rw [if_pos ib] at hu
    cases hu
    exact Le.of h
   ·rw [if_neg ib,if_neg (by omega)] at hu
    exact B.le i u _ i0 jp hu hx
  ·rw [if_neg jp] at hv
   rw [if_neg (fun z=>jp (by rw [z];exact bp))] at hu
   by_cases ip:i=p
   ·rw [if_pos ip] at hu
    cases hu
    subst ip
    exact S.gp i0 b _ v b0 bp hx hv
   ·rw [if_neg ip] at hu
    exact S.up i u v i0 jp hu hv
 ·rw [g] at hu hv
  rw [if_neg (show ¬ (b - 1) / 2=b by omega),if_pos bp] at hv
  cases hv
  rw [if_neg (show ¬ i=b by omega),if_neg (show ¬ i=p by omega)] at hu
  exact S.up i u _ i0 (by omega) hu (by rw [jb];exact hx)
theorem Sink.done {p:Nat}(S:Sink k ts p) (h:(∀ i,0 < i→(i - 1) / 2=p→ts[i]?=none)∨∃ b x y,Lesser k ts p b∧ts[b]?=some x∧ts[p]?=some y∧HT.lexLt (k x) (k y)=false):Hok k ts:=by
 intro i x y i0 hx hy
 by_cases ip:(i - 1) / 2=p
 ·rcases h with h | ⟨b,x',y',B,h1,h2,h3⟩
  ·rw [h i i0 ip] at hx
   cases hx
  ·rw [ip,h2] at hy
   cases hy
   exact Le.trans h3 (B.le i x x' i0 ip hx h1)
 ·exact S.up i x y i0 ip hx hy
theorem Sink.start {z:α}(h:Hok k ts):Sink k (ts.set 0 z) 0:=by
 refine⟨fun i x y i0 jp hx hy=>?_,fun p0=>absurd p0 (Nat.lt_irrefl _)⟩
 rw [List.getElem?_set_ne (by omega)] at hx
 rw [List.getElem?_set_ne (by omega)] at hy
 exact h i x y i0 hx hy
theorem Hok.least (h:Hok k ts){r:α}(hr:ts[0]?=some r):∀ (i:Nat) (x:α),ts[i]?=some x→Le (k r) (k x):=by
 intro i
 induction i using Nat.strongRecOn with
 | _ i ih=>
  intro x hx
  by_cases i0:0 < i
  ·have li:=z41 hx
   obtain⟨y,hy⟩:∃ y,ts[(i - 1) / 2]?=some y:=⟨_,List.getElem?_eq_getElem (by omega)⟩
   exact Le.trans (ih _ (by omega) y hy) (h i x y i0 hx hy)
  ·have:i=0:=by omega
   subst this
   rw [hr] at hx
   cases hx
   exact Le.refl _
theorem Hok.init {t:α}(h:Hok k (ts++[t])):Hok k ts:=by
 intro i x y i0 hx hy
 have li:=z41 hx
 exact h i x y i0 (by rw [List.getElem?_append_left li];exact hx) (by rw [List.getElem?_append_left (by omega)];exact hy)
theorem z623 [DecidableEq α]{p a:Nat}{x y:α}(hx:ts[p]?=some x) (hy:ts[a]?=some y) (ne:p≠a):(swp ts p a x y).Perm ts:=by
 have lp:=z41 hx
 have la:=z41 hy
 rw [List.perm_iff_count]
 intro z
 unfold swp
 have la':a < (ts.set p y).length:=by rw [List.length_set];exact la
 have e1:ts[p]=x:=(List.getElem?_eq_some_iff.mp hx).2
 have e2:ts[a]=y:=(List.getElem?_eq_some_iff.mp hy).2
 rw [List.count_set la',List.count_set lp,List.getElem_set_ne ne,e1,e2]
 have c1:(if (x == z)=true then 1 else 0)≤ts.count z:=by
  split
  ·rename_i h
   rw [beq_iff_eq] at h
   exact List.count_pos_iff.mpr (h ▸ List.mem_of_getElem? hx)
  ·exact Nat.zero_le _
 omega
end
end Hq
set_option linter.all false
namespace Dj
section
variable {st:Int→List (Int × Int)}{C G:List Int}
inductive Reach (st:Int→List (Int × Int)) (C G:List Int):Int→Int→Prop
 | goal {g:Int}:g∈G→Reach st C G g 0
 | step {c o w n:Int}:c∈C→(o,w)∈st c→Reach st C G o n→Reach st C G c (w + n)
def Least (st:Int→List (Int × Int)) (C G:List Int) (c n:Int):Prop:=Reach st C G c n∧∀ m,Reach st C G c m→n≤m
def Pos (st:Int→List (Int × Int)):Prop:=∀ c o w,(o,w)∈st c→1≤w
theorem Reach.nn (hw:Pos st){c n:Int}(h:Reach st C G c n):0≤n:=by
 induction h with
 | goal _=>exact Int.le_refl _
 | step _ h2 _ ih=>
  have:=hw _ _ _ h2
  omega
theorem Reach.inC (hg:∀ g∈G,g∈C){c n:Int}(h:Reach st C G c n):c∈C:=by
 cases h with
 | goal h=>exact hg _ h
 | step h _ _=>exact h
theorem Least.uniq {c n m:Int}(h:Least st C G c n) (h':Least st C G c m):n=m:=Int.le_antisymm (h.2 _ h'.1) (h'.2 _ h.1)
structure Inv (st:Int→List (Int × Int)) (C G:List Int) (cv:Int→Option Int) (It:Int→Int→Prop):Prop where
 d1:∀ c n,cv c=some n→Least st C G c n
 d2:∀ n c,It n c→Reach st C G c n
 d3:∀ g∈G,(cv g).isSome=true∨It 0 g
 d4:∀ o n c w,cv o=some n→c∈C→(o,w)∈st c→(cv c).isSome=true∨It (n + w) c
variable {cv cv':Int→Option Int}{It It':Int→Int→Prop}
theorem Inv.item (I:Inv st C G cv It) (hw:Pos st){c m:Int}(h:Reach st C G c m):cv c=none→∃ k x,It k x∧k≤m:=by
 induction h with
 | @goal g hg=>
  intro e
  rcases I.d3 g hg with h | h
  ·rw [e] at h;cases h
  ·exact⟨0,g,h,Int.le_refl _⟩
 | @step c o w n hc ho hr ih=>
  intro e
  cases eo:cv o with
  | none=>
   obtain⟨k,x,h1,h2⟩:=ih eo
   have:=hw _ _ _ ho
   exact⟨k,x,h1,by omega⟩
  | some n'=>
   have:=(I.d1 o n' eo).2 n hr
   rcases I.d4 o n' c w eo hc ho with h | h
   ·rw [e] at h;cases h
   ·exact⟨_,_,h,by omega⟩
theorem Inv.least (I:Inv st C G cv It) (hw:Pos st){n c:Int}(h:It n c) (hm:∀ k x,It k x→n≤k) (e:cv c=none):Least st C G c n:=
 ⟨I.d2 n c h,fun m hr=>by
  obtain⟨k,x,h1,h2⟩:=I.item hw hr e
  have:=hm k x h1
  omega⟩
theorem Inv.done (I:Inv st C G cv It) (hw:Pos st) (h:∀ n c,¬ It n c){c m:Int}(hr:Reach st C G c m):∃ n,cv c=some n:=by
 cases e:cv c with
 | none=>
  obtain⟨k,x,h1,_⟩:=I.item hw hr e
  exact absurd h1 (h k x)
 | some n=>exact⟨n,rfl⟩
theorem Inv.drop (I:Inv st C G cv It){c:Int}(hc:(cv c).isSome=true) (h1:∀ n x,It' n x→It n x) (h2:∀ n x,It n x→It' n x∨x=c):Inv st C G cv It':=
 ⟨I.d1,fun n x h=>I.d2 n x (h1 n x h),fun g hg=>(I.d3 g hg).elim .inl fun h=>(h2 _ _ h).elim .inr fun e=>.inl (by rw [e];exact hc),
  fun o n x w ho hx hs=>(I.d4 o n x w ho hx hs).elim .inl fun h=>(h2 _ _ h).elim .inr fun e=>.inl (by rw [e];exact hc)⟩
theorem Inv.add (I:Inv st C G cv It) (hw:Pos st){n c:Int}(h:It n c) (hm:∀ k x,It k x→n≤k) (e:cv c=none) (hv:∀ x,cv' x=if x=c then some n else cv x)
  (h1:∀ m x,It' m x→It m x∨∃ w,x∈C∧(c,w)∈st x∧m=n + w) (h2:∀ m x,It m x→It' m x∨x=c) (h3:∀ x w,x∈C→(c,w)∈st x→It' (n + w) x):Inv st C G cv' It':=by
 have hl:=I.least hw h hm e
 have self:(cv' c).isSome=true:=by rw [hv,if_pos rfl];rfl
 have up:∀ x,(cv x).isSome=true→(cv' x).isSome=true:=fun x h=>by
  rw [hv]
  split
  ·rfl
  ·exact h
 refine⟨fun x m hx=>?_,fun m x hx=>?_,fun g hg=>?_,fun o m x w ho hx hs=>?_⟩
 ·rw [hv] at hx
  by_cases q:x=c
  ·rw [if_pos q] at hx
   cases hx
   rw [q]
   exact hl
  ·rw [if_neg q] at hx
   exact I.d1 x m hx
 ·rcases h1 m x hx with h | ⟨w,hxc,hs,rfl⟩
  ·exact I.d2 m x h
  ·rw [Int.add_comm]
   exact .step hxc hs hl.1
 ·rcases I.d3 g hg with h | h
  ·exact .inl (up g h)
  ·rcases h2 _ _ h with h | h
   ·exact .inr h
   ·exact .inl (by rw [h];exact self)
 ·rw [hv] at ho
  by_cases q:o=c
  ·rw [if_pos q] at ho
   cases ho
   exact .inr (h3 x w hx (by rw [← q];exact hs))
  ·rw [if_neg q] at ho
   rcases I.d4 o m x w ho hx hs with h | h
   ·exact .inl (up x h)
   ·rcases h2 _ _ h with h | h
    ·exact .inr h
    ·exact .inl (by rw [h];exact self)
end
end Dj
set_option Elab.async false
set_option linter.all false
set_option maxRecDepth 100000
namespace L2
open PySem PySem.Spec PyProof.Rows
theorem z807 {P:Program}{w:World}{k:Key}{u:Value}(h:(mixKind P w).is k u=true):RelV (kV k) u:=by
 cases k with
 | inl i=>
  cases u <;> simp_all [mixKind,keyIs,Value.isInt,kV,RelV]
 | inr x=>
  cases u <;> simp_all [mixKind,keyIs,Value.isStrOf,kV,RelV]
section
variable {X:Cx}{pins:List (Addr × Obj)}{σ:St}{H:Hp}{s:Shared}{a:Addr}
theorem Inv.freezeK {kvs:List (Key × V)} (I:Inv X pins σ H s) (e:H a=some (.dK kvs)){o:Obj}(ho:s.heap.get? a=some o):Inv X pins σ (upd H a (.frz o (.dK kvs))) s:=by
 refine I.re e (fun _ z=>nomatch z) (fun _ z=>nomatch z) (fun _ z=>nomatch z) (fun o w z=>?_) ⟨ho,(show ObjOk X.prog X.w H s.heap a (.dK kvs) from I.hok a _ e)⟩
 have:=I.base.frzs a o w z
 rw [e] at this
 cases this
theorem Inv.thawK {kvs:List (Key × V)}{o:Obj}(I:Inv X pins σ H s) (e:H a=some (.frz o (.dK kvs))) (nf:∀ o w,X.H₀ a≠some (.frz o w)):Inv X pins σ (upd H a (.dK kvs)) s:=
 I.re e (fun _ z=>nomatch z) (fun _ z=>nomatch z) (fun _ z=>nomatch z) nf (show ObjOk X.prog X.w (upd H a (.dK kvs)) s.heap a (.dK kvs) from(show ObjOk X.prog X.w H s.heap a (.frz o (.dK kvs)) from I.hok a _ e).2)
end
def Itk (a:Addr) (o:Obj) (kvs:List (Key × V)):It:=
 ⟨fun i H=>H a=some (.frz o (.dK kvs))∧i < kvs.length,fun i H x H'=>H'=H∧∃ k v,x=kV k∧kvs[i]?=some (k,v),fun i H=>H a=some (.frz o (.dK kvs))∧kvs.length≤i⟩
theorem pairs_at {P:Program}{w:World}:∀ {es:List DictEntry}{vs:List (Key × Value)},Pairs (mixKind P w) es vs→∀ {i:Nat}{q:Key × Value},vs[i]?=some q→∃ e,es[i]?=some e∧(mixKind P w).is q.1 e.key=true
 | _,_,.cons h _ _,0,_,e=>by cases e;exact⟨_,rfl,h⟩
 | _,_,.cons _ _ r,i + 1,_,e=>by
  rw [List.getElem?_cons_succ] at e
  obtain⟨x,e1,e2⟩:=pairs_at r e
  exact⟨x,by rw [List.getElem?_cons_succ];exact e1,e2⟩
theorem z397 {P:Program}{w:World}{K:PySem.W.Frag}{tg:Expr}(a it:Addr) (o:Obj) (kvs:List (Key × V)) (es:Array DictEntry) (ep:Nat) (hdd:o.data=.dict es ep):Turn P w K tg (Itk a o kvs) [it] it (fun i h=>h.IsKeyIter it a i es.size ep) where
 mem:=by simp
 obj:=fun i h st b hb=>by
  have e:b=it:=by simpa using hb
  subst e
  obtain⟨o,e,c,d⟩:=st
  exact⟨o,e,fun v z=>by rw [d] at z;cases z⟩
 keep:=fun i h h' st k=>st.at fun o e=>k it (by simp) o e
 item:=by
  intro X hP hw hK hc i pins s σ H E I hf st hg
  subst hP hw hK
  obtain⟨hq,hx⟩:=hg
  obtain⟨hod,z,hd,vs,rel,o',es',ep',ho',he1,he2,he3,he4,he5⟩:=(show ObjOk X.prog X.w H s.heap a (.frz o (.dK kvs)) from I.hok a _ hq)
  rw [hod] at ho'
  cases ho'
  rw [hdd] at he2
  cases he2
  obtain⟨kv,hkv⟩:∃ kv,kvs[i]?=some kv:=⟨_,List.getElem?_eq_getElem hx⟩
  obtain⟨q,hq1,q1,q2⟩:=Paired.at1 rel hkv
  obtain⟨en,hen,his⟩:=pairs_at he4 hq1
  have hes:es[i]?=some en:=by simpa using hen
  obtain⟨f0,f1,f2,f3,f4,f5⟩:=hf it (by simp)
  refine z691 st hod hdd hes fun h' st' sb=>?_
  have I1:Inv X pins σ H { s with heap:=h' }:=I.turned (t':=s.toks) (fun b o hb e=>(sb.2 b hb).trans e) f0 f1 f3 f4 f5
  obtain⟨o2,e,c,d⟩:=id st'
  exact⟨_,rfl,go_of (s:={ s with heap:=h' }) e c d (by decide) ⟨kV q.1,H,I1,z807 his,⟨rfl,kv.1,kv.2,by rw [q1],hkv⟩,st',fun b hb=>(hf b hb).1⟩⟩
 done:=by
  intro X hP hw hK hc i pins s σ H E I hf st hg
  subst hP hw hK
  obtain⟨hq,hx⟩:=hg
  obtain⟨hod,z,hd,vs,rel,o',es',ep',ho',he1,he2,he3,he4,he5⟩:=(show ObjOk X.prog X.w H s.heap a (.frz o (.dK kvs)) from I.hok a _ hq)
  rw [hod] at ho'
  cases ho'
  rw [hdd] at he2
  cases he2
  have hsz:=he4.length
  have hl:=Paired.length rel
  obtain⟨f0,f1,f2,f3,f4,f5⟩:=hf it (by simp)
  exact z770 (I.calm hc) st hod hdd (by simp only [Array.length_toList] at hsz;omega) fun h' eb=>⟨rfl,I.turned (t':=s.toks) (fun b o hb e=>eb b o hb e) f0 f1 f3 f4 f5⟩
 self:=fun _ _ _ _ _ st h=>wpAny_pyIter_keyiter st h
def iDictK (te:TE):TI:=fun σ H R=>te σ H fun x H1=>∃ a kvs,x=.ref a∧((H1 a=some (.dK kvs)∧∀ o,R (Itk a o kvs) (upd H1 a (.frz o (.dK kvs))))∨∃ o,H1 a=some (.frz o (.dK kvs))∧R (Itk a o kvs) H1)
theorem z579 {X:Cx}{tg l:Expr}{tl:TE}(hl:PE X l tl):PI X tg l (iDictK tl):=by
 intro pins s σ H R I h
 refine thn (hl pins s σ H _ I h) fun v s1 ⟨x,H1,I1,r1,q1⟩=>?_
 obtain⟨a,kvs,e,q⟩:=q1
 subst e
 cases r1
 rcases q with ⟨hq,q⟩ | ⟨o,hq,q⟩
 ·obtain⟨z,hd,vs,rel,dd⟩:=dk_of I1.hok hq
  obtain⟨o,es,ep,ho,hc,hdat,_⟩:=dd
  refine z511 hd ho hc hdat ?_
  have I2:=I1.freezeK hq ho
  refine⟨s1.heap.objs.size,[s1.heap.objs.size],_,_,_,rfl,I2.kept (t':=s1.toks) fun b o e=>Heap.get?_push_of_some _ e,z397 a _ o kvs es ep hdat,⟨_,Heap.get?_push_size _ rfl,rfl,rfl⟩,fun b hb=>?_,q o⟩
  have e:b=s1.heap.objs.size:=by simpa using hb
  subst e
  exact I2.fpOk (Nat.le_refl _) (I2.hok.fresh (Nat.le_refl _))
 ·obtain⟨ho,z,hd,vs,rel,o',es,ep,ho',hc,hdat,_⟩:=(show ObjOk X.prog X.w H1 s1.heap a (.frz o (.dK kvs)) from I1.hok a _ hq)
  rw [ho] at ho'
  cases ho'
  refine z511 hd ho hc hdat ?_
  refine⟨s1.heap.objs.size,[s1.heap.objs.size],_,_,_,rfl,I1.kept (t':=s1.toks) fun b o e=>Heap.get?_push_of_some _ e,z397 a _ o kvs es ep hdat,⟨_,Heap.get?_push_size _ rfl,rfl,rfl⟩,fun b hb=>?_,q⟩
  have e:b=s1.heap.objs.size:=by simpa using hb
  subst e
  exact I1.fpOk (Nat.le_refl _) (I1.hok.fresh (Nat.le_refl _))
def Ends.thawK (D:Ends) (a:Addr) (kvs:List (Key × V)):Ends where
 nx:=fun σ H=>(∃ o,H a=some (.frz o (.dK kvs)))∧D.nx σ (upd H a (.dK kvs))
 rt:=fun v H=>(∃ o,H a=some (.frz o (.dK kvs)))∧D.rt v (upd H a (.dK kvs))
 bk:=fun σ H=>(∃ o,H a=some (.frz o (.dK kvs)))∧D.bk σ (upd H a (.dK kvs))
 ct:=fun σ H=>(∃ o,H a=some (.frz o (.dK kvs)))∧D.ct σ (upd H a (.dK kvs))
def tThawE (t:TE):TE:=fun σ H Q=>(∃ a kvs,H a=some (.dK kvs)∧t σ H fun v H'=>(∃ o,H' a=some (.frz o (.dK kvs)))∧Q v (upd H' a (.dK kvs)))∨t σ H Q
theorem z610 {X:Cx}{e:Expr}{t:TE}(h:PE X e t):PE X e (tThawE t):=by
 intro pins s σ H Q I q
 rcases q with ⟨a,kvs,e',q⟩ | q
 ·have nf:∀ o w,X.H₀ a≠some (.frz o w):=fun o w z=>by
   have:=I.base.frzs a o w z
   rw [e'] at this
   cases this
  refine thn (h pins s σ H _ I q) fun u s' ⟨v,H',I',rv,⟨o,z⟩,d⟩=>?_
  exact⟨v,_,I'.thawK z nf,rv,d⟩
 ·exact h pins s σ H Q I q
theorem z515 {a:Addr}{o:Obj}{kvs:List (Key × V)}{H:Hp}(h:H a=some (.frz o (.dK kvs))):SrcIs (Itk a o kvs) H (kvs.map fun kv=>kV kv.1):=
 ⟨fun i hi=>⟨h,by simpa using hi⟩,fun i x H' hi y=>⟨y.1,by
  obtain⟨_,k,v,e,hk⟩:=y
  rw [List.getElem?_map,hk,e]
  rfl⟩,⟨h,by simp⟩⟩
theorem Inv.sorted {X:Cx}{pins:List (Addr × Obj)}{σ:St}{H:Hp}{s:Shared}{h':Heap}{tk:Nat}{a e:Nat}{out:Array Value}{ms:List Int}(I:Inv X pins σ H s) (hk:∀ b o,s.heap.get? b=some o→h'.get? b=some o) (ha:s.heap.objs.size≤a)
  (hm:IntsAre out.toList ms) (hz:ms.length≤sizeLine) (ho:h'.get? a=some (seqObj "list" out e)):Inv X pins σ (upd H a (.lst (ms.map V.int))) { s with heap:=h',toks:=tk }:=
 I.laid (t':=tk) hk ha (show ObjOk X.prog X.w _ h' _ (.lst (ms.map V.int)) from⟨by rw [List.length_map];exact hz,out.toList,e,vals_ints hm,by rw [ho]⟩)
theorem z467 {X:Cx}:CallR X (.builtin "sorted") (fun xs H Q=>∃ p ns,xs=[.ref p]∧SqL X.K H p (ns.map V.int)∧ns.length < 64∧∀ ms:List Int,ms.Perm ns→ms.Pairwise (·≤·)→∀ l,H l=none→Q (.ref l) (upd H l (.lst (ms.map V.int)))):=by
 intro pins s σ H xs us Q I r h
 obtain⟨p,ns,rfl,hq,hl,q⟩:=h
 obtain⟨u,rfl,rx⟩:=vals1 r
 cases rx
 obtain⟨its,r',pl,hz⟩:=I.list hq
 have hn:=r'.length
 rw [List.length_map] at hn
 refine sorted_ints pl.isList (intsAre_of r') (by omega) fun out ms h1 h2 h3=>?_
 obtain⟨e,he⟩:=sortedAll_at s.heap its out
 have hm:=h2.length_eq
 exact⟨.ref (s.heap.objs.size + 1),_,I.sorted (tk:=s.toks) (fun b o hb=>sortedAll_old hb) (Nat.le_succ _) h1 (by rw [sizeLine_eq];omega) he,rfl,q ms h2 h3 _ (I.hok.fresh (Nat.le_succ _))⟩
section
variable {prog:Program}{w:World}{A:Around}{E:Value→Shared→Prop}{s:Shared}{K:Type} [DecidableEq K]{knd:KeyKind prog w K}{d:Addr}{kvs:List (K × Value)}{ep:Nat}
end
end L2
set_option Elab.async false
set_option linter.all false
set_option maxRecDepth 100000
namespace L2
open PySem PySem.Spec PyProof.Rows
section
variable {prog:Program}{w:World}{A:Around}{E:Value→Shared→Prop}{s:Shared}{d:Addr}
end
end L2
set_option Elab.async false
set_option linter.all false
set_option maxRecDepth 100000
namespace L2
open PySem PySem.Spec PyProof.Rows
theorem Hd.but {A:Around}{h h':Heap}(d:Hd A h){L:List Addr}(hL:∀ b∈L,∃ o n,h.get? b=some o∧o.cls=.type n) (k:∀ b o,b ∉ L→h.get? b=some o→h'.get? b=some o):Hd A h':=by
 rcases d with d | ⟨ea,C,dx,vs,sl,d1,d2,d3⟩
 ·exact .inl d
 ·refine .inr ⟨ea,C,dx,vs,sl,d1,k _ _ (fun z=>?_) d2,d3⟩
  obtain⟨o,n,ho,hc⟩:=hL ea z
  rw [d2] at ho
  cases ho
  cases hc
section
variable {prog:Program}{w:World}{A:Around}{E:Value→Shared→Prop}{s:Shared}
theorem z440 {it l:Addr}{i:Nat}{items:Array Value}{Q:Value→Shared→Prop}(hh:Hd A s.heap) (hit:s.heap.IsListIter it l i) (hl:s.heap.IsList l items) (hx:items[i]?=none)
  (hE:∀ h' e,Heap.ExtBut it s.heap h'→(∃ o,h'.get? e=some o∧o.cls=.type "StopIteration")→E (.ref e) { s with heap:=h' }):wpAny (model prog w) A (Builtin.SmallTypes.nextOf (.ref it)) Q E s:=by
 obtain⟨o,ho,hc,hd⟩:=id hit
 obtain⟨_,hol,_,_,hdl⟩:=hl
 unfold Builtin.SmallTypes.nextOf
 refine wpAny_bind (wpAny_callSpecial?_slot (name:=Str.ofString "__next__") hit.typeIs slot_listiter_next (wpAny_call_entry slot_listiter_next hit.typeIs entry_listiter_next ?_ (args_listiter_next _)))
 refine wpAny_bind (m:=field (.ref it) 0) (wpAny_field ho hd (x:=.ref l) rfl ?_)
 rw [if_neg (fun z:(Value.ref l == Value.none)=true=>nomatch z)]
 refine wpAny_bind (m:=field (.ref it) 1) (wpAny_field ho hd (x:=.int i 0) rfl (wpAny_bind (m:=seqItems? (.ref l)) (wpAny_seqItems hol hdl ?_)))
 simp only [Int.toNat_natCast,hx]
 refine wpAny_bind (wpAny_rule (wpAny_bind (wpAny_setField ho hd (by simp) (z88 (hh.update (A:=A) ho hc _) fun h' e k1 k2=>hE h' e (fun b o hb z=>k1 b o ?_) k2))))
 rw [Heap.get?_update_other _ _ (Ne.symm hb)]
 exact z
theorem z816 {z TI TO i1 i2 l1 l2:Addr}{k1 k2:Nat}{xs ys:Array Value}{a b:Value}{Q:Option Value→Shared→Prop}(hh:Hd A s.heap) (D:ZipApart z TI TO i1 i2 l1 l2)
  (hz:IsZip s.heap z TI TO .none) (hTI:IsPair s.heap TI (.ref i1) (.ref i2)) (hTO:IsPair s.heap TO a b) (h1:s.heap.IsListIter i1 l1 k1) (h2:s.heap.IsListIter i2 l2 k2) (hl1:s.heap.IsList l1 xs) (hl2:s.heap.IsList l2 ys)
  (hend:xs[k1]?=none∨ys[k2]?=none) (hQ:∀ h',(∀ c o,c≠z→c≠TO→c≠i1→c≠i2→s.heap.get? c=some o→h'.get? c=some o)→Q none { s with heap:=h' }):wpAny (model prog w) A (pyNext (.ref z)) Q E s:=by
 have hT:s.TypeIs (.ref z) "zip":=⟨_,hz,rfl⟩
 have hh1:Hd A.in1 s.heap:=hh
 unfold pyNext
 refine wpAny_bind (wpAny_attempt (wpAny_callSpecial?_slot (name:=Str.ofString "__next__") hT PySem.F.slot_zip_next (wpAny_call_entry PySem.F.slot_zip_next hT PySem.F.entry_zip_next ?_ (PySem.F.args_zip_next_1 _))))
 have fin:∀ h' e,(∀ c o,c≠z→c≠TO→c≠i1→c≠i2→s.heap.get? c=some o→h'.get? c=some o)→(∃ o,h'.get? e=some o∧o.cls=.type "StopIteration")→wpAny (model prog w) A (do if ← isInstance (.ref e) (.type "StopIteration") then pure none else throw (.ref e)) Q E { s with heap:=h' }:=fun h' e hk he=>z62 he (hQ h' hk)
 refine wpAny_bind (m:=field (.ref z) 2) (wpAny_field hz rfl (x:=.bool false) rfl (wpAny_bind (m:=field (.ref z) 3) (wpAny_field hz rfl (x:=.ref TI) rfl (wpAny_bind (wpAny_seqItems hTI rfl ?_)))))
 refine wpAny_bind (m:=Builtin.SmallTypes.ownedTupleIsFree (.ref z)) ?_
 unfold Builtin.SmallTypes.ownedTupleIsFree
 refine wpAny_bind (wpAny_field hz rfl (x:=.none) rfl (wpAny_pure ?_))
 simp only [if_true]
 refine wpAny_bind (wpAny_rule (wpAny_bind (wpAny_field hz rfl (x:=.ref TO) rfl (wpAny_bind (wpAny_setField_rec hz (by simp) fun g1 y1 b1=>?_)))))
 have y1:IsZip g1 z TI TO .ellipsis:=y1
 obtain⟨o1,p1,c1,_⟩:=id h1
 obtain⟨o2,p2,c2,_⟩:=id h2
 refine wpAny_bind ?_
 simp only [List.zipIdx_cons,List.zipIdx_nil,List.forIn_cons,List.forIn_nil]
 refine wpAny_bind (wpAny_bind (wpAny_onRaise ?_))
 refine wpAny_bind (m:=Builtin.SmallTypes.nextOf (.ref i1)) ?_
 have d1:Hd A.in1 g1:=hh1.but (L:=[z]) (fun b hb=>by rw [List.mem_singleton.mp hb];exact⟨_,_,hz,rfl⟩) fun b o hb e=>b1.extBut _ _ (fun y=>hb (by simp [y])) e
 cases hx:xs[k1]? with
 | none=>
  refine z440 (s:={ s with heap:=g1 }) d1 (h1.extBut b1.extBut D.i1z) (hl1.extBut b1.extBut D.l1z) hx fun g2 e b2 he=>?_
  obtain⟨oe,hoe,hce⟩:=he
  have y2:IsZip g2 z TI TO .ellipsis:=b2 _ _ D.i1z.symm y1
  have ez:e≠z:=fun y=>by rw [y,y2] at hoe;cases hoe;exact absurd (show Value.type "zip"=Value.type "StopIteration" from hce) (by decide)
  exact wpAny_setField_rec y2 (by simp) fun g3 _ b3=>fin g3 e (fun c o c1 _ c3 _ y=>b3.extBut _ _ c1 (b2 _ _ c3 (b1.extBut _ _ c1 y))) ⟨oe,b3.extBut _ _ ez hoe,hce⟩
 | some x=>
  have hy:ys[k2]?=none:=by
   rcases hend with y | y
   ·rw [hx] at y;cases y
   ·exact y
  refine wpAny_nextOf_list_item (h1.extBut b1.extBut D.i1z) (hl1.extBut b1.extBut D.l1z) hx fun g2 it2 b2=>wpAny_pure ?_
  have q2:IsPair g2 TO a b:=b2.extBut _ _ D.TOi1 (b1.extBut _ _ D.TOz hTO)
  refine wpAny_bind (wpAny_seqItems q2 rfl (wpAny_bind (wpAny_updateSeq_pair q2 fun g3 q3 b3=>wpAny_bind (wpAny_letGo (wpAny_pure (wpAny_bind (wpAny_bind (wpAny_onRaise ?_))))))))
  refine wpAny_bind (m:=Builtin.SmallTypes.nextOf (.ref i2)) ?_
  have d3:Hd A.in1 g3:=hh1.but (L:=[z,i1,TO]) (fun b hb=>by
    simp only [List.mem_cons,List.not_mem_nil,or_false] at hb
    rcases hb with y | y | y
    ·rw [y];exact⟨_,_,hz,rfl⟩
    ·rw [y];exact⟨_,_,p1,c1⟩
    ·rw [y];exact⟨_,_,hTO,rfl⟩) fun b o hb e=>b3.extBut _ _ (fun y=>hb (by simp [y])) (b2.extBut _ _ (fun y=>hb (by simp [y])) (b1.extBut _ _ (fun y=>hb (by simp [y])) e))
  refine z440 (s:={ s with heap:=g3 }) d3 (((h2.extBut b1.extBut D.i2z).extBut b2.extBut D.i12.symm).extBut b3.extBut D.TOi2.symm) (((hl2.extBut b1.extBut D.l2z).extBut b2.extBut D.l2i1).extBut b3.extBut D.l2TO) hy fun g4 e b4 he=>?_
  obtain⟨oe,hoe,hce⟩:=he
  have y4:IsZip g4 z TI TO .ellipsis:=b4 _ _ D.i2z.symm (b3.extBut _ _ D.TOz.symm (b2.extBut _ _ D.i1z.symm y1))
  have ez:e≠z:=fun y=>by rw [y,y4] at hoe;cases hoe;exact absurd (show Value.type "zip"=Value.type "StopIteration" from hce) (by decide)
  exact wpAny_setField_rec y4 (by simp) fun g5 _ b5=>fin g5 e (fun c o c1 c2 c3 c4 y=>b5.extBut _ _ c1 (b4 _ _ c4 (b3.extBut _ _ c2 (b2.extBut _ _ c3 (b1.extBut _ _ c1 y))))) ⟨oe,b5.extBut _ _ ez hoe,hce⟩
end
theorem Inv.handed {X:Cx}{pins:List (Addr × Obj)}{σ:St}{H:Hp}{s:Shared}{h':Heap}{T:Addr}{o:HO}{t':Nat}{ch:List Addr}(I:Inv X pins σ H s) (hf:∀ b∈ch,FpOk X pins H b) (k:∀ b o,b ∉ ch→s.heap.get? b=some o→h'.get? b=some o)
  (hT:s.heap.objs.size≤T) (new:ObjOk X.prog X.w (upd H T o) h' T o):Inv X pins σ (upd H T o) { s with heap:=h',toks:=t' }:=by
 have hn:H T=none:=I.hok.fresh hT
 have nT:∀ {b:Addr}{u:Obj},s.heap.get? b=some u→b≠T:=fun e=>Nat.ne_of_lt (Nat.lt_of_lt_of_le (Heap.lt_size e) hT)
 refine I.step (g':=s.gens) (d':=s.drawn) (ch:=ch) (fun b hb=>?_) (fun b o _ _ hc e _=>k b o hc e) (fun b o _ _ hc e _=>⟨o.slots,k b o hc e⟩) (fun b o _ e n=>by rw [upd_ne (nT e)];exact n)
  (fun b o hc e=>⟨o,k b o hc e⟩) (fun b xs e=>by rw [upd_ne (ne_of_none e hn)];exact e) (fun b o u e=>by rw [upd_ne (ne_of_none e hn)];exact e) (fun b ps e=>⟨#[],by rw [upd_ne (ne_of_none e hn),e];simp⟩) (fun m hm=>?_) (fun b u e=>?_) I.bare
 ·obtain⟨f0,f1,f2,f3,f4,f5⟩:=hf b hb
  exact⟨f3,f1,f4,f5⟩
 ·obtain⟨o,es,ep,ho,r⟩:=hm
  exact⟨o,es,ep,k _ o (fun z=>(hf _ z).2.1 rfl) ho,r⟩
 ·by_cases hb:b=T
  ·subst hb
   rw [upd_same] at e
   cases e
   exact new
  ·rw [upd_ne hb] at e
   refine(I.hok b u e).stay (fun c v hc q=>k c v (fun z=>?_) q) (fun c q=>by rw [upd_ne (ne_of_none q hn)];exact q) fun c xs q=>by rw [upd_ne (ne_of_none q hn)];exact q
   have n0:=(hf c z).1
   rcases hc with y | y
   ·rw [y,e] at n0;cases n0
   ·rw [n0] at y;cases y
theorem Inv.turnedL {X:Cx}{pins:List (Addr × Obj)}{σ:St}{H:Hp}{s:Shared}{h':Heap}{t':Nat}{ch:List Addr}(I:Inv X pins σ H s) (hf:∀ b∈ch,FpOk X pins H b) (k:∀ b o,b ∉ ch→s.heap.get? b=some o→h'.get? b=some o):Inv X pins σ H { s with heap:=h',toks:=t' }:=by
 refine I.step (g':=s.gens) (d':=s.drawn) (ch:=ch) (fun b hb=>?_) (fun b o _ _ hc e _=>k b o hc e) (fun b o _ _ hc e _=>⟨o.slots,k b o hc e⟩) (fun _ _ _ _ n=>n) (fun b o hc e=>⟨o,k b o hc e⟩) (fun _ _ e=>e) (fun _ _ _ e=>e) (fun b ps e=>⟨#[],by rw [e];simp⟩) (fun m hm=>?_) (fun b u e=>?_) I.bare
 ·obtain⟨f0,f1,f2,f3,f4,f5⟩:=hf b hb
  exact⟨f3,f1,f4,f5⟩
 ·obtain⟨o,es,ep,ho,r⟩:=hm
  exact⟨o,es,ep,k _ o (fun z=>(hf _ z).2.1 rfl) ho,r⟩
 ·refine(I.hok b u e).stay (fun c v hc q=>k c v (fun z=>?_) q) (fun _ q=>q) fun _ _ q=>q
  have n0:=(hf c z).1
  rcases hc with y | y
  ·rw [y,e] at n0;cases n0
  ·rw [n0] at y;cases y
def Itz (K:PySem.W.Frag) (a b:Addr):It:=
 ⟨fun i H=>∃ xs ys x y,SqL K H a xs∧SqL K H b ys∧xs[i]?=some x∧ys[i]?=some y,fun i H v H'=>∃ T x y,v=.ref T∧H T=none∧H'=upd H T (.tup [x,y])∧∀ xs ys,SqL K H a xs→SqL K H b ys→xs[i]?=some x∧ys[i]?=some y,
  fun i H=>∃ xs ys,SqL K H a xs∧SqL K H b ys∧(xs.length≤i∨ys.length≤i)⟩
theorem z786 {P:Program}{w:World}{K:PySem.W.Frag}{es:List Expr}{kk:Nat}{tpos:Pos}(a b z TI TO i1 i2:Addr) (D:ZipApart z TI TO i1 i2 a b):
  Turn P w K (.Tuple es kk tpos) (Itz K a b) [z,TI,TO,i1,i2] z (fun i h=>IsZip h z TI TO .none∧IsPair h TI (.ref i1) (.ref i2)∧(∃ x y,IsPair h TO x y)∧h.IsListIter i1 a i∧h.IsListIter i2 b i) where
 mem:=by simp
 obj:=fun i h st c hc=>by
  obtain⟨hz,hTI,⟨x,y,hTO⟩,⟨o1,p1,c1,e1⟩,o2,p2,c2,e2⟩:=st
  simp only [List.mem_cons,List.not_mem_nil,or_false] at hc
  rcases hc with q | q | q | q | q <;> subst q
  ·exact⟨_,hz,fun v q=>by cases q⟩
  ·exact⟨_,hTI,fun v q=>by cases q⟩
  ·exact⟨_,hTO,fun v q=>by cases q⟩
  ·exact⟨o1,p1,fun v q=>by rw [e1] at q;cases q⟩
  ·exact⟨o2,p2,fun v q=>by rw [e2] at q;cases q⟩
 keep:=fun i h h' st k=>by
  obtain⟨hz,hTI,⟨x,y,hTO⟩,h1,h2⟩:=st
  exact⟨k _ (by simp) _ hz,k _ (by simp) _ hTI,⟨x,y,k _ (by simp) _ hTO⟩,h1.at fun o e=>k _ (by simp) o e,h2.at fun o e=>k _ (by simp) o e⟩
 item:=by
  intro X hP hw hK hc i pins s σ H E I hf st hg
  subst hP hw hK
  obtain⟨xs,ys,x,y,ha,hb,hx,hy⟩:=hg
  obtain⟨its,rv,p,hz0⟩:=I.list ha
  obtain⟨its2,rv2,p2,hz2⟩:=I.list hb
  obtain⟨u,hu,ru⟩:=rv.get hx
  obtain⟨v,hv,rv'⟩:=rv2.get hy
  obtain⟨hz,hTI,⟨q1,q2,hTO⟩,h1,h2⟩:=id st
  refine wpAny_pyNext_zip_item D hz hTI hTO h1 h2 p.isList p2.isList (x:=u) (y:=v) (by simpa using hu) (by simpa using hv) fun h' a1 a2 a3 a4 a5 a6 a7=>?_
  have lt:∀ {c:Addr}{o:Obj},s.heap.get? c=some o→s.heap.objs.size≠c:=fun e=>Nat.ne_of_gt (Heap.lt_size e)
  have hn:H s.heap.objs.size=none:=I.hok.fresh (Nat.le_refl _)
  have I1:Inv X pins σ (upd H s.heap.objs.size (.tup [x,y])) { s with heap:=h' }:=I.handed (t':=s.toks) (ch:=[z,TO,i1,i2]) (fun c hc=>hf c (by
    simp only [List.mem_cons,List.not_mem_nil,or_false] at hc ⊢
    rcases hc with q | q | q | q <;> simp [q])) (fun c o hc e=>a7 c o (fun q=>hc (by simp [q])) (fun q=>hc (by simp [q])) (fun q=>hc (by simp [q])) (fun q=>hc (by simp [q])) e) (Nat.le_refl _)
   ⟨by rw [sizeLine_eq];simp,[u,v],.cons ru (.cons rv' .nil),⟨_,a5,rfl,0,rfl⟩⟩
  refine⟨_,rfl,wpAny_letOwnedTupleGo_zip (s:={ s with heap:=h' }) a1 fun h2' hz' hs'=>?_⟩
  have fp':∀ c∈[z,TI,TO,i1,i2],upd H s.heap.objs.size (.tup [x,y]) c=none:=fun c hc=>by
   obtain⟨o,e,_⟩:∃ o,s.heap.get? c=some o∧True:=by
    obtain⟨_,p1,c1,e1⟩:=id h1
    obtain⟨_,p2,c2,e2⟩:=id h2
    simp only [List.mem_cons,List.not_mem_nil,or_false] at hc
    rcases hc with q | q | q | q | q <;> subst q
    ·exact⟨_,hz,trivial⟩
    ·exact⟨_,hTI,trivial⟩
    ·exact⟨_,hTO,trivial⟩
    ·exact⟨_,p1,trivial⟩
    ·exact⟨_,p2,trivial⟩
   rw [upd_ne (Ne.symm (lt e))]
   exact(hf c hc).1
  obtain⟨f0,f1,f2,f3,f4,f5⟩:=hf z (by simp)
  have I2:Inv X pins σ (upd H s.heap.objs.size (.tup [x,y])) { s with heap:=h2' }:=I1.turned (t':=s.toks) (fun c o hc e=>hs'.extBut c o hc e) (fp' z (by simp)) f1 f3 f4 f5
  refine⟨.ref s.heap.objs.size,_,I2,rfl,⟨_,x,y,rfl,hn,rfl,fun xs' ys' ha' hb'=>?_⟩,⟨hz',?_,⟨_,_,hs'.extBut _ _ D.TOz a2⟩,a3.extBut hs'.extBut D.i1z,a4.extBut hs'.extBut D.i2z⟩,fp'⟩
  ·rw [I.list_inj ha' ha,I.list_inj hb' hb]
   exact⟨hx,hy⟩
  ·exact hs'.extBut _ _ D.TIz (a7 _ _ D.TIz D.TITO D.TIi1 D.TIi2 hTI)
 done:=by
  intro X hP hw hK hc i pins s σ H E I hf st hg
  subst hP hw hK
  obtain⟨xs,ys,ha,hb,hend⟩:=hg
  obtain⟨its,rv,p,hz0⟩:=I.list ha
  obtain⟨its2,rv2,p2,hz2⟩:=I.list hb
  have l1:=rv.length
  have l2:=rv2.length
  obtain⟨hz,hTI,⟨q1,q2,hTO⟩,h1,h2⟩:=id st
  refine z816 (I.calm hc) D hz hTI hTO h1 h2 p.isList p2.isList (hend.imp (fun q=>by simp;omega) fun q=>by simp;omega) fun h' k=>⟨rfl,I.turnedL (t':=s.toks) (ch:=[z,TO,i1,i2]) (fun c hc=>hf c (by
    simp only [List.mem_cons,List.not_mem_nil,or_false] at hc ⊢
    rcases hc with q | q | q | q <;> simp [q])) fun c o hc e=>k c o (fun q=>hc (by simp [q])) (fun q=>hc (by simp [q])) (fun q=>hc (by simp [q])) (fun q=>hc (by simp [q])) e⟩
 self:=fun _ _ _ _ _ st h=>wpAny_pyIter_zip st.1 h
def iZip (K:PySem.W.Frag) (ta:TA):TI:=fun σ H R=>ta σ H fun vs H1=>∃ a b xs ys,vs=[.ref a,.ref b]∧SqL K H1 a xs∧SqL K H1 b ys∧R (Itz K a b) H1
theorem pi_zip {X:Cx}{es:List Expr}{kk:Nat}{tpos:Pos}{a b:Expr}{ta:TA}{p pos:Pos}(hg:Gl X "zip") (hm:X.mg "zip"=none) (ha:PA X [a,b] ta) (hs:starEach [a,b] X.env=[(false,eval a X.env),(false,eval b X.env)]:=by rfl) (hs2:starEach [b] X.env=[(false,eval b X.env)]:=by rfl):
  PI X (.Tuple es kk tpos) (.Call (.Name "zip" p) [a,b] [] pos) (iZip X.K ta):=by
 intro pins s σ H R I h
 refine Call_ (ld_blt I hg hm PyProof.Rows.Boot.«zip» (PyProof.Rows.callWith_type1 (thn (ha pos pins s σ H _ I h) fun us s1 ⟨vs,H1,I1,r1,q1⟩=>?_) (by rw [hs,hs2]) (by rw [hs2];rfl)))
 obtain⟨a1,b1,xs,ys,e,h1,h2,q⟩:=q1
 subst e
 cases r1 with
 | cons r rr=>
  cases rr with
  | cons r2 rr=>
   cases rr
   cases r
   cases r2
   obtain⟨its,rv,pl,hz⟩:=I1.list h1
   obtain⟨its2,rv2,pl2,hz2⟩:=I1.list h2
   have l1:a1 < s1.heap.objs.size:=by obtain⟨_,e,_⟩:=pl.isList;exact Heap.lt_size e
   have l2:b1 < s1.heap.objs.size:=by obtain⟨_,e,_⟩:=pl2.isList;exact Heap.lt_size e
   refine call_zip_2 pl.isList pl2.isList fun h' hz hTI hTO hi1 hi2 hsz hk=>wpAny_pyIter_zip hz ?_
   have I2:Inv X pins σ H1 { s1 with heap:=h' }:=I1.kept (t':=s1.toks) hk
   refine⟨s1.heap.objs.size + 4,[s1.heap.objs.size + 4,s1.heap.objs.size + 2,s1.heap.objs.size + 3,s1.heap.objs.size,s1.heap.objs.size + 1],_,_,H1,rfl,I2,z786 a1 b1 _ _ _ _ _ (zipApart_new l1 l2),⟨hz,hTI,⟨_,_,hTO⟩,hi1,hi2⟩,fun c hc=>?_,q⟩
   have lc:s1.heap.objs.size≤c:=by
    simp only [List.mem_cons,List.not_mem_nil,or_false] at hc
    rcases hc with q | q | q | q | q <;> rw [q]
    ·exact Nat.le_add_right _ _
    ·exact Nat.le_add_right _ _
    ·exact Nat.le_add_right _ _
    ·exact Nat.le_refl _
    ·exact Nat.le_add_right _ _
   exact I1.fpOk lc (I1.hok.fresh lc)
theorem z820 {K:PySem.W.Frag}{a b:Addr}{xs ys:List V}{g:TG}{tb:TS}{D:Ends}{σ:St}{H:Hp}(Pv:Nat→St→Hp→Prop) (h0:Pv 0 σ H) (hl:∀ i σ H,Pv i σ H→SqL K H a xs∧SqL K H b ys)
  (hs:∀ i x y σ H T,xs[i]?=some x→ys[i]?=some y→Pv i σ H→H T=none→g (.ref T) σ (upd H T (.tup [x,y])) fun σ2 H2=>tb { D with nx:=Pv (i + 1),ct:=Pv (i + 1),bk:=D.nx } σ2 H2) (hd:∀ σ H,Pv (min xs.length ys.length) σ H→D.nx σ H):
  ∃ W:Nat→Nat→St→Hp→Prop,(∃ m,W 0 m σ H)∧∀ i m σ H,W i m σ H→
   ((Itz K a b).stop i H∧D.nx σ H)∨((Itz K a b).go i H∧∃ N:St→Hp→Prop,(∀ σ' H',N σ' H'→∃ m',m' < m∧W (i + 1) m' σ' H')∧∀ x H',(Itz K a b).yld i H x H'→g x σ H' fun σ2 H2=>tb { D with nx:=N,ct:=N,bk:=D.nx } σ2 H2):=by
 refine⟨fun i m σ H=>m=min xs.length ys.length - i∧i≤min xs.length ys.length∧Pv i σ H,⟨min xs.length ys.length,by simp,Nat.zero_le _,h0⟩,?_⟩
 rintro i m σ H ⟨rfl,hi,p⟩
 obtain⟨q1,q2⟩:=hl i σ H p
 by_cases hlt:i < min xs.length ys.length
 ·have lx:i < xs.length:=by omega
  have ly:i < ys.length:=by omega
  refine .inr ⟨⟨xs,ys,xs[i],ys[i],q1,q2,by simp [lx],by simp [ly]⟩,Pv (i + 1),fun σ' H' p'=>⟨min xs.length ys.length - (i + 1),by omega,rfl,hlt,p'⟩,fun v H' y=>?_⟩
  obtain⟨T,x,y,e1,e2,e3,e4⟩:=y
  subst e1 e3
  obtain⟨g1,g2⟩:=e4 xs ys q1 q2
  exact hs i x y σ H T g1 g2 p e2
 ·have e:i=min xs.length ys.length:=by omega
  subst e
  exact .inl ⟨⟨xs,ys,q1,q2,by omega⟩,hd σ H p⟩
end L2
set_option Elab.async false
set_option linter.all false
set_option maxRecDepth 100000
namespace L2
open PySem PySem.Spec PyProof.Rows
open AutoSeq1 (wpAny_loadPart')
section
variable {prog:Program}{w:World}{A:Around}{E:Value→Shared→Prop}{s:Shared}
end
def HdAt (A:Around) (g:Addr) (h:Heap):Prop:=A.handled=none∨∃ (C:Addr) (dx:Option Addr) (vs:Array Value) (sl:Array (Option Value)),A.handled=some (.ref g)∧h.get? g=some ⟨.ref C,dx,.fields vs,sl⟩∧vs[2]?=some Value.none
section
variable {prog:Program}{w:World}{A:Around}{R:Result→Shared→Prop}{I:Addr}{fp wr:List Addr}{n:Nat}{P:Nat→Value→Prop}{St:Nat→Heap→Prop}{d:Value}
end
section
variable {prog:Program}{w:World}{A:Around}{E:Value→Shared→Prop}{s:Shared}
end
def MaxD (ns:List Int) (z m:Int):Prop:=(ns=[]∧m=z)∨(m∈ns∧∀ a∈ns,a≤m)
section
variable {prog:Program}{w:World}{A:Around}{E:Value→Shared→Prop}{s:Shared}
end
end L2
set_option Elab.async false
set_option linter.all false
set_option maxRecDepth 100000
namespace L2
open PySem PySem.Spec PyProof.Rows PySem.W
section
variable {n:Nat}{lt:Nat→Nat→Bool}{cmp:Nat→Nat→(Bool→Shared→Prop)→Shared→Prop}{s:Shared}
structure Ord (lt:Nat→Nat→Bool):Prop where
 tr:∀ i j k,lt j i=false→lt k j=false→lt k i=false
 as:∀ i j,lt i j=true→lt j i=false
def Pm (n:Nat) (p:Array Nat):Prop:=p.Perm (List.range n).toArray
abbrev Kp (p:Array Nat) (i:Nat):Nat:=p.getD i 0
end
end L2
set_option Elab.async false
set_option linter.all false
set_option maxRecDepth 100000
namespace L2
open PySem PySem.Spec PyProof.Rows PySem.W
section
variable {M:Model}{A:Around}{E:Value→Shared→Prop}{σ:Type}{s:Shared}
theorem pr6 {a b c d e f:Type}{P:a × b × c × d × e × f→Prop}(h:∀ x1 x2 x3 x4 x5 x6,P (x1,x2,x3,x4,x5,x6)):∀ x,P x:=fun⟨_,_,_,_,_,_⟩=>h _ _ _ _ _ _
end
section
variable {prog:Program}{w:World}{A:Around}{E:Value→Shared→Prop}{κ:SortKind}{it:Array Keyed}{n:Nat}{lt:Nat→Nat→Bool}{s:Shared}{st:SortSt}
end
end L2
set_option Elab.async false
set_option linter.all false
set_option maxRecDepth 100000
namespace L2
section
variable {lt:Nat→Nat→Bool}{u v o:List Nat}{ia ib:Nat}
def Srt (lt:Nat→Nat→Bool) (l:List Nat):Prop:=l.Pairwise fun x y=>lt y x=false
structure MI (lt:Nat→Nat→Bool) (u v o:List Nat) (ia ib:Nat):Prop where
 pm:o.Perm (u.take ia++v.take ib)
 sr:Srt lt o
 ru:∀ x∈o,∀ y∈u.drop ia,lt y x=false
 rv:∀ x∈o,∀ y∈v.drop ib,lt y x=false
def Merged (lt:Nat→Nat→Bool) (u v r:List Nat):Prop:=r.Perm (u++v)∧Srt lt r
end
end L2
set_option Elab.async false
set_option linter.all false
set_option maxRecDepth 100000
namespace L2
open PySem PySem.Spec PyProof.Rows PySem.W
abbrev setG (st:SortSt) (g:Nat):SortSt:=SortSt.mk' (kindOf st) (arrOf st) (pendingOf st) g (failedOf st)
abbrev its (it:Array Keyed) (l:List Nat):Array Keyed:=(l.map (kas_item it)).toArray
section
variable {it:Array Keyed}{o l:List Nat}
end
section
variable {prog:Program}{w:World}{A:Around}{E:Value→Shared→Prop}{κ:SortKind}{it:Array Keyed}{n:Nat}{lt:Nat→Nat→Bool}{s:Shared}{st:SortSt}
def Mid (lt:Nat→Nat→Bool) (u v:List Nat) (it:Array Keyed) (out:Array Keyed) (ia ib:Nat):Prop:=∃ o,out=its it o∧MI lt u v o ia ib∧ia + 1 < u.length∧ib < v.length
theorem st5 {u v:List Nat}{T:Prop}{hp:Nat→Nat→Prop}{G:Option (Array Keyed) × Array Keyed × Nat × Nat × Nat→SortSt→Prop} (k:∀ ia ib mg o g,T→MI lt u v o ia ib→ia + 1 < u.length→ib < v.length→hp ia ib→G (none,its it o,ia,ib,mg) (setG st g)):∀ c st',T→(c.1=none∧Mid lt u v it c.2.1 c.2.2.1 c.2.2.2.1∧hp c.2.2.1 c.2.2.2.1∧∃ g,st'=setG st g)→G c st':=by
 rintro⟨r,out,ia,ib,mg⟩ st' ht ⟨rfl,⟨o,rfl,m,h1,h2⟩,h,g,rfl⟩
 exact k ia ib mg o g ht m h1 h2 h
theorem st7 {u v:List Nat}{T:Prop}{hp:Nat→Nat→Prop}{G:Option (Array Keyed) × Array Keyed × Nat × Nat × Nat × Nat × Nat→SortSt→Prop} (k:∀ ia ib ac bc o g,T→MI lt u v o ia ib→ia + 1 < u.length→ib < v.length→hp ia ib→∀ mg,G (none,its it o,ia,ib,mg,ac,bc) (setG st g)):∀ c st',T→(c.1=none∧Mid lt u v it c.2.1 c.2.2.1 c.2.2.2.1∧hp c.2.2.1 c.2.2.2.1∧∃ g,st'=setG st g)→G c st':=by
 rintro⟨r,out,ia,ib,mg,ac,bc⟩ st' ht ⟨rfl,⟨o,rfl,m,h1,h2⟩,h,g,rfl⟩
 exact k ia ib ac bc o g ht m h1 h2 h mg
end
end L2
set_option Elab.async false
set_option linter.all false
set_option maxRecDepth 100000
namespace L2
open PySem PySem.Spec PyProof.Rows PySem.W
section
variable {it:Array Keyed}{o l p:List Nat}
end
section
variable {prog:Program}{w:World}{A:Around}{E:Value→Shared→Prop}{κ:SortKind}{it:Array Keyed}{n:Nat}{lt:Nat→Nat→Bool}{s:Shared}{st:SortSt}
end
end L2
set_option Elab.async false
set_option linter.all false
set_option maxRecDepth 100000
namespace L2
open PySem PySem.Spec PyProof.Rows PySem.W
def seg (p:List Nat) (a k:Nat):List Nat:=(p.drop a).take k
section
variable {lt:Nat→Nat→Bool}{p:List Nat}{a na nb k m:Nat}{r:List Nat}
end
section
variable {prog:Program}{w:World}{A:Around}{E:Value→Shared→Prop}{κ:SortKind}{it:Array Keyed}{n:Nat}{lt:Nat→Nat→Bool}{s:Shared}
end
end L2
set_option Elab.async false
set_option linter.all false
set_option maxRecDepth 100000
namespace L2
open PySem PySem.Spec PyProof.Rows PySem.W
section
variable {lt:Nat→Nat→Bool}{f f':Nat→Nat}{m:Nat}
end
section
variable {M:Model}{A:Around}{E:Value→Shared→Prop}{σ:Type}{s:Shared}
end
section
variable {lt:Nat→Nat→Bool}{p:Array Nat}{lo u v:Nat}
end
section
variable {prog:Program}{w:World}{A:Around}{E:Value→Shared→Prop}{κ:SortKind}{it:Array Keyed}{n:Nat}{lt:Nat→Nat→Bool}{s:Shared}{pend:Array (Nat × Nat × Nat)}{g:Nat}{p:Array Nat}
end
end L2
set_option Elab.async false
set_option linter.all false
set_option maxRecDepth 100000
namespace L2
open PySem PySem.Spec PyProof.Rows PySem.W
section
variable {prog:Program}{w:World}{A:Around}{E:Value→Shared→Prop}{κ:SortKind}{it:Array Keyed}{n:Nat}{lt:Nat→Nat→Bool}{s:Shared}{pend:Array (Nat × Nat × Nat)}{g:Nat}{p:Array Nat}
end
end L2
set_option Elab.async false
set_option linter.all false
set_option maxRecDepth 100000
namespace L2
open PySem PySem.Spec PyProof.Rows PySem.W
abbrev Rn:=Nat × Nat × Nat
def Ch (lt:Nat→Nat→Bool) (l:List Nat):Nat→List Rn→Nat→Prop
 | a,[],b=>a=b
 | a,(x,k,_)::L,b=>x=a∧0 < k∧Srt lt (seg l a k)∧Ch lt l (a + k) L b
section
variable {lt:Nat→Nat→Bool}{l l':List Nat}
end
section
variable {prog:Program}{w:World}{A:Around}{E:Value→Shared→Prop}{κ:SortKind}{it:Array Keyed}{n:Nat}{lt:Nat→Nat→Bool}{s:Shared}
end
end L2
set_option Elab.async false
set_option linter.all false
set_option maxRecDepth 100000
namespace L2
open PySem PySem.Spec PyProof.Rows PySem.W Hq
def TupI (h:Heap) (v:Value) (k:List Int):Prop:=∃ a o xs m,v=.ref a∧h.get? a=some o∧o.cls=.type "tuple"∧o.data=.seq xs m∧IntsAre xs.toList k
section
variable {prog:Program}{w:World}{A:Around}{E:Value→Shared→Prop}{s:Shared}
def Tups (h:Heap) (vs:List Value) (ks:List (List Int)):Prop:=Paired (TupI h) vs ks
end
end L2
set_option Elab.async false
set_option linter.all false
set_option maxRecDepth 100000
namespace L2
open PySem PySem.Spec PyProof.Rows PySem.W Hq
section
variable {prog:Program}{w:World}{A:Around}{E:Value→Shared→Prop}
def StT (I l:Addr) (vs:List Value) (ks:List (List Int)) (i:Nat) (h:Heap):Prop:=h.IsListIter I l i∧h.IsList l vs.toArray∧Tups h vs ks
end
end L2
set_option Elab.async false
set_option linter.all false
set_option maxRecDepth 100000
namespace L2
open PySem PySem.Spec PyProof.Rows PySem.W Hq
section
variable {prog:Program}{w:World}{A:Around}{E:Value→Shared→Prop}{s:Shared}
end
end L2
set_option Elab.async false
set_option linter.all false
set_option maxRecDepth 100000
namespace L2
open PySem PySem.Spec PyProof.Rows PySem.W Hq
def TupS (h:Heap) (v:Value) (k:List Int × Str):Prop:=∃ a o xs m ys z t,v=.ref a∧h.get? a=some o∧o.cls=.type "tuple"∧o.data=.seq xs m∧xs.toList=ys++[z]∧IntsAre ys k.1∧z=.str k.2 t
section
variable {prog:Program}{w:World}{A:Around}{E:Value→Shared→Prop}{s:Shared}
end
end L2
set_option Elab.async false
set_option linter.all false
set_option maxRecDepth 100000
namespace L2
open PySem PySem.Spec PyProof.Rows
open AutoSeq1 (wpAny_loadPart')
section
variable {prog:Program}{w:World}{A:Around}{R:Result→Shared→Prop}{I:Addr}{fp wr:List Addr}{n:Nat}{P:Nat→Value→Prop}{St:Nat→Heap→Prop}{d:Value}
end
section
variable {prog:Program}{w:World}{A:Around}{E:Value→Shared→Prop}{s:Shared}
end
end L2
set_option Elab.async false
set_option linter.all false
set_option maxRecDepth 100000
namespace L2
open PySem PySem.Spec PyProof.Rows
section
variable {prog:Program}{w:World}{A:Around}{E:Value→Shared→Prop}{h:Heap}{g:Array GenState}{d:Drawn}{t:Nat}{os:OsState}
variable {nm q:Str}{C N:Addr}{bs bm bmB:List Value}{hdct:Bool}{sn:List Str}{sub:List Value}{ab:Bool}{col:Option Bool}{dd:Option Addr}{k0 k1 k2 k3 k5:Option Value}{B newId initId:String}
end
section
open PySem.W
variable {prog:Program}{w:World}{A:Around}{E:Value→Shared→Prop}{s:Shared}{K:PySem.W.Frag}{x C:Addr}
end
section
variable {P:Program}{w:World}{K:PySem.W.Frag}{mg:Str→Option Value}{base:Heap}{N:List Str}{qual:Str}{scope:Scope}{f:Addr}{cd:Value}{A:Around}{outer:List Env}{s₀:Shared}{H₀:Hp}{E:XK}
end
section
open PySem.W
variable {M:Model}{A:Around}{E:Value→Shared→Prop}{s:Shared}{env:Env}
variable {nm q:Str}{C N:Addr}{bs bm:List Value}{hdct:Bool}{sn:List Str}{sub:List Value}{ab:Bool}{col:Option Bool}{dd:Option Addr}{k0 k1 k2 k3 k5:Option Value}{newId:String}
end
section
open PySem.W
variable {X:Cx}{WX:WXT}{k:Nat}{f C:Addr}{fd:FuncData}{ps:List Str}{sp:Sp}{dvs:List V}{ds:List Value}{x:Str}{pos:Pos}{e:Expr}{es:List Expr}{t:TA}
end
section
open PySem.W
variable {X:Cx}{ea C d:Addr}{ob:Obj}
end
end L2
set_option Elab.async false
set_option linter.all false
set_option maxRecDepth 100000
namespace L2
open PySem PySem.Spec PyProof.Rows
end L2
set_option Elab.async false
set_option linter.all false
set_option maxRecDepth 100000
namespace L2
open PySem PySem.Spec PyProof.Rows
def Asc (xs:Array Nat):Prop:=xs.toList.Pairwise (· < ·)
theorem z475 {xs:Array Nat}{j:Nat}(h:Asc xs):∀ (fuel lo hi:Nat),hi - lo≤fuel→lo≤hi→hi≤xs.size→(∀ i (q:i < xs.size),i < lo→xs[i] < j)→(∀ i (q:i < xs.size),hi≤i→j≤xs[i])→
  SetTable.below.go xs j fuel lo hi≤xs.size∧(∀ i (q:i < xs.size),i < SetTable.below.go xs j fuel lo hi→xs[i] < j)∧∀ i (q:i < xs.size),SetTable.below.go xs j fuel lo hi≤i→j≤xs[i]
 | 0,lo,hi,hf,hl,hs,h1,h2=>by
  unfold SetTable.below.go
  exact⟨by omega,h1,fun i hi' hh=>h2 i hi' (by omega)⟩
 | fuel + 1,lo,hi,hf,hl,hs,h1,h2=>by
  unfold SetTable.below.go
  split
  ·rename_i lt
   have hm:(lo + hi) / 2 < xs.size:=by omega
   have eg:xs.getD ((lo + hi) / 2) j=xs[(lo + hi) / 2]:=by simp [Array.getD,hm]
   have asc:∀ a b (ha:a < xs.size) (hb:b < xs.size),a < b→xs[a] < xs[b]:=fun a b ha hb hab=>by
    have:=List.pairwise_iff_getElem.mp h a b (by simpa using ha) (by simpa using hb) hab
    simpa using this
   dsimp only
   by_cases c:xs.getD ((lo + hi) / 2) j < j
   ·rw [if_pos c]
    rw [eg] at c
    refine z475 h fuel ((lo + hi) / 2 + 1) hi (by omega) (by omega) hs (fun i hi' hh=>?_) h2
    by_cases e:i=(lo + hi) / 2
    ·subst e;exact c
    ·exact Nat.lt_trans (asc i _ hi' hm (by omega)) c
   ·rw [if_neg c]
    rw [eg] at c
    refine z475 h fuel lo ((lo + hi) / 2) (by omega) (by omega) (by omega) h1 (fun i hi' hh=>?_)
    by_cases e:i=(lo + hi) / 2
    ·subst e;omega
    ·have:=asc _ i hm hi' (by omega)
     omega
  ·exact⟨by omega,h1,fun i hi' hh=>h2 i hi' (by omega)⟩
theorem z660 {xs:Array Nat}{j:Nat}(h:Asc xs):SetTable.below xs j≤xs.size∧(∀ i (hi:i < xs.size),i < SetTable.below xs j→xs[i] < j)∧∀ i (hi':i < xs.size),SetTable.below xs j≤i→j≤xs[i]:=
 z475 h xs.size 0 xs.size (by omega) (by omega) (Nat.le_refl _) (fun i _ hh=>absurd hh (Nat.not_lt_zero _)) (fun i hi hh=>by omega)
theorem below_at {xs:Array Nat}(h:Asc xs){k j:Nat}(hk:k≤xs.size) (h1:∀ i (hi:i < xs.size),i < k→xs[i] < j) (h2:∀ i (hi:i < xs.size),k≤i→j≤xs[i]):SetTable.below xs j=k:=by
 obtain⟨a,b,c⟩:=z660 (j:=j) h
 rcases Nat.lt_trichotomy (SetTable.below xs j) k with z | z | z
 ·have x1:=h1 _ (by omega) z
  have x2:=c _ (by omega) (Nat.le_refl _)
  omega
 ·exact z
 ·have x1:=h2 k (by omega) (Nat.le_refl _)
  have x2:=b k (by omega) z
  omega
theorem z545 {α:Type}(xs:Array α) (p:Nat) (x:α) (hp:p≤xs.size):(SetTable.insertAt xs p x).toList=xs.toList.take p++x::xs.toList.drop p:=by
 unfold SetTable.insertAt
 simp [hp]
 exact List.take_of_length_le (by simp)
theorem z636 {xs:Array Nat}{j:Nat}(h:Asc xs) (n:xs[SetTable.below xs j]?≠some j):Asc (SetTable.insertAt xs (SetTable.below xs j) j):=by
 obtain⟨a,b,c⟩:=z660 (j:=j) h
 unfold Asc
 rw [z545 _ _ _ a]
 have hl:∀ y∈xs.toList.take (SetTable.below xs j),y < j:=fun y hy=>by
  obtain⟨i,hi,e⟩:=List.getElem_of_mem hy
  rw [List.length_take] at hi
  rw [List.getElem_take] at e
  rw [← e]
  exact b i (by simp at hi;omega) (by omega)
 have hg:∀ y∈xs.toList.drop (SetTable.below xs j),j < y:=fun y hy=>by
  obtain⟨i,hi,e⟩:=List.getElem_of_mem hy
  rw [List.length_drop] at hi
  rw [List.getElem_drop] at e
  have hi':SetTable.below xs j + i < xs.size:=by simp at hi;omega
  have le:=c _ hi' (by omega)
  rw [Array.getElem_toList] at e
  rw [← e]
  rcases Nat.lt_or_eq_of_le le with z | z
  ·exact z
  ·exfalso
   by_cases i0:i=0
   ·subst i0
    exact n (by rw [Array.getElem?_eq_getElem (by omega)];exact congrArg some z.symm)
   ·have h0:=c (SetTable.below xs j) (by omega) (Nat.le_refl _)
    have:=List.pairwise_iff_getElem.mp h (SetTable.below xs j) (SetTable.below xs j + i) (by simp;omega) (by simp;omega) (by omega)
    simp only [Array.getElem_toList] at this
    omega
 refine List.pairwise_append.mpr ⟨h.sublist (List.take_sublist _ _),List.pairwise_cons.mpr ⟨hg,h.sublist (List.drop_sublist _ _)⟩,fun x hx y hy=>?_⟩
 rcases List.mem_cons.mp hy with rfl | hy
 ·exact hl x hx
 ·exact Nat.lt_trans (hl x hx) (hg y hy)
structure Tok (b:Bool) (t:SetTable):Prop where
 led:t.led=b
 asc:Asc t.place
 dum:t.dummies=#[]
theorem z696 (n:Nat):Asc (Array.range n):=by
 unfold Asc
 rw [Array.toList_range]
 exact List.pairwise_lt_range
theorem Tok.standIn {b:Bool}{t:SetTable}(h:Tok b t) (n:Nat):Tok b (t.standIn n):=⟨h.led,z696 n,rfl⟩
theorem Tok.off {b:Bool}{t:SetTable}(h:Tok b t):Tok b { t with plain:=false }:=⟨h.led,h.asc,h.dum⟩
theorem has_no (j:Nat):SetTable.has #[] j=false:=by unfold SetTable.has;simp
theorem Tok.put {b:Bool}{t:SetTable}{j:Nat}(h:Tok b t) (n:t.place[SetTable.below t.place j]?≠some j):Tok b (t.put j).1:=by
 refine⟨h.led,z636 h.asc n,?_⟩
 show (if SetTable.has t.dummies j then _ else _)=_
 rw [h.dum,has_no]
 rfl
theorem z577 {b:Bool}{t:SetTable}(h:Tok b t){hashAt:Nat→Int}{x:Int}:∀ (fuel:Nat) (p:SetTable.Probe),p.dummy=none→∀ j d,SetTable.probe.go t hashAt x fuel p=some (.empty j d)→d=none∧t.place[SetTable.below t.place j]?≠some j
 | 0,_,_,_,_,e=>by unfold SetTable.probe.go at e;cases e
 | fuel + 1,p,hd,j,d,e=>by
  unfold SetTable.probe.go at e
  have nodum:∀ j,t.slot j≠.dummy:=fun j z=>by
   unfold SetTable.slot at z
   rw [h.dum,has_no] at z
   dsimp only at z
   split at z <;> cases z
  cases hs:t.slot p.j with
  | empty=>
   rw [hs] at e
   cases e
   refine⟨hd,fun z=>?_⟩
   unfold SetTable.slot at hs
   dsimp only at hs
   rw [z] at hs
   simp at hs
  | dummy=>exact absurd hs (nodum _)
  | live i=>
   rw [hs] at e
   dsimp only at e
   have ha:(t.advance p).dummy=none:=by
    unfold SetTable.advance
    split
    ·exact hd
    ·exact hd
   split at e
   ·cases e
   ·exact z577 h fuel _ ha j d e
theorem Tok.layNew {b:Bool}{t:SetTable}{es:Array (Int × Value)}{x:Int}{v:Value}(h:Tok b t):Tok b (layNew t es x v).2.1:=by
 unfold PySem.layNew
 cases hf:t.freeSlot x with
 | none=>exact h.standIn _
 | some q=>
  obtain⟨slot,wd⟩:=q
  have n:t.place[SetTable.below t.place slot]?≠some slot:=by
   unfold SetTable.freeSlot at hf
   split at hf
   ·rename_i j d he
    obtain⟨rfl,n⟩:=z577 h _ _ rfl j d he
    cases hf
    exact n
   ·cases hf
  have hp:=h.put n
  dsimp only
  unfold SetTable.orStandIn
  split
  ·exact hp
  ·exact hp.standIn _
theorem z466 {f:Nat→Option Nat}:∀ l:List Nat,List.Sublist ((l.filterMap fun j=>(f j).map (j,·)).map (·.1)) l
 | []=>.slnil
 | a::l=>by
  rw [List.filterMap_cons]
  cases f a with
  | none=>exact(z466 l).cons a
  | some k=>exact(z466 l).cons₂ a
theorem Tok.relay {b:Bool}{t:SetTable}{es:Array (Int × Value)}{wanted:Nat}(h:Tok b t):Tok b (relayAll t es wanted).2.1:=by
 unfold relayAll
 cases hr:t.relaid (es.map (·.1)) wanted with
 | none=>exact h.standIn _
 | some q=>
  obtain⟨t',order⟩:=q
  dsimp only
  split
  ·unfold SetTable.relaid SetTable.laid at hr
   cases ho:SetTable.layClean (SetTable.sizeAbove wanted - 1) (es.map (·.1)) with
   | none=>rw [ho] at hr;cases hr
   | some owner=>
    rw [ho] at hr
    cases hr
    refine⟨h.led,?_,rfl⟩
    unfold Asc
    exact List.Pairwise.sublist (z466 _) (List.pairwise_lt_range (n:=SetTable.sizeAbove wanted - 1 + 1))
  ·exact h.standIn _
end L2
set_option Elab.async false
set_option linter.all false
set_option maxRecDepth 100000
namespace L2
open PySem PySem.Spec PyProof.Rows
section
variable {prog:Program}{w:World}{A:Around}{E:Value→Shared→Prop}{s:Shared}{b:Bool}
def SetW (prog:Program) (w:World) (b:Bool) (h:Heap) (a:Addr) (S:Int→Bool) (n:Nat):Prop:=
 ∃ o es ep t,h.get? a=some o∧o.ExactSet∧o.data=.set es ep t∧ElemsOf (intKind prog w) es.toList∧(∀ k,S k=true↔∃ e∈es.toList,(intKind prog w).is k e.2=true)∧es.size < scanBound∧t.fits es.size=true∧es.size=n∧Tok b t
theorem SetW.at {h h':Heap}{a:Addr}{S:Int→Bool}{n:Nat}(x:SetW prog w b h a S n) (e:∀ o,h.get? a=some o→h'.get? a=some o):SetW prog w b h' a S n:=by
 obtain⟨o,es,ep,t,ho,r⟩:=x
 exact⟨o,es,ep,t,e o ho,r⟩
theorem SetW.store {h:Heap}{a:Addr}{o:Obj}{es es':Array (Int × Value)}{ep:Nat}{t t':SetTable}{S':Int→Bool}(ho:h.get? a=some o) (hx:o.ExactSet) (hd:o.data=.set es ep t) (h1:ElemsOf (intKind prog w) es'.toList) (h2:∀ k,S' k=true↔∃ e∈es'.toList,(intKind prog w).is k e.2=true)
  (h3:es'.size < scanBound) (h4:t'.fits es'.size=true) (h5:Tok b t'):(h.update a (Obj.putSet es' t')).get? a=some { o with data:=.set es' (ep + 1) t' }∧SetW prog w b (h.update a (Obj.putSet es' t')) a S' es'.size:=by
 obtain⟨g,_⟩:=SetOf_store (knd:=intKind prog w) ho hx hd h1 h2 h3 h4
 exact⟨g,_,es',ep + 1,t',g,hx,rfl,h1,h2,h3,h4,rfl,h5⟩
theorem addW {a:Addr}{S:Int→Bool}{n:Nat}{k:Int}{x:Value}{Q:Bool→Shared→Prop}(hkey:(intKind prog w).is k x=true) (hsc:x.scannable=true) (hS:SetW prog w b s.heap a S n) (hroom:n + 1 < scanBound)
  (h:∀ h',Heap.SameBut a s.heap h'→SetW prog w b h' a (fun k'=>S k' || decide (k'=k)) (if S k then n else n + 1)→Q (!S k) { s with heap:=h' }):wpAny (model prog w) A (setAddHashed a x ((intKind prog w).hash k)) Q E s:=by
 obtain⟨o,es,ep,t,ho,hx,hd,hel,hmem,hb,hf,hn,tk⟩:=hS
 unfold setAddHashed setAddHashedIn
 refine wpAny_holding (wpAny_bind (wpAny_setState_of ho hd hf ?_))
 dsimp only
 rw [byScan_of hsc hb hel]
 simp only [if_true]
 unfold setAddByScan
 refine wpAny_bind (wpAny_bind (wpAny_rule (wpAny_bind (wpAny_setScan_of hkey ho hd hf hel ?_))))
 cases hr:List.findIdx? (fun e=>(intKind prog w).is k e.2) es.toList with
 | some j=>
  dsimp only
  obtain⟨hj,hpj,_⟩:=List.findIdx?_eq_some_iff_getElem.mp hr
  have hk:S k=true:=(hmem k).mpr ⟨es.toList[j],List.getElem_mem hj,hpj⟩
  have:=h s.heap (Heap.SameBut.refl a s.heap) ⟨o,es,ep,t,ho,hx,hd,hel,fun k'=>by
   rw [Bool.or_eq_true,decide_eq_true_eq,← hmem k']
   exact⟨fun z=>z.elim id (fun e=>e ▸ hk),.inl⟩,hb,hf,by rw [hk];exact hn,tk⟩
  rw [hk] at this
  exact wpAny_pure (wpAny_pure (by cases s;exact this))
 | none=>
  dsimp only
  have hk:S k=false:=Bool.eq_false_iff.mpr fun z=>by
   obtain⟨e,he,hp⟩:=(hmem k).mp z
   have:=List.findIdx?_eq_none_iff.mp hr e he
   rw [hp] at this
   cases this
  have gw:∀ (c:Bool){s₁:Shared}{Q':Unit→Shared→Prop},Q' () s₁→wpAny (model prog w) A (match c with | true=>rule "set.scan.the-table-gave-way" | false=>pure ()) Q' E s₁:=fun c s₁ Q' q=>by
   cases c
   ·exact wpAny_pure q
   ·exact wpAny_rule q
  have p1:=layNew_perm t es ((intKind prog w).hash k) x
  have f1:=layNew_fits t es ((intKind prog w).hash k) x
  have t1:=tk.layNew (es:=es) (x:=(intKind prog w).hash k) (v:=x)
  generalize layNew t es ((intKind prog w).hash k) x=L at p1 f1 t1 ⊢
  obtain⟨es1,tb1,wd,gave⟩:=L
  dsimp only at p1 f1 t1 ⊢
  rw [Array.toList_push] at p1
  have e1:ElemsOf (intKind prog w) es1.toList:=(hel.push hkey hsc).perm p1
  have m1:∀ k',(S k' || decide (k'=k))=true↔∃ e∈es1.toList,(intKind prog w).is k' e.2=true:=mem_push_iff hkey hmem p1
  have z1:es1.size=n + 1:=by rw [← Array.length_toList,p1.length_eq,List.length_append,Array.length_toList,hn];rfl
  have b1:es1.size < scanBound:=by omega
  rw [hk] at h
  have fin:∀ tb2:SetTable,tb2.fits es1.size=true→Tok b tb2→wpAny (model prog w) A (do
    storeSet a es1 tb2
    if (
      !wd && tb2.tooFull)=true then do
      (match (relayAll tb2 es1 (SetTable.grown es1.size)).2.2 with | true=>rule "set.scan.the-table-gave-way" | false=>pure ())
      storeSet a (relayAll tb2 es1 (SetTable.grown es1.size)).1 (relayAll tb2 es1 (SetTable.grown es1.size)).2.1
      pure (some true)
     else pure (some true)) (fun r s'=>r=some true∧Q true s') E s:=fun tb2 f2 t2=>by
   refine wpAny_bind (wpAny_storeSet_of ho hd ?_ (fits_of_scanBound b1))
   obtain⟨g1,w1⟩:=SetW.store ho hx hd e1 m1 b1 f2 t2
   have sb1:=Heap.SameBut.update s.heap a (Obj.putSet es1 tb2)
   split
   ·have p2:=relayAll_perm tb2 es1 (SetTable.grown es1.size)
    have f3:=relayAll_fits tb2 es1 (SetTable.grown es1.size)
    have t3:=t2.relay (es:=es1) (wanted:=SetTable.grown es1.size)
    generalize relayAll tb2 es1 (SetTable.grown es1.size)=R at p2 f3 t3 ⊢
    obtain⟨es2,tb3,gave2⟩:=R
    dsimp only at p2 f3 t3 ⊢
    have z2:es2.size=es1.size:=by rw [← Array.length_toList,p2.length_eq,Array.length_toList]
    refine wpAny_bind (gw _ (wpAny_bind (wpAny_storeSet_of g1 rfl ?_ (fits_of_scanBound (by omega)))))
    obtain⟨_,w2⟩:=SetW.store (prog:=prog) (w:=w) (S':=fun k'=>S k' || decide (k'=k)) g1 hx rfl (e1.perm p2) (fun k'=>(m1 k').trans ⟨fun⟨e,he,q⟩=>⟨e,p2.mem_iff.mpr he,q⟩,fun⟨e,he,q⟩=>⟨e,p2.mem_iff.mp he,q⟩⟩) (by omega) f3 t3
    refine wpAny_pure ⟨rfl,h _ (sb1.trans (Heap.SameBut.update _ a _)) ?_⟩
    rw [z2,z1] at w2
    exact w2
   ·refine wpAny_pure ⟨rfl,h _ sb1 ?_⟩
    rw [z1] at w1
    exact w1
  refine wpAny_bind (gw _ ?_)
  split
  ·refine wpAny_bind ?_
   rw [hashByValue_scannable 8 hsc]
   refine wpAny_pure (wpAny_mono (fin _ ?_ ?_) ?_ fun _ _ e=>e)
   ·split
    ·exact f1
    ·exact SetTable.fits_plain_off f1
   ·split
    ·exact t1
    ·exact t1.off
   ·rintro _ s' ⟨rfl,q⟩
    exact wpAny_pure q
  ·refine wpAny_bind (wpAny_pure ?_)
   simp only [if_true]
   refine wpAny_mono (fin _ f1 t1) ?_ fun _ _ e=>e
   rintro _ s' ⟨rfl,q⟩
   exact wpAny_pure q
end
end L2
set_option Elab.async false
set_option linter.all false
set_option maxRecDepth 100000
namespace L2
open PySem PySem.Spec PyProof.Rows
def ledW (w:World):Bool:=!w.params.followText "set-order"
section
variable {prog:Program}{w:World}{A:Around}{R:Result→Shared→Prop}{I:Addr}{fp wr:List Addr}{n:Nat}{P:Nat→Value→Prop}{St:Nat→Heap→Prop}
theorem loopW (W:Walks prog w A.in1 I fp wr n P St) (S:Addr) (hSf:S ∉ fp) (val:Nat→Int) (hval:∀ i v,P i v→∃ t,v=.int (val i) t) (hb:n + 1 < scanBound):
  ∀ (k i:Nat) (s:Shared),n - i=k→i≤n→St i s.heap→SetW prog w (ledW w) s.heap S (fun k'=>(firstMet val i).any (· == k')) (firstMet val i).length→
   (∀ h' tk,(∀ b o,b ∉ wr→b≠S→s.heap.get? b=some o→h'.get? b=some o)→SetW prog w (ledW w) h' S (fun k'=>(firstMet val n).any (· == k')) (firstMet val n).length→R (.ok (.ret .none)) { s with heap:=h',toks:=tk })→
   codeAny (model prog w) A (.builtin "set.update.loop" ⟨[.ref S,.ref I],[]⟩) R s:=by
 have hSw:S ∉ wr:=fun h=>hSf (W.sub _ h)
 intro k
 induction k with
 | zero=>
  intro i s hk hi hst hS hR
  obtain rfl:i=n:=by omega
  refine codeAny_builtin F.entry_set_update_loop ?_
  rw [Around.under_plainId F.plain_set_update_loop _]
  refine(show wpAny _ A.in1 (pyNext (.ref I) >>= _) _ _ s from wpAny_bind (W.done s _ _ hst fun h' tk hk'=>?_))
  exact wpAny_pure (hR h' tk (fun b o hb _ e=>hk' b o hb e) (hS.at fun o e=>hk' S o hSw e))
 | succ k ih=>
  intro i s hk hi hst hS hR
  have hlt:i < n:=by omega
  refine codeAny_builtin F.entry_set_update_loop ?_
  rw [Around.under_plainId F.plain_set_update_loop _]
  refine(show wpAny _ A.in1 (pyNext (.ref I) >>= _) _ _ s from wpAny_bind (W.item i s _ _ hlt hst fun v h1 tk hP hst' hk'=>?_))
  obtain⟨t,rfl⟩:=hval i v hP
  have hS':=hS.at fun o e=>hk' S o hSw e
  refine(show wpAny _ A.in1 (holding [Value.int (val i) t] (setAdd S (.int (val i) t)) >>= _) _ _ _ from wpAny_bind (wpAny_holding ?_))
  unfold setAdd
  have room:(firstMet val i).length + 1 < scanBound:=by have:=firstMet_length_le val i;omega
  refine wpAny_holding (wpAny_bind ((intKind prog w).pyHash (k:=val i) (intKind_is _ _ _ _) (addW (s:={ s with heap:=h1,toks:=tk + 1 }) (intKind_is _ _ _ _) rfl hS' room fun h' sb w2=>?_)))
  have wi:SetW prog w (ledW w) h' S (fun k'=>(firstMet val (i + 1)).any (· == k')) (firstMet val (i + 1)).length:=by
   rw [firstMet_succ,step_length]
   have e:(fun k'=>(step_dedup (firstMet val i) (val i)).any (· == k'))=fun k'=>(firstMet val i).any (· == k') || decide (k'=val i):=funext fun k'=>step_any _ _ _
   rw [e]
   exact w2
  refine wpAny_pure ⟨plainId_quiet F.plain_set_update_loop _,ih (i + 1) _ (by omega) hlt (W.frame _ _ _ hst' fun b hb o e=>?_) wi fun h'' tk'' hk'' w''=>?_⟩
  ·exact(sb.2 b (fun z:b=S=>hSf (by rw [← z];exact hb))).trans e
  ·exact hR h'' tk'' (fun b o hb bS e=>hk'' b o hb bS ((sb.2 b bS).trans (hk' b o hb e))) w''
end
section
variable {prog:Program}{w:World}{A:Around}{E:Value→Shared→Prop}{s:Shared}
def emptyS (w:World):Obj:={ cls:=.type "set",dict:=none,data:=.set #[] 0 (.fresh 0 0 (ledW w)) }
theorem z787 (a:Value){Q₁:Value→Shared→Prop}(h:Q₁ (.ref s.heap.objs.size) { s with heap:=s.heap.push (emptyS w) }):codeAny (model prog w) A (.call (.builtin "set.__new__") ⟨[.type "set",a],[]⟩) (wants Q₁ E) s:=by
 refine codeAny_of_tree (show wpAny _ A.in1 (do checkBuiltinCall "set.__new__" ⟨[.type "set",a],[]⟩;again (.builtin "set.__new__" ⟨[.type "set",a],[]⟩)) _ _ s from wpAny_bind (wpAny_of_eq (F.newCall_set_1 a) (wpAny_pure ⟨plainId_quiet F.plain_set_new _,codeAny_builtin F.entry_set_new ?_⟩)))
 rw [Around.under_plainId F.plain_set_new _]
 unfold Builtin.«set.__new__» Builtin.Frozenset.newClass
 have hsub:=sub_set_self
 obtain⟨hp,g,d,tk,os⟩:=s
 dsimp only
 wp_walk
 refine wpAny_askSetting (wpAny_pure ?_)
 dsimp only
 simp only [newObj]
 exact wpAny_bind (wpAny_alloc (wpAny_pure (wpAny_pure h)))
end
end L2
set_option Elab.async false
set_option linter.all false
set_option maxRecDepth 100000
namespace L2
open PySem PySem.Spec PyProof.Rows
section
variable {prog:Program}{w:World}{A:Around}{E:Value→Shared→Prop}{s:Shared}
theorem emptyW {h:Heap}{a:Addr}(e:h.get? a=some (emptyS w)):SetW prog w (ledW w) h a (fun _=>false) 0:=
 ⟨_,#[],0,_,e,⟨rfl,rfl,rfl⟩,rfl,fun e he=>(by simp at he),fun k=>(by simp),by decide,by rfl,rfl,rfl,List.Pairwise.nil,rfl⟩
def anyMet (ns:List Int) (m:Nat):Int→Bool:=fun k'=>(firstMet (fun i=>ns.getD i 0) m).any (· == k')
set_option maxHeartbeats 3200000 in
theorem z686 {l:Addr}{items:Array Value}{ns:List Int}{Q:Value→Shared→Prop}(hh:A.handled=none) (hl:s.heap.IsList l items) (hi:IntsAre items.toList ns) (hb:items.size + 1 < scanBound)
  (h:∀ (h':Heap) (tk:Nat),SetW prog w (ledW w) h' s.heap.objs.size (anyMet ns items.size) (firstMet (fun i=>ns.getD i 0) items.size).length→(∀ b o,b < s.heap.objs.size→s.heap.get? b=some o→h'.get? b=some o)→Q (.ref s.heap.objs.size) { s with heap:=h',toks:=tk }):
  wpAny (model prog w) A (call (.type "set") [.ref l]) Q E s:=by
 obtain⟨c,tl,hmro⟩:=F.called_set.mro
 have hmade:=F.called_set.made
 have hsub:=F.called_set.sub
 refine wpAny_call (codeAny_of_tree (show wpAny _ _ (callAny (.type "set") _) _ _ _ from wpAny_pure ⟨Code.quiet_builtin _ (by decide +kernel),codeAny_builtin F.entry_type_call ?_⟩))
 rw [Around.under_plain (weight_type_call_type "set" [.ref l] []) rfl]
 have h1:=F.called_set.notType
 have h2:=F.called_set.canCreate
 have hct:=F.typeCall_set_1 (.ref l)
 repeat (any_goals (first | assumption | wp_step))
 refine codeAny_mono (z787 (.ref l) (E:=E) (Q₁:=fun obj s₁=>obj=.ref s.heap.objs.size∧s₁={ s with heap:=s.heap.push (emptyS w) }) ⟨rfl,rfl⟩) fun r s₁ hr=>?_
 cases r with
 | error e=>exact hr
 | ok fl=>
  cases fl with
  | ret obj=>
   obtain⟨rfl,rfl⟩:=hr
   have hS:(s.heap.push (emptyS w)).get? s.heap.objs.size=some (emptyS w):=Heap.get?_push_size _ rfl
   have hT:Shared.TypeIs { s with heap:=s.heap.push (emptyS w) } (.ref s.heap.objs.size) "set":=⟨_,hS,rfl⟩
   have hli:=F.called_set.init.lookup
   have hbi:=F.called_set.init.bind (.ref s.heap.objs.size)
   repeat (any_goals (first | assumption | wp_step))
   refine codeAny_mono (codeAny_call_builtin (R:=wants (fun r s₂=>r=.none∧∃ h' tk,s₂={ s with heap:=h',toks:=tk }∧SetW prog w (ledW w) h' s.heap.objs.size (anyMet ns items.size) (firstMet (fun i=>ns.getD i 0) items.size).length∧(∀ b o,b < s.heap.objs.size→s.heap.get? b=some o→h'.get? b=some o)) E) F.called_set.init.plain F.entry_set_init (check_set_init_1 hT ?_)) fun r₂ s₂ hr₂=>?_
   ·obtain⟨ol,hol,hcl,nl,hdl⟩:=hl
    obtain⟨ocls,odict,odata,oslots⟩:=ol
    simp only at hcl hdl
    subst hcl hdl
    have hol':=Heap.get?_push_of_some (emptyS w) hol
    have hsls:=F.sub_list_set
    have hslf:=F.sub_list_frozenset
    have hne:(Value.type "list" == Value.type "dict")=false:=by decide
    have hl1:(s.heap.push (emptyS w)).IsList l items:=⟨_,hol',rfl,nl,rfl⟩
    unfold Builtin.«set.__init__» noKeywords Builtin.Frozenset.updateFrom
    generalize hPI:pyIter=PI
    wp_walk
    subst hPI
    refine wpAny_pyIter_list hl1 (wpAny_bind (wpAny_runValue ?_))
    have hlS:l < s.heap.objs.size:=Heap.lt_size hol
    have szp:(s.heap.push (emptyS w)).objs.size=s.heap.objs.size + 1:=Heap.size_push ..
    have hneI:l≠(s.heap.push (emptyS w)).objs.size:=by rw [szp];exact Nat.ne_of_lt (Nat.lt_succ_of_lt hlS)
    have hSf:s.heap.objs.size ∉ [(s.heap.push (emptyS w)).objs.size,l]:=by
     rw [szp]
     simp only [List.mem_cons,List.not_mem_nil,or_false,not_or]
     exact⟨Nat.ne_of_lt (Nat.lt_succ_self _),Nat.ne_of_gt hlS⟩
    refine loopW (Walks.list (by simp [hh]) _ l hneI items) s.heap.objs.size hSf (fun i=>ns.getD i 0) (fun i v hv=>IntsAre.int_at hi i v (by rw [Array.getElem?_toList];exact hv)) hb (items.size - 0) 0 _ (by omega) (Nat.zero_le _) ⟨⟨_,Heap.get?_push_size _ rfl,rfl,rfl⟩,hl1.push _⟩ (emptyW (Heap.get?_push_of_some _ hS)) fun h' tk hm w'=>?_
    refine wpAny_pure (wpAny_pure ⟨rfl,h',tk,rfl,w',fun b o hb e=>hm b o ?_ (Nat.ne_of_lt hb) (Heap.get?_push_of_some _ (Heap.get?_push_of_some _ e))⟩)
    rw [szp]
    simp only [List.mem_singleton]
    exact Nat.ne_of_lt (Nat.lt_succ_of_lt hb)
   ·cases r₂ with
    | error e=>exact hr₂
    | ok fl₂=>
     cases fl₂ with
     | ret r=>
      obtain⟨rfl,h',tk,rfl,w',hk'⟩:=hr₂
      repeat (any_goals (first | assumption | wp_step))
      exact h _ _ w' hk'
     | _=>exact hr₂.elim
  | _=>exact hr.elim
end
end L2
set_option Elab.async false
set_option linter.all false
set_option maxRecDepth 100000
namespace L2
open PySem PySem.Spec PyProof.Rows PySem.W Hq
open PySem.SeqAt PySem.MeetsSeq
open PySem.AutoSeq1 (wpAny_loadPart')
theorem z292 {α:Type}:∀ (l:List α) (i:Nat) (h:i < l.length),l.Perm (l[i]::l.eraseIdx i)
 | [],_,h=>by simp at h
 | a::l,0,_=>List.Perm.refl _
 | a::l,i + 1,h=>by
  rw [List.eraseIdx_cons_succ,List.getElem_cons_succ]
  exact((z292 l i (by simpa using h)).cons a).trans (List.Perm.swap ..)
end L2
set_option Elab.async false
set_option linter.all false
set_option maxRecDepth 100000
namespace L2
open PySem PySem.Spec PyProof.Rows PySem.W
theorem z751 {α:Type}(next:Nat→Nat):∀ (f k:Nat) (l:List α) (out:Array α),l.length≤f→(pickOrder.go next f k l out).toList.Perm (out.toList++l)
 | 0,k,l,out,h=>by
  have:l=[]:=List.eq_nil_of_length_eq_zero (by omega)
  subst this
  unfold pickOrder.go
  rw [List.append_nil]
 | f + 1,k,l,out,h=>by
  unfold pickOrder.go
  cases e:l[next k % l.length]? with
  | none=>
   dsimp only
   by_cases z:l.length=0
   ·have:l=[]:=List.eq_nil_of_length_eq_zero z
    subst this
    rw [List.append_nil]
   ·have:=List.getElem?_eq_none_iff.mp e
    have:=Nat.mod_lt (next k) (show 0 < l.length by omega)
    omega
  | some x=>
   dsimp only
   obtain⟨hl,ex⟩:=List.getElem?_eq_some_iff.mp e
   refine(z751 next f (k + 1) _ _ (by rw [List.length_eraseIdx_of_lt hl];omega)).trans ?_
   rw [Array.toList_push,List.append_assoc,← ex]
   exact List.Perm.append_left _ (z292 l _ hl).symm
theorem z383 {α:Type}(next:Nat→Nat) (xs:Array α):(pickOrder next xs).toList.Perm xs.toList:=by
 have:=z751 next xs.size 0 xs.toList #[] (by simp)
 simpa [pickOrder] using this
section
variable {prog:Program}{w:World}{A:Around}{E:Value→Shared→Prop}
theorem z727 {src:Source}{n:Nat}{Q:Nat→Shared→Prop}{s:Shared}(hn:n≠0) (h:∀ i d,i < n→Q i { s with drawn:=d }):wpAny (model prog w) A (choose src n) Q E s:=fun Γ p _=>by
 unfold PySem.choose
 rw [Sem.wp_choose,Sem.wp_pure]
 exact⟨hn,h _ _ (Nat.mod_lt _ (Nat.pos_of_ne_zero hn))⟩
theorem z634 {α:Type}:∀ (n:Nat) (l:List α) (s:Shared) (Q:List α→Shared→Prop),l.length=n→(∀ r d,r.Perm l→Q r { s with drawn:=d })→wpAny (model prog w) A (drawOrder n l) Q E s
 | 0,l,s,Q,hl,h=>by
  have:l=[]:=List.eq_nil_of_length_eq_zero hl
  subst this
  unfold drawOrder
  exact wpAny_pure (h [] s.drawn (List.Perm.refl _))
 | n + 1,[],s,Q,hl,h=>by cases hl
 | n + 1,x::l,s,Q,hl,h=>by
  unfold drawOrder
  refine wpAny_bind (z727 (by simp) fun i d hi=>?_)
  have hi':i < (x::l).length:=hi
  rw [List.getElem?_eq_getElem hi']
  dsimp only
  refine wpAny_bind (z634 n _ _ _ (by rw [List.length_eraseIdx_of_lt hi'];omega) fun r d' pr=>wpAny_pure (h _ d' ?_))
  exact(pr.cons _).trans (z292 (x::l) i hi').symm
end
theorem z92:Slot "set_iterator" "__next__" "set_iterator.__next__":=
 .of (owner:="set_iterator") (n:="__next__") (by rw [typeLookup_type,builtinLookup_eq_fast];kernel_rfl) (by decide +kernel) (by decide +kernel) (by decide +kernel) (by first | exact .inl (by decide +kernel) | exact .inr (by decide +kernel)) (by rw [isSubtype_type];kernel_rfl)
theorem z244:Slot "set_iterator" "__iter__" "set_iterator.__iter__":=
 .of (owner:="set_iterator") (n:="__iter__") (by rw [typeLookup_type,builtinLookup_eq_fast];kernel_rfl) (by decide +kernel) (by decide +kernel) (by decide +kernel) (by first | exact .inl (by decide +kernel) | exact .inr (by decide +kernel)) (by rw [isSubtype_type];kernel_rfl)
theorem z394:entryFor table "set_iterator.__next__"=some Builtin.«set_iterator.__next__»:=entryFor_of_tree (by kernel_rfl)
theorem z418 (a:Value):argsOk "set_iterator.__next__" ⟨[a],[]⟩:=by unfold argsOk;kernel_rfl
theorem z378:entryFor table "set.__iter__"=some Builtin.«frozenset.__iter__»:=entryFor_alias (id':="frozenset.__iter__") (by kernel_rfl) rfl (by decide +kernel) (by kernel_rfl)
end L2
set_option Elab.async false
set_option linter.all false
set_option maxRecDepth 100000
namespace L2
open PySem PySem.Spec PyProof.Rows PySem.W
theorem z380:entryFor table "set_iterator.__iter__"=some Builtin.«dict_keyiterator.__iter__»:=entryFor_alias (id':="dict_keyiterator.__iter__") (by kernel_rfl) rfl (by decide +kernel) (by kernel_rfl)
theorem z456 (a:Value):argsOk "set_iterator.__iter__" ⟨[a],[]⟩:=by unfold argsOk;kernel_rfl
def SIt (h:Heap) (I:Addr) (first:Value) (i:Nat) (a:Addr) (n ep:Nat):Prop:=∃ o,h.get? I=some o∧o.cls=.type "set_iterator"∧o.data=.fields #[first,.int (i:Nat) 0,.ref a,.int (n:Nat) 0,.int (ep:Nat) 0]
theorem SIt.typeIs {s:Shared}{I a:Addr}{f:Value}{i n ep:Nat}(x:SIt s.heap I f i a n ep):s.TypeIs (.ref I) "set_iterator":=let ⟨o,ho,hc,_⟩:=x;⟨o,ho,hc⟩
theorem SIt.at {h h':Heap}{I a:Addr}{f:Value}{i n ep:Nat}(x:SIt h I f i a n ep) (e:∀ o,h.get? I=some o→h'.get? I=some o):SIt h' I f i a n ep:=let ⟨o,ho,r⟩:=x;⟨o,e o ho,r⟩
def SAt (h:Heap) (a:Addr) (es:Array (Int × Value)) (ep:Nat) (t:SetTable):Prop:=∃ o,h.get? a=some o∧o.cls=.type "set"∧o.data=.set es ep t
theorem SAt.at {h h':Heap}{a:Addr}{es:Array (Int × Value)}{ep:Nat}{t:SetTable}(x:SAt h a es ep t) (e:∀ o,h.get? a=some o→h'.get? a=some o):SAt h' a es ep t:=let ⟨o,ho,r⟩:=x;⟨o,e o ho,r⟩
section
variable {prog:Program}{w:World}{A:Around}{E:Value→Shared→Prop}{s:Shared}{a I:Addr}{es:Array (Int × Value)}{ep:Nat}{t:SetTable}
theorem z480 {f:Value}{i n:Nat}{Q:Value→Shared→Prop}(x:SIt s.heap I f i a n ep) (h:Q (.ref I) s):wpAny (model prog w) A (pyIter (.ref I)) Q E s:=
 wpAny_pyIter_slot x.typeIs z244 (wpAny_call_entry z244 x.typeIs z380 (show wpAny _ _ (ret (.ref I)) _ _ s from wpAny_pure ⟨_,rfl,"set_iterator",_,x.typeIs,z92.lookup,h⟩) (z456 _))
theorem wp_t {M:Model}{α:Type}{c:Prop} [Decidable c]{x y:Sem α}{Q:α→Shared→Prop}(h:c) (k:wpAny M A x Q E s):wpAny M A (if c then x else y) Q E s:=by rw [if_pos h];exact k
theorem wp_f {M:Model}{α:Type}{c:Prop} [Decidable c]{x y:Sem α}{Q:α→Shared→Prop}(h:¬ c) (k:wpAny M A y Q E s):wpAny M A (if c then x else y) Q E s:=by rw [if_neg h];exact k
theorem z512 {slot given:Nat}{Q:Option (Value × Nat)→Shared→Prop} (hs:SAt s.heap a es ep t) (hf:t.fits es.size=true) (hb:w.params.followText "set-order"=true) (h:Q (((pickOrder (w.params.setOrder a ep) es)[given]?).map fun e=>(e.2,slot)) s):
  wpAny (model prog w) A (setNext a slot given ep) Q E s:=by
 obtain⟨o,ho,_,hd⟩:=hs
 unfold setNext
 refine wpAny_bind (wpAny_setState_of ho hd hf ?_)
 dsimp only
 unfold setsByText
 refine wpAny_bind (wpAny_bind (wpAny_askSetting (wpAny_pure ?_)))
 refine wp_t hb (wp_f (by simp) (wpAny_bind ?_))
 unfold setWalk setsByText
 refine wpAny_bind (wpAny_setState_of ho hd hf (wpAny_bind (wpAny_bind (wpAny_askSetting (wpAny_pure ?_)))))
 dsimp only
 refine wp_t hb ?_
 exact wpAny_bind (wpAny_askSetting (wpAny_pure (wpAny_pure h)))
theorem z414 {slot given:Nat}{Q:Option (Value × Nat)→Shared→Prop} (hs:SAt s.heap a es ep t) (hf:t.fits es.size=true) (hb:w.params.followText "set-order"=false) (hp:(!t.plain && decide (es.size > 1))=false) (hl:t.led=true) (h:Q (match es[SetTable.below t.place slot]?,t.place[SetTable.below t.place slot]? with | some (_,x),some j=>some (x,j + 1) | _,_=>none) s):
  wpAny (model prog w) A (setNext a slot given ep) Q E s:=by
 obtain⟨o,ho,_,hd⟩:=hs
 unfold setNext
 refine wpAny_bind (wpAny_setState_of ho hd hf ?_)
 dsimp only
 unfold setsByText
 refine wpAny_bind (wpAny_bind (wpAny_askSetting (wpAny_pure ?_)))
 refine wp_f (fun z=>Bool.false_ne_true (hb.symm.trans z)) (wp_f (fun z=>Bool.false_ne_true (hp.symm.trans z)) (wpAny_bind ?_))
 refine(show wpAny _ _ (if (!t.led && !es.isEmpty)=true then unsupported "set:maker-not-led" else pure PUnit.unit) _ _ _ from wp_f (by simp [hl]) ?_)
 exact wpAny_pure (wpAny_pure h)
theorem z228 {f:Value}{i n:Nat}{Q:Value→Shared→Prop}(x:SIt s.heap I f i a n ep) (hs:SAt s.heap a es ep t) (hf:t.fits es.size=true) (hn:es.size=n)
  (h:wpAny (model prog w) A (do
   if let .int slot _:=f then
    match ← setNext a slot.toNat i ep with
    | some (x,next)=>
     setField (.ref I) 0 (rawInt next)
     setField (.ref I) 1 (rawInt ((i:Int) + 1))
     ret x
    | none=>setField (.ref I) 2 .none;raiseNew (← newExc (.type "StopIteration") [])
   else
    let some places ← seqItems? f | unsupported "internal:set_iterator"
    match places[i]? with
    | some (.int place _)=>
     let x ← setNextDrawn a place.toNat ep
     setField (.ref I) 1 (rawInt ((i:Int) + 1))
     ret x
    | some _=>unsupported "internal:set_iterator"
    | none=>setField (.ref I) 0 (rawInt 0);setField (.ref I) 2 .none;raiseNew (← newExc (.type "StopIteration") [])) (fun fin s'=>∃ r,fin=.done (.ret r)∧Q r s') E s):
  wpAny (model prog w) A (Builtin.«set_iterator.__next__» ⟨[.ref I],[]⟩) (fun fin s'=>∃ r,fin=.done (.ret r)∧Q r s') E s:=by
 obtain⟨o,ho,_,hd⟩:=id x
 obtain⟨oa,hoa,_,hda⟩:=id hs
 unfold Builtin.«set_iterator.__next__»
 refine wpAny_bind (m:=slotArgs "__next__" 0 _) (wpAny_of_eq (show slotArgs "__next__" 0 ⟨[.ref I],[]⟩=pure (.ref I,[]) from rfl) ?_)
 dsimp only
 refine wpAny_bind (wpAny_fieldsOf ho hd ?_)
 dsimp only
 refine wpAny_bind (wpAny_setEntries_of hoa hda hf ?_)
 rw [if_neg (by simp [hn])]
 simp only [Int.toNat_natCast]
 exact h
end
end L2
set_option Elab.async false
set_option linter.all false
set_option maxRecDepth 100000
namespace L2
open PySem PySem.Spec PyProof.Rows PySem.W
theorem fld {h:Heap}{I:Addr}{o:Obj}{vs:Array Value}(ho:h.get? I=some o) (hc:o.cls=.type "set_iterator") (hd:o.data=.fields vs) (k:Nat) (v:Value):∃ o',(h.update I (Obj.mapFields (·.setIfInBounds k v))).get? I=some o'∧o'.cls=.type "set_iterator"∧o'.data=.fields (vs.setIfInBounds k v):=
 ⟨_,Heap.get?_update_self _ ho (Obj.isFreed_of_fields (Obj.data_mapFields hd _)),(Obj.cls_mapFields ..).trans hc,Obj.data_mapFields hd _⟩
section
variable {prog:Program}{w:World}{A:Around}{E:Value→Shared→Prop}{s:Shared}{a I:Addr}{es:Array (Int × Value)}{ep:Nat}{t:SetTable}
theorem z226 {f:Value}{i n:Nat}{Q:Option Value→Shared→Prop}(x:SIt s.heap I f i a n ep) (h:wpAny (model prog w) A.in1 (Builtin.«set_iterator.__next__» ⟨[.ref I],[]⟩) (fun fin s'=>∃ r,fin=.done (.ret r)∧Q (some r) s') (fun e s'=>wpAny (model prog w) A (do if ← isInstance e (.type "StopIteration") then pure none else throw e) Q E s') s):wpAny (model prog w) A (pyNext (.ref I)) Q E s:=by
 unfold pyNext
 refine wpAny_bind (wpAny_attempt (wpAny_callSpecial?_slot (name:=Str.ofString "__next__") x.typeIs z92 (wpAny_call_entry z92 x.typeIs z394 (wpAny_mono h ?_ fun _ _ e=>e) (z418 _))))
 rintro fin s' ⟨r,rfl,q⟩
 exact⟨r,rfl,wpAny_pure q⟩
theorem z758 {f:Value}{i n:Nat}(x:SIt s.heap I f i a n ep) (hs:SAt s.heap a es ep t) (hne:a≠I) (v:Value){r:Value}{Q:Value→Shared→Prop}(h:∀ h',SIt h' I v (i + 1) a n ep→SAt h' a es ep t→Heap.SameBut I s.heap h'→Q r { s with heap:=h' }):
  wpAny (model prog w) A (do setField (.ref I) 0 v;setField (.ref I) 1 (rawInt ((i:Int) + 1));ret r) (fun fin s'=>∃ r,fin=.done (.ret r)∧Q r s') E s:=by
 obtain⟨o,ho,hc,hd⟩:=id x
 refine wpAny_bind (wpAny_setField ho hd (by simp) ?_)
 obtain⟨o1,ho1,hc1,hd1⟩:=fld ho hc hd 0 v
 refine wpAny_bind (wpAny_setField ho1 hd1 (by simp) ?_)
 obtain⟨o2,ho2,hc2,hd2⟩:=fld ho1 hc1 hd1 1 (rawInt ((i:Int) + 1))
 have sb:=(Heap.SameBut.update s.heap I (Obj.mapFields (·.setIfInBounds 0 v))).trans (Heap.SameBut.update _ I (Obj.mapFields (·.setIfInBounds 1 (rawInt ((i:Int) + 1)))))
 refine wpAny_pure ⟨r,rfl,h _ ⟨o2,ho2,hc2,by rw [hd2];simp [rawInt]⟩ (hs.at fun o e=>(sb.2 a hne).trans e) sb⟩
theorem z817 {f:Value}{i n:Nat}(x:SIt s.heap I f i a n ep){r:Value}{Q:Value→Shared→Prop}(h:∀ h',SIt h' I f (i + 1) a n ep→Heap.SameBut I s.heap h'→Q r { s with heap:=h' }):
  wpAny (model prog w) A (do setField (.ref I) 1 (rawInt ((i:Int) + 1));ret r) (fun fin s'=>∃ r,fin=.done (.ret r)∧Q r s') E s:=by
 obtain⟨o,ho,hc,hd⟩:=id x
 refine wpAny_bind (wpAny_setField ho hd (by simp) ?_)
 obtain⟨o2,ho2,hc2,hd2⟩:=fld ho hc hd 1 (rawInt ((i:Int) + 1))
 exact wpAny_pure ⟨r,rfl,h _ ⟨o2,ho2,hc2,by rw [hd2];simp [rawInt]⟩ (Heap.SameBut.update s.heap I _)⟩
theorem z481 {f:Value}{i n:Nat}(hh:A.handled=none) (x:SIt s.heap I f i a n ep){Q:Value→Shared→Prop}(h:∀ h' e,Heap.ExtBut I s.heap h'→(∃ o,h'.get? e=some o∧o.cls=.type "StopIteration")→E (.ref e) { s with heap:=h' }):
  wpAny (model prog w) A ((do setField (.ref I) 2 .none;raiseNew (← newExc (.type "StopIteration") [])):Sem PySem.Fin) (fun fin s'=>∃ r,fin=.done (.ret r)∧Q r s') E s:=by
 obtain⟨o,ho,hc,hd⟩:=id x
 refine wpAny_bind (wpAny_setField ho hd (by simp) (z88 (.inl hh) fun h' e k1 k2=>h h' e (fun b o hb z=>k1 b o ?_) k2))
 rw [Heap.get?_update_other _ _ (Ne.symm hb)]
 exact z
end
def esV (es:List (Int × Value)):List Value:=es.map (·.2)
theorem z595 {prog:Program}{w:World}{A:Around}(hh:A.handled=none) (I a:Addr) (hne:a≠I){es:Array (Int × Value)}{ep:Nat}{t:SetTable}(hf:t.fits es.size=true) (hb:w.params.followText "set-order"=true):
  Walks prog w A I [I,a] [I] es.size (fun i v=>(esV (pickOrder (w.params.setOrder a ep) es).toList)[i]?=some v) (fun i h=>SIt h I (.int 0 0) i a es.size ep∧SAt h a es ep t) where
 sub:=fun b hb=>by simp at hb;simp [hb]
 frame:=fun _ _ _ st hk=>⟨st.1.at fun o e=>hk I (by simp) o e,st.2.at fun o e=>hk a (by simp) o e⟩
 item:=fun i s Q E hi st hQ=>by
  have hl:i < (pickOrder (w.params.setOrder a ep) es).size:=by
   rw [← Array.length_toList,(z383 _ _).length_eq,Array.length_toList]
   exact hi
  refine z226 st.1 (z228 st.1 st.2 hf rfl ?_)
  dsimp only
  refine wpAny_bind (z512 st.2 hf hb ?_)
  rw [Array.getElem?_eq_getElem hl]
  exact z758 st.1 st.2 hne _ fun h' x' hs' sb=>hQ _ h' s.toks (by simp [esV,hl]) ⟨x',hs'⟩ fun b o hb e=>(sb.2 b (fun z=>hb (by simp [z]))).trans e
 done:=fun s Q E st hQ=>by
  refine z226 st.1 (z228 st.1 st.2 hf rfl ?_)
  dsimp only
  refine wpAny_bind (z512 st.2 hf hb ?_)
  have hl:(pickOrder (w.params.setOrder a ep) es).size=es.size:=by rw [← Array.length_toList,(z383 _ _).length_eq,Array.length_toList]
  rw [Array.getElem?_eq_none (by omega)]
  exact z481 (by simp [hh]) st.1 fun h' e eb he=>z62 he (hQ h' s.toks fun b o hb z=>eb b o (fun y=>hb (by simp [y])) z)
 self:=fun _ _ _ _ st h=>z480 st.1 h
def slotAt (t:SetTable) (i:Nat):Nat:=if i=0 then 0 else t.place.getD (i - 1) 0 + 1
theorem z401 {b:Bool}{t:SetTable}(h:Tok b t){i:Nat}(hi:i≤t.place.size):SetTable.below t.place (slotAt t i)=i:=by
 have asc:∀ x y (hx:x < t.place.size) (hy:y < t.place.size),x < y→t.place[x] < t.place[y]:=fun x y hx hy hxy=>by
  have:=List.pairwise_iff_getElem.mp h.asc x y (by simpa using hx) (by simpa using hy) hxy
  simpa using this
 unfold slotAt
 by_cases z:i=0
 ·subst z
  rw [if_pos rfl]
  exact below_at h.asc (Nat.zero_le _) (fun j _ hj=>absurd hj (Nat.not_lt_zero _)) (fun j _ _=>Nat.zero_le _)
 ·rw [if_neg z]
  have hl:i - 1 < t.place.size:=by omega
  have eg:t.place.getD (i - 1) 0=t.place[i - 1]:=by simp [Array.getD,hl]
  rw [eg]
  refine below_at h.asc hi (fun j hj hji=>?_) (fun j hj hij=>?_)
  ·by_cases e:j=i - 1
   ·subst e;omega
   ·have:=asc j (i - 1) hj hl (by omega);omega
  ·have:=asc (i - 1) j hl hj (by omega);omega
theorem z528 {prog:Program}{w:World}{A:Around}(hh:A.handled=none) (I a:Addr) (hne:a≠I){es:Array (Int × Value)}{ep:Nat}{t:SetTable}(hf:t.fits es.size=true) (hb:w.params.followText "set-order"=false) (hp:(!t.plain && decide (es.size > 1))=false) (tk:Tok true t):
  Walks prog w A I [I,a] [I] es.size (fun i v=>(esV es.toList)[i]?=some v) (fun i h=>SIt h I (.int (slotAt t i:Nat) 0) i a es.size ep∧SAt h a es ep t) where
 sub:=fun b hb=>by simp at hb;simp [hb]
 frame:=fun _ _ _ st hk=>⟨st.1.at fun o e=>hk I (by simp) o e,st.2.at fun o e=>hk a (by simp) o e⟩
 item:=fun i s Q E hi st hQ=>by
  have hz:t.place.size=es.size:=by
   simp only [SetTable.fits,Bool.and_eq_true,beq_iff_eq] at hf
   exact hf.1
  refine z226 st.1 (z228 st.1 st.2 hf rfl ?_)
  dsimp only
  rw [Int.toNat_natCast]
  refine wpAny_bind (z414 st.2 hf hb hp tk.led ?_)
  rw [z401 tk (by omega),Array.getElem?_eq_getElem hi,Array.getElem?_eq_getElem (show i < t.place.size by omega)]
  dsimp only
  refine z758 st.1 st.2 hne _ fun h' x' hs' sb=>hQ _ h' s.toks (by simp [esV,hi]) ⟨?_,hs'⟩ fun b o hb e=>(sb.2 b (fun z=>hb (by simp [z]))).trans e
  have e:slotAt t (i + 1)=t.place[i]'(by omega) + 1:=by unfold slotAt;simp [Array.getD,show i < t.place.size by omega]
  rw [e]
  exact x'
 done:=fun s Q E st hQ=>by
  have hz:t.place.size=es.size:=by
   simp only [SetTable.fits,Bool.and_eq_true,beq_iff_eq] at hf
   exact hf.1
  refine z226 st.1 (z228 st.1 st.2 hf rfl ?_)
  dsimp only
  rw [Int.toNat_natCast]
  refine wpAny_bind (z414 st.2 hf hb hp tk.led ?_)
  rw [z401 tk (by omega),Array.getElem?_eq_none (Nat.le_refl _)]
  exact z481 (by simp [hh]) st.1 fun h' e eb he=>z62 he (hQ h' s.toks fun b o hb z=>eb b o (fun y=>hb (by simp [y])) z)
 self:=fun _ _ _ _ st h=>z480 st.1 h
def atP (es:Array (Int × Value)) (order:List Nat):List Value:=order.map fun j=>(es.getD j (0,.none)).2
theorem z519 {prog:Program}{w:World}{A:Around}(hh:A.handled=none) (I a T:Addr) (hne:a≠I) (hTI:T≠I){es:Array (Int × Value)}{ep:Nat}{t:SetTable}(hf:t.fits es.size=true){order:List Nat}(ho:order.Perm (List.range es.size)):
  Walks prog w A I [I,a,T] [I] es.size (fun i v=>(atP es order)[i]?=some v) (fun i h=>SIt h I (.ref T) i a es.size ep∧SAt h a es ep t∧h.IsTuple T ((order.map fun(j:Nat)=>rawInt j).toArray)) where
 sub:=fun b hb=>by simp at hb;simp [hb]
 frame:=fun _ _ _ st hk=>⟨st.1.at fun o e=>hk I (by simp) o e,st.2.1.at fun o e=>hk a (by simp) o e,let ⟨o,ho,r⟩:=st.2.2;⟨o,hk T (by simp) o ho,r⟩⟩
 item:=fun i s Q E hi st hQ=>by
  obtain⟨oT,hoT,_,nT,hdT⟩:=id st.2.2
  obtain⟨oa,hoa,_,hda⟩:=id st.2.1
  have hl:i < order.length:=by rw [ho.length_eq,List.length_range];exact hi
  have hj:order[i] < es.size:=List.mem_range.mp (ho.mem_iff.mp (List.getElem_mem hl))
  refine z226 st.1 (z228 st.1 st.2.1 hf rfl ?_)
  dsimp only
  refine wpAny_bind (wpAny_seqItems hoT hdT ?_)
  dsimp only
  rw [show ((order.map fun(j:Nat)=>rawInt j).toArray)[i]?=some (rawInt (order[i]:Nat)) by simp [hl]]
  dsimp only [rawInt]
  refine wpAny_bind ?_
  unfold setNextDrawn
  refine wpAny_bind (wpAny_setState_of hoa hda hf ?_)
  dsimp only
  refine wp_f (by simp) ?_
  rw [Int.toNat_natCast,Array.getElem?_eq_getElem hj]
  refine wpAny_pure (z817 st.1 fun h' x' sb=>hQ _ h' s.toks ?_ ⟨x',st.2.1.at fun o e=>(sb.2 a hne).trans e,let ⟨o,ho,r⟩:=st.2.2;⟨o,(sb.2 T hTI).trans ho,r⟩⟩ fun b o hb e=>(sb.2 b (fun z=>hb (by simp [z]))).trans e)
  simp [atP,hl,hj]
 done:=fun s Q E st hQ=>by
  obtain⟨oT,hoT,_,nT,hdT⟩:=id st.2.2
  have hl:order.length=es.size:=by rw [ho.length_eq,List.length_range]
  refine z226 st.1 (z228 st.1 st.2.1 hf rfl ?_)
  dsimp only
  refine wpAny_bind (wpAny_seqItems hoT hdT ?_)
  dsimp only
  rw [show ((order.map fun(j:Nat)=>rawInt j).toArray)[es.size]?=none by simp [hl]]
  dsimp only
  obtain⟨o,hoI,hc,hd⟩:=id st.1
  refine wpAny_bind (wpAny_setField hoI hd (by simp) ?_)
  obtain⟨o1,ho1,hc1,hd1⟩:=fld hoI hc hd 0 (rawInt 0)
  have x1:SIt (s.heap.update I (Obj.mapFields (·.setIfInBounds 0 (rawInt 0)))) I (rawInt 0) es.size a es.size ep:=⟨o1,ho1,hc1,by rw [hd1];simp⟩
  exact z481 (s:={ s with heap:=_ }) (by simp [hh]) x1 fun h' e eb he=>z62 he (hQ h' s.toks fun b o hb z=>eb b o (fun y=>hb (by simp [y])) ((Heap.get?_update_other _ _ (fun y=>hb (by simp [y]))).trans z))
 self:=fun _ _ _ _ st h=>z480 st.1 h
end L2
set_option Elab.async false
set_option linter.all false
set_option maxRecDepth 100000
namespace L2
open PySem PySem.Spec PyProof.Rows PySem.W
section
variable {prog:Program}{w:World}{A:Around}{E:Value→Shared→Prop}{s:Shared}{a:Addr}{es:Array (Int × Value)}{ep:Nat}{t:SetTable}
theorem z798 {es:Array (Int × Value)}{order:List Nat}(h:order.Perm (List.range es.size)):(atP es order).Perm (esV es.toList):=by
 refine(h.map _).trans ?_
 have:(List.range es.size).map (fun j=>(es.getD j (0,.none)).2)=esV es.toList:=by
  unfold esV
  apply List.ext_getElem
  ·simp
  ·intro i h1 h2
   simp at h1
   simp [Array.getD,h1]
 rw [this]
theorem z782 {Q:Value→Shared→Prop}(hs:SAt s.heap a es ep t) (hf:t.fits es.size=true) (tk:Tok (ledW w) t) (hz:es.size < scanBound) (hh:A.handled=none)
  (h:∀ (vs:List Value) (I:Addr) (fp:List Addr) (St:Nat→Heap→Prop) (h':Heap) (d:Drawn),vs.Perm (esV es.toList)→Walks prog w A I fp [I] es.size (fun i v=>vs[i]?=some v) St→St 0 h'→(∀ b∈fp,b=a∨s.heap.objs.size≤b)→(∀ b o,s.heap.get? b=some o→h'.get? b=some o)→s.heap.objs.size≤I→Q (.ref I) { s with heap:=h',drawn:=d }):
  wpAny (model prog w) A (pyIter (.ref a)) Q E s:=by
 obtain⟨o,ho,hc,hd⟩:=id hs
 have hT:s.TypeIs (.ref a) "set":=⟨o,ho,hc⟩
 have hlt:a < s.heap.objs.size:=Heap.lt_size ho
 refine wpAny_pyIter_slot hT F.slot_set_iter (wpAny_call_entry F.slot_set_iter hT z378 ?_ (F.args_set_iter_1 _))
 unfold Builtin.«frozenset.__iter__» Builtin.Frozenset.slot0 Builtin.Frozenset.sizeOf setDrawn setsByText
 refine wpAny_bind (wpAny_bind (wpAny_of_eq (show slotArgs "__iter__" 0 ⟨[.ref a],[]⟩=pure (.ref a,[]) from rfl) (wpAny_of_eq (show Builtin.Frozenset.addrOf (.ref a)=pure a from rfl) ?_)))
 refine wpAny_bind (wpAny_bind (wpAny_setEntries_of ho hd hf (wpAny_pure ?_)))
 refine wpAny_bind (wpAny_bind (wpAny_setState_of ho hd hf (wpAny_bind (wpAny_bind (wpAny_askSetting (wpAny_pure ?_))))))
 refine wpAny_pure ?_
 dsimp only
 have fin:∀ (first:Value) (s1:Shared),SAt s1.heap a es ep t→(SIt (s1.heap.push { cls:=.type "set_iterator",data:=.fields #[first,.int 0 0,.ref a,.int (es.size:Nat) 0,.int (ep:Nat) 0] }) s1.heap.objs.size first 0 a es.size ep→Q (.ref s1.heap.objs.size) { s1 with heap:=s1.heap.push { cls:=.type "set_iterator",data:=.fields #[first,.int 0 0,.ref a,.int (es.size:Nat) 0,.int (ep:Nat) 0] } })→
   wpAny (model prog w) A.in1 (do
     let e ← setEpoch a
     let f ← newFields "set_iterator" [first,rawInt 0,Value.ref a,rawInt (es.size:Nat),rawInt (e:Nat)]
     ret f) (fun fin s'=>∃ v,fin=Fin.done (Flow.ret v)∧∃ T' r,s'.TypeIs v T'∧typeLookup (Value.type T') (Str.ofString "__next__")=pure (some r)∧Q v s') E s1:=fun first s1 hs1 q=>by
  obtain⟨o1,ho1,hc1,hd1⟩:=hs1
  refine wpAny_bind (wpAny_setEpoch_of ho1 hd1 hf (wpAny_bind ?_))
  have hI:=Heap.get?_push_size s1.heap (o:={ cls:=.type "set_iterator",data:=.fields #[first,.int 0 0,.ref a,.int (es.size:Nat) 0,.int (ep:Nat) 0] }) rfl
  exact wpAny_newObj_type (wpAny_pure ⟨_,rfl,"set_iterator",_,⟨_,hI,rfl⟩,z92.lookup,q ⟨_,hI,rfl,rfl⟩⟩)
 have sz:∀ (h1:Heap) (o1:Obj),(h1.push o1).objs.size=h1.objs.size + 1:=fun h1 o1=>Heap.size_push ..
 have hfp:∀ I:Addr,s.heap.objs.size≤I→∀ b∈[I,a],b=a∨s.heap.objs.size≤b:=fun I hI b hb=>by
  rcases List.mem_cons.mp hb with rfl | hb
  ·exact .inr hI
  ·exact .inl (List.mem_singleton.mp hb)
 cases hb:w.params.followText "set-order" with
 | true=>
  refine wp_f (fun z=>by rw [Bool.and_eq_true] at z;exact Bool.false_ne_true ((show (!true)=true from hb ▸ z.1))) (wpAny_bind (wpAny_pure (fin (rawInt 0) s hs fun x=>?_)))
  exact h _ _ _ _ _ s.drawn ((z383 (w.params.setOrder a ep) es).map _) (z595 hh _ a (Nat.ne_of_lt hlt) hf hb) ⟨x,hs.at fun o e=>Heap.get?_push_of_some _ e⟩ (hfp _ (Nat.le_refl _)) (fun b o e=>Heap.get?_push_of_some _ e) (Nat.le_refl _)
 | false=>
  cases hp:(!t.plain && decide (es.size > 1)) with
  | false=>
   have tk':Tok true t:=by
    have:ledW w=true:=by unfold ledW;rw [hb];rfl
    rw [this] at tk
    exact tk
   refine wp_f (fun z=>by rw [Bool.and_eq_true] at z;exact Bool.false_ne_true (hp.symm.trans z.2)) (wpAny_bind (wpAny_pure (fin (rawInt 0) s hs fun x=>?_)))
   exact h _ _ _ _ _ s.drawn (List.Perm.refl _) (z528 hh _ a (Nat.ne_of_lt hlt) hf hb hp tk') ⟨x,hs.at fun o e=>Heap.get?_push_of_some _ e⟩ (hfp _ (Nat.le_refl _)) (fun b o e=>Heap.get?_push_of_some _ e) (Nat.le_refl _)
  | true=>
   refine wp_t ?_ (wpAny_bind (z634 es.size (List.range es.size) s _ (List.length_range) fun order d pr=>wpAny_bind (wpAny_newTuple (fin _ _ (hs.at fun o e=>Heap.get?_push_of_some _ e) fun x=>?_) (by rw [List.length_map,pr.length_eq,List.length_range];exact fits_of_scanBound hz))))
   ·rw [Bool.and_eq_true]
    exact⟨show (!w.params.followText "set-order")=true by rw [hb];rfl,hp⟩
   ·have z1:=sz s.heap (seqObj "tuple" (order.map fun(i:Nat)=>rawInt i).toArray 0)
    refine h (atP es order) _ [_,a,s.heap.objs.size] _ _ d (z798 pr) (z519 hh _ a s.heap.objs.size (by rw [z1];exact Nat.ne_of_lt (Nat.lt_succ_of_lt hlt)) (by rw [z1];exact Nat.ne_of_lt (Nat.lt_succ_self _)) hf pr) ⟨x,hs.at fun o e=>Heap.get?_push_of_some _ (Heap.get?_push_of_some _ e),⟨_,Heap.get?_push_of_some _ (Heap.get?_push_size _ rfl),rfl,0,rfl⟩⟩ (fun b hb=>?_) (fun b o e=>Heap.get?_push_of_some _ (Heap.get?_push_of_some _ e)) (by rw [z1];exact Nat.le_succ _)
    simp only [List.mem_cons,List.not_mem_nil,or_false] at hb
    rcases hb with rfl | rfl | rfl
    ·exact .inr (by rw [z1];exact Nat.le_succ _)
    ·exact .inl rfl
    ·exact .inr (Nat.le_refl _)
end
end L2
set_option Elab.async false
set_option linter.all false
set_option maxRecDepth 100000
namespace L2
open PySem PySem.Spec PyProof.Rows PySem.W
section
variable {prog:Program}{w:World}{A:Around}{E:Value→Shared→Prop}{s:Shared}{a:Addr}{es:Array (Int × Value)}{ep:Nat}{t:SetTable}
theorem z778 {Q:Bool→Shared→Prop}(hT:s.TypeIs (.ref a) "set") (h:Q false s):wpAny (model prog w) A (Builtin.List.listLengthHint (.ref a)) Q E s:=by
 unfold Builtin.List.listLengthHint
 refine wpAny_bind (wpAny_specialOf hT F.slot_set_len.lookup ?_)
 generalize hid:("set.__len__":String)=id0
 wp_delta
 rw [show splitId id0=some ("set","__len__") from by subst hid;decide +kernel]
 subst hid
 exact wpAny_bind (wpAny_isInstance (T:="set") (b:=true) hT (by rw [isSubtype_type];kernel_rfl) (wpAny_ite_split (fun hab=>absurd hab (by decide)) (fun _=>wpAny_ite_split (fun _=>wpAny_bind (wpAny_typeOf hT (wpAny_pure h))) (fun hab=>absurd (by decide +kernel) hab))))
theorem z777 {vs:List Value}{acc:Array Value}{n:Nat}(hl:vs.length=n) (h:ItemsOf (fun i v=>vs[i]?=some v) acc n):acc.toList=vs:=by
 apply List.ext_getElem
 ·rw [Array.length_toList,h.1,hl]
 ·intro i h1 h2
  have hi:i < acc.size:=by simpa using h1
  have e:vs[i]?=some acc[i]:=h.2 i acc[i] (by simp [hi])
  rw [List.getElem?_eq_getElem h2] at e
  simpa using (Option.some.inj e).symm
theorem z795 {R:Result→Shared→Prop}(hs:SAt s.heap a es ep t) (hf:t.fits es.size=true) (tk:Tok (ledW w) t) (hz:es.size < scanBound) (hh:A.handled=none) (S:Addr) (hSa:S≠a) (res:Value) (c₀:Nat) (hS:s.heap.get? S=some { cls:=.type "list",data:=.seq #[] c₀ })
  (hR:∀ h' tk d acc' c',(∀ b o,b≠S→s.heap.get? b=some o→h'.get? b=some o)→h'.get? S=some { cls:=.type "list",dict:=none,data:=.seq acc' c',slots:=#[] }→acc'.toList.Perm (esV es.toList)→R (.ok (.ret res)) { s with heap:=h',toks:=tk,drawn:=d }):
  wpAny (model prog w) A.in1 (Builtin.List.listExtendWith (.ref S) (.ref a) res) (fun fin s'=>match fin with | .done f=>R (.ok f) s' | .again c'=>c'.quiet=true∧codeAny (model prog w) A c' R s') (fun e s'=>R (.error e) s') s:=by
 obtain⟨o,ho,hc,hd⟩:=id hs
 have hT:s.TypeIs (.ref a) "set":=⟨o,ho,hc⟩
 have hSl:S < s.heap.objs.size:=Heap.lt_size hS
 unfold Builtin.List.listExtendWith
 refine wpAny_bind (wpAny_typeOf (T:="set") hT ?_)
 have e1:Builtin.List.listSameRef (.ref S) (.ref a)=false:=by simp [Builtin.List.listSameRef,hSa]
 have e2:(Value.type "set" == Value.type "list")=false:=by decide
 have e3:(Value.type "set" == Value.type "tuple")=false:=by decide
 simp only [e1,e2,e3,Bool.or_false,Bool.false_eq_true,if_false]
 refine wpAny_bind (z782 hs hf tk hz (by simp [hh]) fun vs I fp St h1 d pv W st hfp hk hI=>?_)
 have hSf:S ∉ fp:=fun z=>by
  rcases hfp S z with y | y
  ·exact hSa y
  ·exact absurd hSl (Nat.not_lt.mpr y)
 have lv:vs.length=es.size:=by rw [pv.length_eq];simp [esV]
 have key:∀ (h:Heap) (c₁ tk:Nat),St 0 h→(∀ b o,b≠S→s.heap.get? b=some o→h.get? b=some o)→h.get? S=some { cls:=.type "list",data:=.seq #[] c₁ }→codeAny (model prog w) A (.builtin "list.extend.loop" ⟨[.ref S,.ref I,res],[]⟩) R { s with heap:=h,toks:=tk,drawn:=d }:=fun h c₁ tk hst hk' hS₁=>
  codeAny_extend_loopS W.toS (fits_of_scanBound hz) S hSf res es.size 0 _ #[] c₁ rfl (Nat.zero_le _) hst hS₁ (ItemsOf.nil _) fun s' acc' c' hm hS' hacc=>by
   rw [Moved.eq_with hm]
   refine hR s'.heap s'.toks d acc' c' (fun b o hb e=>hm.heap b o (fun hmem=>?_) (hk' b o hb e)) hS' (by rw [z777 lv hacc];exact pv)
   rcases List.mem_cons.mp hmem with e' | hmem
   ·exact hb e'
   ·exact absurd (Heap.lt_size e) (by rw [List.mem_singleton.mp hmem];exact Nat.not_lt.mpr hI)
 have hS₁:=hk _ _ hS
 refine wpAny_bind (wpAny_holding (z778 ⟨o,hk _ _ ho,hc⟩ ?_))
 refine wpAny_ite_split (fun _=>?_) (fun _=>wpAny_pure ⟨plainId_quiet PySem.F.plain_extend_loop _,key _ c₀ _ st (fun b o _ e=>hk b o e) hS₁⟩)
 refine wpAny_bind (wpAny_rule (wpAny_bind (show wpAny _ _ (updateSeq S (·.push .none) >>= fun _=>updateSeq S (·.pop)) _ _ _ from ?_)))
 refine wpAny_bind (wpAny_updateSeq hS₁ rfl ?_)
 have hS₂:=Heap.get?_update_self (Obj.mapSeq (·.push Value.none)) hS₁ rfl
 refine wpAny_updateSeq (hz:=by seq_fits) hS₂ rfl ?_
 have hS₃:=Heap.get?_update_self (Obj.mapSeq (·.pop)) hS₂ rfl
 have oth:∀ (b:Addr) (o:Obj),b≠S→h1.get? b=some o→((h1.update S (Obj.mapSeq (·.push Value.none))).update S (Obj.mapSeq (·.pop))).get? b=some o:=fun b o hb e=>(Heap.get?_update_other _ _ (Ne.symm hb)).trans ((Heap.get?_update_other _ _ (Ne.symm hb)).trans e)
 exact wpAny_pure ⟨plainId_quiet PySem.F.plain_extend_loop _,key _ _ _ (W.frame 0 _ _ st fun b hb o e=>oth b o (fun z=>hSf (z ▸ hb)) e) (fun b o hb e=>oth b o hb (hk b o e)) hS₃⟩
theorem z556 {Q:List Value→Shared→Prop}(hs:SAt s.heap a es ep t) (hf:t.fits es.size=true) (tk:Tok (ledW w) t) (hz:es.size < scanBound) (hh:A.handled=none)
  (h:∀ (h':Heap) tk d (vs:List Value),(∀ b o,s.heap.get? b=some o→h'.get? b=some o)→s.heap.objs.size < h'.objs.size→vs.Perm (esV es.toList)→Q vs { s with heap:=h',toks:=tk,drawn:=d }):
  wpAny (model prog w) A (collect (.ref a)) Q E s:=by
 have lt:a < s.heap.objs.size:=by obtain⟨o,ho,_⟩:=hs;exact Heap.lt_size ho
 have hS:(s.heap.push (seqObj "list" #[] 0)).get? s.heap.objs.size=some (seqObj "list" #[] 0):=Heap.get?_push_size _ rfl
 unfold collect
 refine wpAny_bind (wpAny_runValue (codeAny_builtin entry_proto_collect' (wpAny_bind (wpAny_newList (wpAny_pure ⟨Code.quiet_builtin _ (by decide +kernel),codeAny_builtin entry_list_iadd' ?_⟩)))))
 have R:=z795 (prog:=prog) (w:=w) (A:=A) (s:={ s with heap:=s.heap.push (seqObj "list" #[] 0) }) (R:=fun r s'=>r=.ok (.ret (.ref s.heap.objs.size))∧∃ acc c,s'.heap.get? s.heap.objs.size=some { cls:=.type "list",dict:=none,data:=.seq acc c,slots:=#[] }∧Q acc.toList s') (hs.at fun o e=>Heap.get?_push_of_some _ e) hf tk hz hh s.heap.objs.size (Nat.ne_of_gt lt) (.ref s.heap.objs.size) 0 hS
  (fun h' tk' d acc c hk hl pv=>⟨rfl,acc,c,hl,h h' tk' d acc.toList (fun b o hb=>hk b o (Nat.ne_of_lt (Heap.lt_size hb)) (Heap.get?_push_of_some _ hb)) (Heap.lt_size hl) pv⟩)
 refine wpAny_mono (show wpAny (model prog w) A.in1 (Builtin.List.listExtendWith (.ref s.heap.objs.size) (.ref a) (.ref s.heap.objs.size)) _ _ _ from R) (fun f s' y=>?_) fun e s' y=>by cases y.1
 cases f with
 | done f=>
  obtain⟨e,acc,c,hl,q⟩:=y
  cases e
  exact wpAny_bind (wpAny_load hl (wpAny_pure q))
 | again c'=>
  refine⟨y.1,codeAny_mono y.2 fun r s2 ⟨e,acc,c,hl,q⟩=>?_⟩
  subst e
  exact wpAny_bind (wpAny_load hl (wpAny_pure q))
theorem z627 {Q:Value→Shared→Prop}(hs:SAt s.heap a es ep t) (hf:t.fits es.size=true) (tk:Tok (ledW w) t) (hz:es.size < 64) (hh:A.handled=none) (hI:∀ vs:List Value,vs.Perm (esV es.toList)→∃ ns,IntsAre vs ns)
  (h:∀ (h':Heap) tk d (b e:Nat) (vs:List Value) (ns:List Int) (out:Array Value) (ms:List Int),(∀ b o,s.heap.get? b=some o→h'.get? b=some o)→s.heap.objs.size≤b→h'.get? b=some (seqObj "list" out e)→IntsAre out.toList ms→vs.Perm (esV es.toList)→IntsAre vs ns→ms.Perm ns→ms.Pairwise (·≤·)→Q (.ref b) { s with heap:=h',toks:=tk,drawn:=d }):
  wpAny (model prog w) A (call (.builtin "sorted") [.ref a]) Q E s:=by
 refine Calls.call_function_entry kind_sorted plain_sorted entry_sorted (args_sorted1 (.ref a)) (show wpAny _ _ (Builtin.«sorted» _) _ _ _ from ?_)
 unfold Builtin.«sorted»
 refine wpAny_bind (m:=checkCount "sorted" 1 1 _) (wpAny_pure (wpAny_bind (z556 hs hf tk (Nat.lt_trans hz (by decide)) hh fun h1 tk' d vs hk le pv=>wpAny_bind (wpAny_newList ?_ (by rw [pv.length_eq,sizeLine_eq];simp [esV];omega)))))
 have lv:vs.length < 64:=by rw [pv.length_eq];simpa [esV] using hz
 obtain⟨ns,hn⟩:=hI vs pv
 have hoL:(h1.push (seqObj "list" vs.toArray 0)).get? h1.objs.size=some (seqObj "list" vs.toArray 0):=Heap.get?_push_size _ rfl
 refine wpAny_bind (wpAny_holding (wpAny_call_entry slot_list_sort ⟨_,hoL,rfl⟩ entry_list_sort (list_sort_tree hoL hn lv fun out ms p1 p2 p3=>⟨.none,rfl,wpAny_pure ⟨_,rfl,?_⟩⟩) (args_list_sort _)))
 obtain⟨e,he⟩:=sortedHeap_at (vs:=vs) (out:=out) hoL
 refine h _ tk' d _ e vs ns out ms (fun b o hb=>?_) (Nat.le_of_lt le) he p1 pv hn p2 p3
 have l1:=Heap.lt_size (hk b o hb)
 rw [sortedHeap_old (Nat.ne_of_lt l1) (by rw [size_push'];exact Nat.lt_succ_of_lt l1)]
 exact Heap.get?_push_of_some _ (hk b o hb)
end
end L2
set_option Elab.async false
set_option linter.all false
set_option maxRecDepth 100000
namespace L2
open PySem PySem.Spec PyProof.Rows PySem.W
theorem Inv.drew {X:Cx}{pins:List (Addr × Obj)}{σ:St}{H:Hp}{s:Shared}{d:Drawn}(I:Inv X pins σ H s):Inv X pins σ H { s with drawn:=d }:=⟨I.ok,I.os,I.bare,I.base,I.loc,I.cell,I.free,I.freeC,I.pin,I.hok,I.len⟩
theorem cover:∀ {l m:List Int},l.Nodup→(∀ x∈l,x∈m)→m.length≤l.length→l.Perm m
 | [],m,_,_,hl=>by
  have:m=[]:=List.eq_nil_of_length_eq_zero (by simpa using hl)
  rw [this]
 | x::l,m,nd,h,hl=>by
  have hx:=h x List.mem_cons_self
  obtain⟨n1,n2⟩:=List.nodup_cons.mp nd
  have e:=List.length_erase_of_mem hx
  have p0:0 < m.length:=List.length_pos_of_mem hx
  refine((cover (m:=m.erase x) n2 (fun y hy=>(List.mem_erase_of_ne (show y≠x from fun z=>n1 (by rw [← z];exact hy))).mpr (h y (List.mem_cons_of_mem _ hy))) (by simp only [List.length_cons] at hl;omega)).cons x).trans (List.perm_cons_erase hx).symm
theorem z265 (val:Nat→Int):∀ i,(firstMet val i).Nodup
 | 0=>List.nodup_nil
 | i + 1=>by
  rw [firstMet_succ]
  unfold step_dedup
  split
  ·exact z265 val i
  ·rename_i h
   refine List.nodup_append.mpr ⟨z265 val i,by simp,fun a ha b hb e=>h ?_⟩
   rw [List.mem_singleton.mp hb] at e
   exact List.any_eq_true.mpr ⟨a,ha,by simp [e]⟩
theorem z788 {ns:List Int}{k:Int}:k∈firstMet (fun i=>ns.getD i 0) ns.length↔k∈ns:=by
 have h:=firstMet_any (fun i=>ns.getD i 0) ns.length k
 have e:(List.range ns.length).map (fun i=>ns.getD i 0)=ns:=by
  apply List.ext_getElem
  ·simp
  ·intro i h1 h2
   simp [h2]
 rw [e] at h
 have m:∀ l:List Int,k∈l↔l.any (· == k)=true:=fun l=>by simp [List.any_eq_true]
 rw [m,m,h]
theorem z812 {prog:Program}{w:World}{es:List (Int × Value)} (h:ElemsOf (intKind prog w) es):∀ vs:List Value,vs.Perm (esV es)→∃ ns,IntsAre vs ns:=fun vs pv=>by
 have all:∀ v∈vs,∃ k t,v=.int k t:=fun v hv=>by
  obtain⟨e,he,rfl⟩:=List.mem_map.mp (pv.mem_iff.mp hv)
  obtain⟨⟨k,hk,_⟩,_⟩:=h e he
  obtain⟨t,ht⟩:=Value.isInt_shape hk
  exact⟨k,t,ht⟩
 clear pv
 induction vs with
 | nil=>exact⟨[],.nil⟩
 | cons v vs ih=>
  obtain⟨k,t,rfl⟩:=all v List.mem_cons_self
  obtain⟨ns,hn⟩:=ih fun x hx=>all x (List.mem_cons_of_mem _ hx)
  exact⟨k::ns,.cons k t hn⟩
theorem ints_in {vs:List Value}{ns:List Int}(h:IntsAre vs ns) (k:Int):k∈ns↔∃ t,Value.int k t∈vs:=by
 induction h with
 | nil=>simp
 | cons i t h ih=>
  rw [List.mem_cons,ih]
  constructor
  ·rintro(rfl | ⟨t',h'⟩)
   ·exact⟨t,List.mem_cons_self⟩
   ·exact⟨t',List.mem_cons_of_mem _ h'⟩
  ·rintro⟨t',h'⟩
   rcases List.mem_cons.mp h' with e | e
   ·cases e;exact .inl rfl
   ·exact .inr ⟨t',e⟩
def z485 (K:PySem.W.Frag) (t:TA):TE:=fun σ H Q=>t σ H fun vs H1=>∃ (p:Addr) (ns:List Int),vs=[.ref p]∧SqL K H1 p (ns.map V.int)∧ns.length < 64∧∀ ms:List Int,(∀ z,z∈ms↔z∈ns)→ms.Pairwise (· < ·)→∀ l,H1 l=none→Q (.ref l) (upd H1 l (.lst (ms.map V.int)))
theorem z462 {X:Cx}{a:Expr}{ta:TA}{p np p1 pos:Pos}(hc:X.calm=true) (hl:Gl X "sorted") (hml:X.mg "sorted"=none) (hg:Gl X "set") (hm:X.mg "set"=none) (ha:PA X [a] ta)
  (hs:starEach [.Call (.Name "set" np) [a] [] p1] X.env=[(false,eval (.Call (.Name "set" np) [a] [] p1) X.env)]) (hs2:starEach [a] X.env=[(false,eval a X.env)]):
  PE X (.Call (.Name "sorted" p) [.Call (.Name "set" np) [a] [] p1] [] pos) (z485 X.K ta):=by
 intro pins s σ H Q I h
 refine wpAny_Call_Name_kw (ld_blt I hl hml PyProof.Rows.Boot.«sorted» (PyProof.Rows.callWith_builtin1 ?_ hs rfl))
 rw [hs]
 refine Calls.spliced_cons ?_
 refine Call_ (ld_blt I hg hm PyProof.Rows.Boot.«set» (PyProof.Rows.callWith_type1 (thn (ha p1 pins s σ H _ I h) fun us s1 ⟨vs,H1,I1,r1,q1⟩=>?_) (by rw [hs2];rfl) (by rfl)))
 obtain⟨l,ns,e,hq,hz,q⟩:=q1
 subst e
 obtain⟨u,rfl,rx⟩:=vals1 r1
 cases rx
 obtain⟨its,r',pl,_⟩:=I1.list hq
 have ln:=r'.length
 rw [List.length_map] at ln
 have ez:its.toArray.size=ns.length:=by rw [List.size_toArray,ln]
 refine z686 (I1.ok.hd hc) pl.isList (intsAre_of r') (by rw [ez];exact Nat.lt_of_lt_of_le (Nat.succ_lt_succ hz) (by decide)) fun h' tk hW hk=>?_
 rw [ez] at hW
 obtain⟨o,es,ep,t,ho,hex,hd,hel,hmem,hb,hf,hn,tok⟩:=hW
 have I2:Inv X pins σ H1 { s1 with heap:=h',toks:=tk }:=I1.kept (t':=tk) fun b o e=>hk b o (Heap.lt_size e) e
 have hle:=firstMet_length_le (fun i=>ns.getD i 0) ns.length
 refine Calls.spliced_nil (z627 (s:={ s1 with heap:=h',toks:=tk }) ⟨o,ho,hex.1,hd⟩ hf tok (by omega) (I2.ok.hd hc) (z812 hel) fun h2 tk2 d b e vs ns' out ms hk2 ha2 ho2 i1 pv i2 pm ps=>?_)
 have mem:∀ z,z∈ns'↔z∈firstMet (fun i=>ns.getD i 0) ns.length:=fun z=>by
  rw [ints_in i2]
  have hz':=hmem z
  unfold anyMet at hz'
  have e1:z∈firstMet (fun i=>ns.getD i 0) ns.length↔((firstMet (fun i=>ns.getD i 0) ns.length).any (· == z))=true:=by simp [List.any_eq_true]
  rw [e1,hz']
  constructor
  ·rintro⟨t',hv⟩
   obtain⟨en,hen,ee⟩:=List.mem_map.mp (pv.mem_iff.mp hv)
   exact⟨en,hen,by rw [ee];exact intKind_is _ _ _ _⟩
  ·rintro⟨en,hen,his⟩
   obtain⟨t',ht'⟩:=Value.isInt_shape his
   exact⟨t',pv.mem_iff.mpr (List.mem_map.mpr ⟨en,hen,ht'⟩)⟩
 have len':ns'.length=(firstMet (fun i=>ns.getD i 0) ns.length).length:=by
  rw [← i2.length,pv.length_eq,← hn]
  simp [esV]
 have nd:ns'.Nodup:=(cover (z265 _ _) (fun x hx=>(mem x).mpr hx) (by omega)).nodup_iff.mp (z265 _ _)
 have nd2:ms.Nodup:=pm.nodup_iff.mpr nd
 have ml:=pm.length_eq
 have I3:Inv X pins σ H1 { s1 with heap:=h',toks:=tk,drawn:=d }:=I2.drew
 exact⟨.ref b,_,I3.sorted (tk:=tk2) hk2 ha2 i1 (by rw [sizeLine_eq];omega) ho2,rfl,q ms (fun z=>pm.mem_iff.trans ((mem z).trans z788)) ((ps.and nd2).imp fun⟨x,y⟩=>by omega) _ (I3.hok.fresh ha2)⟩
end L2
set_option linter.all false
namespace Dj
section
variable {st:Int→List (Int × Int)}{C G:List Int}
theorem Reach.least (hw:Pos st){c:Int}:∀ (k:Nat){n:Int},n.toNat≤k→Reach st C G c n→∃ m,Least st C G c m
 | 0,n,hk,h=>⟨n,h,fun m hm=>by
   have:=h.nn hw
   have:=hm.nn hw
   omega⟩
 | k + 1,n,hk,h=>by
  by_cases e:∃ m,Reach st C G c m∧m < n
  ·obtain⟨m,hm,lt⟩:=e
   have:=hm.nn hw
   exact hm.least hw k (by omega)
  ·exact⟨n,h,fun m hm=>by
    apply Classical.byContradiction
    intro z
    exact e ⟨m,hm,by omega⟩⟩
theorem Least.zero (hw:Pos st){c:Int}:Least st C G c 0↔c∈G:=by
 constructor
 ·rintro⟨h,_⟩
  generalize e:(0:Int)=n at h
  cases h with
  | goal h=>exact h
  | step h1 h2 h3=>
   have:=hw _ _ _ h2
   have:=h3.nn hw
   omega
 ·exact fun h=>⟨.goal h,fun m hm=>hm.nn hw⟩
theorem Least.next (hw:Pos st){c n:Int}(h:Least st C G c n) (h0:n≠0):∃ o w m,(o,w)∈st c∧Least st C G o m∧w + m=n:=by
 obtain⟨h1,h2⟩:=h
 cases h1 with
 | goal _=>exact absurd rfl h0
 | @step c o w n hc ho hr=>
  refine⟨o,w,n,ho,⟨hr,fun m hm=>?_⟩,rfl⟩
  have:=h2 _ (.step hc ho hm)
  omega
def nextOf (st:Int→List (Int × Int)) (cv:Int→Option Int) (c n:Int):List Int:=((st c).filter fun q=>decide ((cv q.1).map (q.2 + ·)=some n)).map (·.1)
variable {cv:Int→Option Int}
theorem z633 {c n o:Int}:o∈nextOf st cv c n↔∃ w m,(o,w)∈st c∧cv o=some m∧w + m=n:=by
 unfold nextOf
 rw [List.mem_map]
 constructor
 ·rintro⟨q,hq,rfl⟩
  obtain⟨h1,h2⟩:=List.mem_filter.mp hq
  obtain⟨m,hm,e⟩:=Option.map_eq_some_iff.mp (of_decide_eq_true h2)
  exact⟨q.2,m,h1,hm,e⟩
 ·rintro⟨w,m,h1,h2,h3⟩
  exact⟨(o,w),List.mem_filter.mpr ⟨h1,decide_eq_true (by show (cv o).map _=_;rw [h2,← h3];rfl)⟩,rfl⟩
inductive Walk (st:Int→List (Int × Int)) (cv:Int→Option Int):Int→List Int→Prop
 | stop {c:Int}:cv c=some 0→Walk st cv c [c]
 | go {c n o:Int}{cs:List Int}:cv c=some n→n≠0→(nextOf st cv c n).head?=some o→Walk st cv o cs→Walk st cv c (c::cs)
theorem Walk.uniq {c:Int}{xs ys:List Int}(h:Walk st cv c xs) (h':Walk st cv c ys):xs=ys:=by
 induction h generalizing ys with
 | stop h1=>
  cases h' with
  | stop _=>rfl
  | go a b _ _=>rw [h1] at a;cases a;exact absurd rfl b
 | go h1 h2 h3 _ ih=>
  cases h' with
  | stop a=>rw [h1] at a;cases a;exact absurd rfl h2
  | go a b d e=>
   rw [h1] at a
   cases a
   rw [h3] at d
   cases d
   rw [ih e]
theorem Walk.head {c:Int}{xs:List Int}(h:Walk st cv c xs):xs.head?=some c:=by
 cases h <;> rfl
theorem Walk.some {c:Int}{xs:List Int}(h:Walk st cv c xs):∀ x∈xs,(cv x).isSome=true:=by
 induction h with
 | stop h1=>intro x hx;rw [List.mem_singleton.mp hx,h1];rfl
 | go h1 _ _ _ ih=>
  intro x hx
  rcases List.mem_cons.mp hx with z | z
  ·rw [z,h1];rfl
  ·exact ih x z
theorem Walk.last {c:Int}{xs:List Int}(h:Walk st cv c xs):∃ x,xs.getLast?=Option.some x∧cv x=Option.some 0:=by
 induction h with
 | stop h1=>exact⟨_,rfl,h1⟩
 | @go c n o cs h1 _ _ hw ih=>
  obtain⟨x,hx,e⟩:=ih
  refine⟨x,?_,e⟩
  rw [List.getLast?_cons,hx]
  rfl
theorem Walk.pair {c:Int}{xs:List Int}(h:Walk st cv c xs):∀ (j:Nat){a b:Int},xs[j]?=Option.some a→xs[j + 1]?=Option.some b→∃ n,cv a=Option.some n∧n≠0∧(nextOf st cv a n).head?=Option.some b:=by
 induction h with
 | stop _=>intro j a b _ hb;simp at hb
 | @go c n o cs h1 h2 h3 hw ih=>
  intro j a b ha hb
  rw [List.getElem?_cons_succ] at hb
  cases j with
  | zero=>
   rw [List.getElem?_cons_zero] at ha
   cases ha
   have:=hw.head
   rw [List.head?_eq_getElem?,hb] at this
   cases this
   exact⟨n,h1,h2,h3⟩
  | succ j=>
   rw [List.getElem?_cons_succ] at ha
   exact ih j ha hb
theorem z679 {α:Type}{p q:α→Bool}(h:∀ x,p x=true→q x=true){a:α}(h1:p a=false) (h2:q a=true):∀ {l:List α},a∈l→(l.filter p).length < (l.filter q).length
 | [],hm=>by cases hm
 | x::l,hm=>by
  have le:∀ l:List α,(l.filter p).length≤(l.filter q).length:=fun l=>by
   rw [← List.countP_eq_length_filter,← List.countP_eq_length_filter]
   exact List.countP_mono_left fun x _ hx=>h x hx
  have ll:=le l
  rw [List.filter_cons,List.filter_cons]
  rcases List.mem_cons.mp hm with z | z
  ·subst z
   rw [if_neg (by rw [h1];decide),if_pos h2,List.length_cons]
   omega
  ·have ih:=z679 h h1 h2 z
   split <;> split
   ·rw [List.length_cons,List.length_cons];omega
   ·rename_i a b;exact absurd (h x a) b
   ·rw [List.length_cons];omega
   ·exact ih
theorem z589 {l:List Int}(hr:l.Pairwise (· < ·)){m:Int}(hm:m∈l) (hl:∀ x∈l,m≤x):l.head?=some m:=by
 cases l with
 | nil=>cases hm
 | cons a l=>
  rw [List.pairwise_cons] at hr
  have h1:=hl a List.mem_cons_self
  rcases List.mem_cons.mp hm with z | z
  ·rw [z];rfl
  ·have:=hr.1 m z
   omega
theorem z723 (hr:((st c).map (·.1)).Pairwise (· < ·)){n:Int}:(nextOf st cv c n).Pairwise (· < ·):=by
 unfold nextOf
 rw [List.pairwise_map] at hr ⊢
 exact hr.filter _
theorem z749:∀ {xs ys:List Int},xs.Pairwise (· < ·)→ys.Pairwise (· < ·)→(∀ z,z∈xs↔z∈ys)→xs=ys
 | [],[],_,_,_=>rfl
 | [],y::ys,_,_,h=>by have:=(h y).mpr List.mem_cons_self;cases this
 | x::xs,[],_,_,h=>by have:=(h x).mp List.mem_cons_self;cases this
 | x::xs,y::ys,hx,hy,h=>by
  rw [List.pairwise_cons] at hx hy
  have e:x=y:=by
   rcases List.mem_cons.mp ((h x).mp List.mem_cons_self) with z | z
   ·exact z
   ·rcases List.mem_cons.mp ((h y).mpr List.mem_cons_self) with z2 | z2
    ·exact z2.symm
    ·have:=hy.1 x z
     have:=hx.1 y z2
     omega
  subst e
  rw [z749 hx.2 hy.2 fun z=>⟨fun hz=>?_,fun hz=>?_⟩]
  ·rcases List.mem_cons.mp ((h z).mp (List.mem_cons_of_mem _ hz)) with q | q
   ·have:=hx.1 z hz
    omega
   ·exact q
  ·rcases List.mem_cons.mp ((h z).mpr (List.mem_cons_of_mem _ hz)) with q | q
   ·have:=hy.1 z hz
    omega
   ·exact q
theorem z714 {xs ys zs:List Int}(hp:xs.Perm zs) (hs:xs.Pairwise (·≤·)) (nd:zs.Nodup) (hy:ys.Pairwise (· < ·)) (h:∀ z,z∈zs↔z∈ys):xs=ys:=by
 refine z749 ?_ hy fun z=>by rw [hp.mem_iff,h]
 have nx:xs.Nodup:=hp.nodup_iff.mpr nd
 exact hs.imp₂ (fun _ _ a b=>by omega) nx
end
end Dj
set_option Elab.async false
set_option linter.all false
set_option maxRecDepth 100000
namespace Pf
open PySem L2
def top (i:Nat):Stmt:=PySem.Challenge.pw_floorways_k09_whole_needs_walked.main.body.getD i (.Pass ⟨0,0,0,0⟩)
abbrev s_q26:Stmt:=inClass (top 8) 0
abbrev s_q34:Stmt:=inClass (top 8) 1
abbrev s_q20:Stmt:=inClass (top 8) 2
abbrev s_q27:Stmt:=inClass (top 8) 3
abbrev s_q28:Stmt:=inClass (top 8) 4
abbrev s_q5:Stmt:=inClass (top 8) 6
abbrev s_q4:Stmt:=inClass (top 8) 7
abbrev s_q1:Stmt:=inClass (top 8) 8
abbrev s_q29:Stmt:=inClass (top 8) 9
abbrev s_q21:Stmt:=top 10
abbrev s_q6:Stmt:=top 11
abbrev s_q35:Stmt:=top 12
abbrev s_q36:Stmt:=top 13
abbrev s_q37:Stmt:=top 14
abbrev s_q22:Stmt:=top 15
abbrev s_q38:Stmt:=top 17
abbrev s_q39:Stmt:=top 18
abbrev s_q30:Stmt:=top 27
abbrev s_q16:Stmt:=top 28
abbrev s_q23:Stmt:=inClass (top 29) 0
abbrev s_q31:Stmt:=inClass (top 29) 1
abbrev s_q24:Stmt:=inClass (top 29) 2
abbrev s_q9:Stmt:=inClass (top 29) 3
abbrev s_q32:Stmt:=inClass (top 29) 4
abbrev s_q17:Stmt:=inClass (top 29) 5
abbrev s_q7:Stmt:=inClass (top 29) 6
abbrev s_q10:Stmt:=inClass (top 29) 7
abbrev s_q11:Stmt:=inClass (top 34) 0
abbrev s_q12:Stmt:=inClass (top 34) 1
abbrev s_q2:Stmt:=inClass (top 34) 2
abbrev s_q13:Stmt:=inClass (top 34) 4
abbrev s_q8:Stmt:=inClass (top 34) 6
abbrev s_q0:Stmt:=inClass (top 34) 8
abbrev s_q33:Stmt:=inClass (top 35) 0
abbrev s_q14:Stmt:=inClass (top 36) 0
abbrev s_q3:Stmt:=inClass (top 36) 1
abbrev s_q15:Stmt:=inClass (top 36) 3
abbrev s_q18:Stmt:=inClass (top 37) 0
abbrev s_q19:Stmt:=inClass (top 37) 2
abbrev s_q25:Stmt:=top 38
abbrev s_Lat:Stmt:=top 40
abbrev s_q44:Stmt:=top 41
abbrev s_q45:Stmt:=top 42
abbrev s_q46:Stmt:=top 43
abbrev z139:Stmt:=top 44
abbrev s_q47:Stmt:=top 45
abbrev s_q40:Stmt:=top 46
abbrev s_q41:Stmt:=top 47
abbrev z68:Stmt:=top 48
abbrev s_q48:Stmt:=top 49
abbrev s_q42:Stmt:=top 50
abbrev s_q43:Stmt:=top 51
abbrev z12:Stmt:=top 52
abbrev s_law:Stmt:=top 53
structure Ad where
 q26:Addr
 q34:Addr
 q20:Addr
 q27:Addr
 q28:Addr
 q5:Addr
 q4:Addr
 q1:Addr
 q29:Addr
 q21:Addr
 q6:Addr
 q35:Addr
 q36:Addr
 q37:Addr
 q22:Addr
 q38:Addr
 q39:Addr
 q30:Addr
 q16:Addr
 q23:Addr
 q31:Addr
 q24:Addr
 q9:Addr
 q32:Addr
 q17:Addr
 q7:Addr
 q10:Addr
 q11:Addr
 q12:Addr
 q2:Addr
 q13:Addr
 q8:Addr
 q0:Addr
 q33:Addr
 q14:Addr
 q3:Addr
 q15:Addr
 q18:Addr
 q19:Addr
 q25:Addr
 Lat:Addr
 q44:Addr
 q45:Addr
 q46:Addr
 Lsign:Addr
 q47:Addr
 q40:Addr
 q41:Addr
 Lcost:Addr
 q48:Addr
 q42:Addr
 q43:Addr
 Leach:Addr
 law:Addr
 C_Floor:Addr
 C_Cart:Addr
 C_Crawler:Addr
 C_Runner:Addr
 C_Carrier:Addr
 C_Heap:Addr
 K_KINDS:Addr
 K_COMMON_SIGNS:Addr
structure Txt (K:PySem.W.Frag) (mg:Str→Option Value) (ad:Ad):Prop where
 b_len:mg "len"=none
 b_range:mg "range"=none
 b_isinstance:mg "isinstance"=none
 b_all:mg "all"=none
 b_int:mg "int"=none
 b_bool:mg "bool"=none
 b_str:mg "str"=none
 b_list:mg "list"=none
 b_tuple:mg "tuple"=none
 b_dict:mg "dict"=none
 b_min:mg "min"=none
 b_max:mg "max"=none
 b_set:mg "set"=none
 b_sorted:mg "sorted"=none
 b_zip:mg "zip"=none
 c_WALL:∃ u,mg "WALL"=some u∧RelV (V.str (Str.ofString "#")) u
 c_CHARGER:∃ u,mg "CHARGER"=some u∧RelV (V.str (Str.ofString "+")) u
 c_ROUGH:∃ u,mg "ROUGH"=some u∧RelV (V.str (Str.ofString "~")) u
 c_LANE:∃ u,mg "LANE"=some u∧RelV (V.str (Str.ofString "|")) u
 c_SIGNS:∃ u,mg "SIGNS"=some u∧RelV (V.str (Str.ofString ".#+~|")) u
 c_MOST_ROWS:∃ u,mg "MOST_ROWS"=some u∧RelV (V.int 10) u
 c_MOST_SIGNS:∃ u,mg "MOST_SIGNS"=some u∧RelV (V.int 10) u
 c_KINDS:∃ u,mg "KINDS"=some u∧RelV (.ref ad.K_KINDS) u
 c_MOST_FULL:∃ u,mg "MOST_FULL"=some u∧RelV (V.int 60) u
 c_COMMON_SIGNS:∃ u,mg "COMMON_SIGNS"=some u∧RelV (.ref ad.K_COMMON_SIGNS) u
 m_q34:Meth K ad.C_Heap "put" ad.q34
 m_q20:Meth K ad.C_Heap "least" ad.q20
 m_q27:Meth K ad.C_Heap "take" ad.q27
 m_q28:Meth K ad.C_Heap "size" ad.q28
 m_q5:Meth K ad.C_Heap "lift_last" ad.q5
 m_q4:Meth K ad.C_Heap "sink_first" ad.q4
 m_q1:Meth K ad.C_Heap "lesser_below" ad.q1
 m_q29:Meth K ad.C_Heap "swap" ad.q29
 mg_q21:mg "steps_into"=some (.ref ad.q21)
 k_q21:PySem.W.keepIn K (.ref ad.q21)=true
 mg_q6:mg "standing_cells"=some (.ref ad.q6)
 k_q6:PySem.W.keepIn K (.ref ad.q6)=true
 mg_q35:mg "costs_to"=some (.ref ad.q35)
 k_q35:PySem.W.keepIn K (.ref ad.q35)=true
 mg_q36:mg "needs_of"=some (.ref ad.q36)
 k_q36:PySem.W.keepIn K (.ref ad.q36)=true
 mg_q37:mg "cheapest"=some (.ref ad.q37)
 k_q37:PySem.W.keepIn K (.ref ad.q37)=true
 mg_q22:mg "least_next"=some (.ref ad.q22)
 k_q22:PySem.W.keepIn K (.ref ad.q22)=true
 mg_q38:mg "is_whole"=some (.ref ad.q38)
 k_q38:PySem.W.keepIn K (.ref ad.q38)=true
 mg_q39:mg "is_among"=some (.ref ad.q39)
 k_q39:PySem.W.keepIn K (.ref ad.q39)=true
 mg_q30:mg "check_row"=some (.ref ad.q30)
 k_q30:PySem.W.keepIn K (.ref ad.q30)=true
 mg_q16:mg "check_floor"=some (.ref ad.q16)
 k_q16:PySem.W.keepIn K (.ref ad.q16)=true
 m_q31:Meth K ad.C_Floor "has" ad.q31
 m_q24:Meth K ad.C_Floor "sign" ad.q24
 m_q9:Meth K ad.C_Floor "column" ad.q9
 m_q32:Meth K ad.C_Floor "row" ad.q32
 m_q17:Meth K ad.C_Floor "cells" ad.q17
 m_q7:Meth K ad.C_Floor "chargers" ad.q7
 m_q10:Meth K ad.C_Floor "beside" ad.q10
 m_q12:Meth K ad.C_Carrier "kind" ad.q12
 m_q2:Meth K ad.C_Carrier "may_stand" ad.q2
 m_q13:Meth K ad.C_Carrier "fare" ad.q13
 m_q8:Meth K ad.C_Carrier "steps" ad.q8
 m_q0:Meth K ad.C_Carrier "fare_if_standing" ad.q0
 m_q33:Meth K ad.C_Cart "kind" ad.q33
 m_q14:Meth K ad.C_Crawler "kind" ad.q14
 m_q3:Meth K ad.C_Crawler "may_stand" ad.q3
 m_q15:Meth K ad.C_Crawler "fare" ad.q15
 m_q18:Meth K ad.C_Runner "kind" ad.q18
 m_q19:Meth K ad.C_Runner "fare" ad.q19
 mg_q25:mg "carrier_of"=some (.ref ad.q25)
 k_q25:PySem.W.keepIn K (.ref ad.q25)=true
 mg_Lat:mg "_law_at"=some (.ref ad.Lat)
 k_Lat:PySem.W.keepIn K (.ref ad.Lat)=true
 mg_q44:mg "_law_mixed"=some (.ref ad.q44)
 k_q44:PySem.W.keepIn K (.ref ad.q44)=true
 mg_q45:mg "_law_whole"=some (.ref ad.q45)
 k_q45:PySem.W.keepIn K (.ref ad.q45)=true
 mg_q46:mg "_law_lines"=some (.ref ad.q46)
 k_q46:PySem.W.keepIn K (.ref ad.q46)=true
 mg_Lsign:mg "_law_sign"=some (.ref ad.Lsign)
 k_Lsign:PySem.W.keepIn K (.ref ad.Lsign)=true
 mg_q47:mg "_law_cells"=some (.ref ad.q47)
 k_q47:PySem.W.keepIn K (.ref ad.q47)=true
 mg_q40:mg "_law_beside"=some (.ref ad.q40)
 k_q40:PySem.W.keepIn K (.ref ad.q40)=true
 mg_q41:mg "_law_stands"=some (.ref ad.q41)
 k_q41:PySem.W.keepIn K (.ref ad.q41)=true
 mg_Lcost:mg "_law_cost"=some (.ref ad.Lcost)
 k_Lcost:PySem.W.keepIn K (.ref ad.Lcost)=true
 mg_q48:mg "_law_steps"=some (.ref ad.q48)
 k_q48:PySem.W.keepIn K (.ref ad.q48)=true
 mg_q42:mg "_law_closed"=some (.ref ad.q42)
 k_q42:PySem.W.keepIn K (.ref ad.q42)=true
 mg_q43:mg "_law_walked"=some (.ref ad.q43)
 k_q43:PySem.W.keepIn K (.ref ad.q43)=true
 mg_Leach:mg "_law_each"=some (.ref ad.Leach)
 k_Leach:PySem.W.keepIn K (.ref ad.Leach)=true
 mg_law:mg "law"=some (.ref ad.law)
 k_law:PySem.W.keepIn K (.ref ad.law)=true
 mg_Floor:mg "Floor"=some (.ref ad.C_Floor)
 cl_Floor:Cls K ad.C_Floor
 n_Floor_wide:NoAttr K ad.C_Floor "wide"
 n_Floor_high:NoAttr K ad.C_Floor "high"
 n_Floor_lines:NoAttr K ad.C_Floor "lines"
 n_Floor_signs:NoAttr K ad.C_Floor "signs"
 mk_Floor:Mk K ad.C_Floor ad.q23
 mg_Cart:mg "Cart"=some (.ref ad.C_Cart)
 cl_Cart:Cls K ad.C_Cart
 n_Cart_full:NoAttr K ad.C_Cart "full"
 mk_Cart:Mk K ad.C_Cart ad.q11
 mg_Crawler:mg "Crawler"=some (.ref ad.C_Crawler)
 cl_Crawler:Cls K ad.C_Crawler
 n_Crawler_full:NoAttr K ad.C_Crawler "full"
 mk_Crawler:Mk K ad.C_Crawler ad.q11
 mg_Runner:mg "Runner"=some (.ref ad.C_Runner)
 cl_Runner:Cls K ad.C_Runner
 n_Runner_full:NoAttr K ad.C_Runner "full"
 mk_Runner:Mk K ad.C_Runner ad.q11
 mg_Carrier:mg "Carrier"=some (.ref ad.C_Carrier)
 cl_Carrier:Cls K ad.C_Carrier
 n_Carrier_full:NoAttr K ad.C_Carrier "full"
 mk_Carrier:Mk K ad.C_Carrier ad.q11
 mg_Heap:mg "Heap"=some (.ref ad.C_Heap)
 cl_Heap:Cls K ad.C_Heap
 n_Heap_things:NoAttr K ad.C_Heap "things"
 mk_Heap:Mk K ad.C_Heap ad.q26
 m_Cart_may_stand:Meth K ad.C_Cart "may_stand" ad.q2
 m_Cart_fare:Meth K ad.C_Cart "fare" ad.q13
 m_Cart_steps:Meth K ad.C_Cart "steps" ad.q8
 m_Cart_fare_if_standing:Meth K ad.C_Cart "fare_if_standing" ad.q0
 m_Crawler_steps:Meth K ad.C_Crawler "steps" ad.q8
 m_q15_if_standing:Meth K ad.C_Crawler "fare_if_standing" ad.q0
 m_Runner_may_stand:Meth K ad.C_Runner "may_stand" ad.q2
 m_Runner_steps:Meth K ad.C_Runner "steps" ad.q8
 m_q19_if_standing:Meth K ad.C_Runner "fare_if_standing" ad.q0
 cgx:PySem.W.specialIn K (.builtin "object.__class__") "__get__"=some (some (.builtin "getset_descriptor.__get__"))
 ctx:PySem.W.takesIn K (.builtin "object.__class__")=some true
 ca_Cart:PySem.W.findIn K (.ref ad.C_Cart) "__class__"=some (some (.builtin "object.__class__"))
 cm_Cart:PySem.W.mroIn K ad.C_Cart (.type "object")=some true
 is_Cart_Carrier:PySem.W.kitOne K (.ref ad.C_Cart) (.ref ad.C_Carrier)=some true
 is_Cart_Cart:PySem.W.kitOne K (.ref ad.C_Cart) (.ref ad.C_Cart)=some true
 is_Cart_Crawler:PySem.W.kitOne K (.ref ad.C_Cart) (.ref ad.C_Crawler)=some false
 is_Cart_Runner:PySem.W.kitOne K (.ref ad.C_Cart) (.ref ad.C_Runner)=some false
 ca_Crawler:PySem.W.findIn K (.ref ad.C_Crawler) "__class__"=some (some (.builtin "object.__class__"))
 cm_Crawler:PySem.W.mroIn K ad.C_Crawler (.type "object")=some true
 is_Crawler_Carrier:PySem.W.kitOne K (.ref ad.C_Crawler) (.ref ad.C_Carrier)=some true
 is_Crawler_Cart:PySem.W.kitOne K (.ref ad.C_Crawler) (.ref ad.C_Cart)=some false
 is_Crawler_Crawler:PySem.W.kitOne K (.ref ad.C_Crawler) (.ref ad.C_Crawler)=some true
 is_Crawler_Runner:PySem.W.kitOne K (.ref ad.C_Crawler) (.ref ad.C_Runner)=some false
 ca_Runner:PySem.W.findIn K (.ref ad.C_Runner) "__class__"=some (some (.builtin "object.__class__"))
 cm_Runner:PySem.W.mroIn K ad.C_Runner (.type "object")=some true
 is_Runner_Carrier:PySem.W.kitOne K (.ref ad.C_Runner) (.ref ad.C_Carrier)=some true
 is_Runner_Cart:PySem.W.kitOne K (.ref ad.C_Runner) (.ref ad.C_Cart)=some false
 is_Runner_Crawler:PySem.W.kitOne K (.ref ad.C_Runner) (.ref ad.C_Crawler)=some false
 is_Runner_Runner:PySem.W.kitOne K (.ref ad.C_Runner) (.ref ad.C_Runner)=some true
 ca_Carrier:PySem.W.findIn K (.ref ad.C_Carrier) "__class__"=some (some (.builtin "object.__class__"))
 cm_Carrier:PySem.W.mroIn K ad.C_Carrier (.type "object")=some true
 is_Carrier_Carrier:PySem.W.kitOne K (.ref ad.C_Carrier) (.ref ad.C_Carrier)=some true
 is_Carrier_Cart:PySem.W.kitOne K (.ref ad.C_Carrier) (.ref ad.C_Cart)=some false
 is_Carrier_Crawler:PySem.W.kitOne K (.ref ad.C_Carrier) (.ref ad.C_Crawler)=some false
 is_Carrier_Runner:PySem.W.kitOne K (.ref ad.C_Carrier) (.ref ad.C_Runner)=some false
 kt_KINDS:∀ H,SqT K H ad.K_KINDS [V.str (Str.ofString "cart"),V.str (Str.ofString "crawler"),V.str (Str.ofString "runner")]
 kt_COMMON_SIGNS:∀ H,SqT K H ad.K_COMMON_SIGNS [V.str (Str.ofString "."),V.str (Str.ofString "+"),V.str (Str.ofString "|")]
def isI:V→Bool
 | .int _=>true
 | _=>false
def isIB:V→Bool
 | .int _=>true
 | .bl _=>true
 | _=>false
def isB:V→Bool
 | .bl _=>true
 | _=>false
def TyB (K:PySem.W.Frag) (H:Hp) (x:V):Prop:=∃ n,TyOf K H x (.type n)
theorem z747 {K:PySem.W.Frag}{H:Hp}{x:V}{n:String}(h:TyOf K H x (.type n)):PySem.W.kitOne K (.type n) (.type "int")=some (isIB x):=by
 cases h <;> rfl
theorem z601 {K:PySem.W.Frag}{H:Hp}{x:V}{n:String}(h:TyOf K H x (.type n)):PySem.W.kitOne K (.type n) (.type "bool")=some (isB x):=by
 cases h <;> rfl
def z367 (K:PySem.W.Frag):Sp:=fun vs H Q _=>∃ x,vs=[x]∧TyB K H x∧Q (.bl (isI x)) H
theorem y3 {t u:TS}{D:Ends}{σ:St}{H:Hp}(M:St→Hp→Prop) (h1:∀ nx:St→Hp→Prop,(∀ σ' H',M σ' H'→nx σ' H')→t { D with nx:=nx } σ H) (h2:∀ σ' H',M σ' H'→u D σ' H'):tSeq t u D σ H:=h1 (u D) h2
def amg:V→Int→Int→Bool
 | .int i,lo,hi=>decide (lo≤i) && decide (i≤hi)
 | _,_,_=>false
def z420 (K:PySem.W.Frag):Sp:=fun vs H Q _=>∃ x lo hi,vs=[x,.int lo,.int hi]∧TyB K H x∧Q (.bl (amg x lo hi)) H
def spAt (K:PySem.W.Frag):Sp:=fun vs H Q _=>∃ (a:Addr) (ns:List Int) (k:Int),vs=[.ref a,.int k]∧SqL K H a (ns.map V.int)∧ns.length≤63∧0≤k∧k≤1000∧∀ r:Int,0≤r→r < 2147483647→Q (.int r) H
open Fl
def flds (w h:Nat) (l:Addr) (sg:List Nat):List (Str × V):=putF "signs" (.str (txt sg)) (putF "lines" (.ref l) (putF "high" (.int (h:Int)) (putF "wide" (.int (w:Int)) [])))
theorem f_wide (w h:Nat) (l:Addr) (sg:List Nat):(flds w h l sg).lookup ("wide":Str)=some (.int (w:Int)):=by
 unfold flds
 rw [lookup_putF,if_neg (by decide +kernel),lookup_putF,if_neg (by decide +kernel),lookup_putF,if_neg (by decide +kernel),lookup_putF,if_pos rfl]
theorem z364 (w h:Nat) (l:Addr) (sg:List Nat):(flds w h l sg).lookup ("signs":Str)=some (.str (txt sg)):=by
 unfold flds
 rw [lookup_putF,if_pos rfl]
theorem f_no (w h:Nat) (l:Addr) (sg:List Nat){m:Str}(h1:¬ m="signs") (h2:¬ m="lines") (h3:¬ m="high") (h4:¬ m="wide"):(flds w h l sg).lookup m=none:=by
 unfold flds
 rw [lookup_putF,if_neg h1,lookup_putF,if_neg h2,lookup_putF,if_neg h3,lookup_putF,if_neg h4]
 rfl
def z67 (H:Hp) (l:Addr) (w h:Nat) (sg:List Nat):Prop:=H l=some (.lst ((linesOf w h sg).map V.str))
structure z45 (C:Addr) (H:Hp) (p:Addr) (w h:Nat) (sg:List Nat):Prop where
 ob:∃ dx l,H p=some (.ins C dx (flds w h l sg))∧z67 H l w h sg
theorem z45.same {C:Addr}{H H':Hp}{p:Addr}{w h:Nat}{sg:List Nat}(F:z45 C H p w h sg) (s:Same H H'):z45 C H' p w h sg:=by
 obtain⟨dx,l,h1,h2⟩:=F.ob
 exact⟨⟨dx,l,s _ _ h1,s _ _ h2⟩⟩
theorem z794 {c:Nat}(h:sgOk c):c∈(Str.ofString ".#+~|").cps.toList:=by
 have e:(Str.ofString ".#+~|").cps.toList=[46,35,43,126,124]:=by decide +kernel
 rw [e]
 rcases h with z | z | z | z | z <;> simp [z]
def inSg:V→V
 | .str z=>.bl (decide (z.cps.getD 0 0∈(Str.ofString ".#+~|").cps.toList))
 | _=>.bl false
def isWall:V→V
 | .str z=>.bl (decide (z=Str.ofString "#"))
 | _=>.bl false
theorem z489 (c:Nat):((⟨#[c]⟩:Str)=Str.ofString "#")↔c=35:=by
 have e:(Str.ofString "#").cps=#[35]:=by decide +kernel
 constructor
 ·intro h
  have:=congrArg Str.cps h
  rw [e] at this
  simpa using this
 ·intro h
  subst h
  exact z213 (by rw [e])
theorem z790 (c:Nat):((⟨#[c]⟩:Str)=Str.ofString "+")↔c=43:=by
 have e:(Str.ofString "+").cps=#[43]:=by decide +kernel
 constructor
 ·intro h
  have:=congrArg Str.cps h
  rw [e] at this
  simpa using this
 ·intro h
  subst h
  exact z213 (by rw [e])
theorem at_txt {sg:List Nat}{c:Int}(c0:0≤c) (c1:c < sg.length):atI (txt sg).cps.toList c=some (at_ sg c):=by
 obtain⟨j,rfl⟩:=Int.eq_ofNat_of_zero_le c0
 have hj:j < sg.length:=by omega
 refine atI_nat ?_
 rw [z71]
 unfold at_
 simp [hj]
def isCh (sg:List Nat):V→Bool
 | .int i=>decide (at_ sg i=43)
 | _=>false
def noWall (sg:List Nat):V→Bool
 | .int i=>!decide (at_ sg i=35)
 | _=>false
def lineV (w:Nat) (sg:List Nat):V→V
 | .int i=>.str (Txt.slice (txt sg) (some ((w:Int) * i)) (some ((w:Int) * i + (w:Int))))
 | v=>v
def spRow:Sp:=fun vs H Q _=>∃ (x:Str) (n:Nat),vs=[.str x,.int (n:Int)]∧x.length=n∧n≤10∧(∀ c∈x.cps.toList,sgOk c)∧∀ H',Same H H'→Q .non H'
def z638:Sp:=fun vs H Q _=>∃ (l:Addr) (w h:Nat) (sg:List Nat),vs=[.ref l]∧z67 H l w h sg∧Good w h sg∧∀ H',Same H H'→Q .non H'
def spInit (C:Addr):Sp:=fun vs H Q _=>∃ (p dx l:Addr) (w h:Nat) (sg:List Nat),vs=[.ref p,.ref l]∧H p=some (.ins C dx [])∧z67 H l w h sg∧Good w h sg∧∀ H' dx' l2,H l2=none→H' p=some (.ins C dx' (flds w h l2 sg))→z67 H' l2 w h sg→(∀ b o,H b=some o→b≠p→H' b=some o)→Q .non H'
def spHas (K:PySem.W.Frag) (C:Addr):Sp:=fun vs H Q _=>∃ (p:Addr) (w h:Nat) (sg:List Nat) (x:V),vs=[.ref p,x]∧z45 C H p w h sg∧Good w h sg∧TyB K H x∧Q (.bl (hasV sg x)) H
def spSign (C:Addr):Sp:=fun vs H Q _=>∃ (p:Addr) (w h:Nat) (sg:List Nat) (c:Int),vs=[.ref p,.int c]∧z45 C H p w h sg∧Good w h sg∧0≤c∧c < sg.length∧Q (chr1 (at_ sg c)) H
def spCol (C:Addr):Sp:=fun vs H Q _=>∃ (p:Addr) (w h:Nat) (sg:List Nat) (c:Int),vs=[.ref p,.int c]∧z45 C H p w h sg∧Good w h sg∧Q (.int (c % w)) H
def z613 (C:Addr):Sp:=fun vs H Q _=>∃ (p:Addr) (w h:Nat) (sg:List Nat) (c:Int),vs=[.ref p,.int c]∧z45 C H p w h sg∧Good w h sg∧Q (.int (c / w)) H
def Gives (H:Hp) (Q:VK) (xs:List Int):Prop:=∀ r H',H r=none→Same H H'→H' r=some (.lst (xs.map V.int))→Q (.ref r) H'
def z504 (C:Addr):Sp:=fun vs H Q _=>∃ (p:Addr) (w h:Nat) (sg:List Nat),vs=[.ref p]∧z45 C H p w h sg∧Good w h sg∧Gives H Q (cellsOf sg)
def z275 (C:Addr):Sp:=fun vs H Q _=>∃ (p:Addr) (w h:Nat) (sg:List Nat),vs=[.ref p]∧z45 C H p w h sg∧Good w h sg∧Gives H Q (z19 sg)
def z459 (C:Addr):Sp:=fun vs H Q _=>∃ (p:Addr) (w h:Nat) (sg:List Nat) (c:Int),vs=[.ref p,.int c]∧z45 C H p w h sg∧Good w h sg∧Gives H Q (z24 w sg c)
def z591:Sp:=fun vs H Q _=>∃ (c k:Int),vs=[.int c,.int k]∧0≤c∧c < 2147483647∧0≤k∧k≤1000∧∀ r:Int,0≤r→r < 2147483647→Q (.int r) H
def z625 (K:PySem.W.Frag):Sp:=fun vs H Q _=>∃ (a:Addr) (ns:List Int) (k m:Int),vs=[.ref a,.int k,.int m]∧SqL K H a (ns.map V.int)∧ns.length≤63∧0≤k∧k≤100∧1≤m∧m≤10∧∀ l H' w h sg,H l=none→Same H H'→z67 H' l w h sg→Good w h sg→(w:Int)≤m→(h:Int)≤m→Q (.ref l) H'
def z443:Sp:=fun vs H Q _=>∃ (l:Addr) (w h:Nat) (sg:List Nat) (c:Int),vs=[.ref l,.int c]∧z67 H l w h sg∧Good w h sg∧0≤c∧c < sg.length∧Q (chr1 (at_ sg c)) H
def z381:Sp:=fun vs H Q _=>∃ (l:Addr) (w h:Nat) (sg:List Nat),vs=[.ref l]∧z67 H l w h sg∧Good w h sg∧Gives H Q (cellsOf sg)
def z389:Sp:=fun vs H Q _=>∃ (l:Addr) (w h:Nat) (sg:List Nat) (c:Int),vs=[.ref l,.int c]∧z67 H l w h sg∧Good w h sg∧0≤c∧c < sg.length∧Gives H Q (z158 w sg c)
def SameB (k:Addr) (H H':Hp):Prop:=∀ b o,H b=some o→b≠k→H' b=some o
def KeptOk (H:Hp) (k:Addr) (n:Nat):Prop:=∃ ts:List Addr,ts.length≤n∧H k=some (.lst (ts.map V.ref))∧∀ t∈ts,∃ (a b:Addr) (xs:List Int),H t=some (.tup [.ref a,.ref b])∧H a=some (.lst (xs.map V.int))∧H b=some (.lst (xs.map V.int))∧a≠k∧b≠k∧xs.length≤1000
def KeptNo (H:Hp) (k x:Addr):Prop:=∀ ts:List Addr,H k=some (.lst (ts.map V.ref))→∀ t∈ts,∀ a b,H t=some (.tup [.ref a,.ref b])→a≠x∧b≠x
theorem z224 (sg:List Nat):z19 sg=(cellsOf sg).filter fun i=>decide (at_ sg i=43):=by
 unfold z19 cellsOf
 rw [List.filter_filter]
 refine List.filter_congr fun i _=>?_
 by_cases h:at_ sg i=43
 ·rw [decide_eq_true h,h]
  decide
 ·rw [decide_eq_false h]
  rfl
theorem z264 {w h:Nat}{sg:List Nat}(g:Good w h sg):(cellsOf sg).length≤100:=by
 have:=len100 g
 unfold cellsOf places
 refine Nat.le_trans (List.length_filter_le _ _) ?_
 rw [List.length_map,List.length_range];omega
theorem z298 {w h:Nat}{sg:List Nat}(g:Good w h sg):(z19 sg).length≤100:=by
 have:=len100 g
 unfold z19 places
 refine Nat.le_trans (List.length_filter_le _ _) ?_
 rw [List.length_map,List.length_range];omega
def kindsL:List Str:=["cart","crawler","runner","carrier"]
def clsOf (ad:Ad):Nat→Addr
 | 0=>ad.C_Cart
 | 1=>ad.C_Crawler
 | 2=>ad.C_Runner
 | _=>ad.C_Carrier
def CarAt (ad:Ad) (H:Hp) (p:Addr) (i:Nat) (n:Int):Prop:=∃ dx,H p=some (.ins (clsOf ad i) dx (putF "full" (.int n) []))
theorem CarAt.same {ad:Ad}{H H':Hp}{p:Addr}{i:Nat}{n:Int}(s:Same H H') (h:CarAt ad H p i n):CarAt ad H' p i n:=let ⟨dx,e⟩:=h;⟨dx,s _ _ e⟩
def common (c:Nat):Bool:=decide (c=46∨c=43∨c=124)
def stands (i c:Nat):Bool:=common c || (decide (i=1) && decide (c=126))
def fareOf (i w:Nat) (sg:List Nat) (cell other:Int):Option Int:=match i with
 | 1=>some (if at_ sg other=126 then 3 else 1)
 | 2=>if cell / w=other / w then some 1 else if at_ sg cell=124∨at_ sg other=124 then some 2 else none
 | _=>some 1
def optV:Option Int→V
 | some i=>.int i
 | none=>.non
def costOf (i w:Nat) (sg:List Nat) (cell other:Int):Option Int:=if stands i (at_ sg cell) && stands i (at_ sg other) then fareOf i w sg cell other else none
def z86 (i w:Nat) (sg:List Nat) (cell other:Int):Option Int:=if stands i (at_ sg other) then fareOf i w sg cell other else none
def pairsOf (f:Int→Option Int) (os:List Int):List (Int × Int):=os.filterMap fun o=>(f o).map fun k=>(o,k)
def z13 (i w:Nat) (sg:List Nat) (cell:Int):List (Int × Int):=pairsOf (costOf i w sg cell) (z24 w sg cell)
def PairAt (H:Hp) (t:Addr) (p:Int × Int):Prop:=H t=some (.tup [.int p.1,.int p.2])
def PairsL (H:Hp) (r:Addr) (ps:List (Int × Int)):Prop:=∃ ts:List Addr,H r=some (.lst (ts.map V.ref))∧Paired (PairAt H) ts ps
def InF (sg:List Nat) (c:Int):Prop:=0≤c∧c < sg.length
def z500 (ad:Ad):Sp:=fun vs H Q _=>∃ (p dx:Addr) (n:Int) (i:Nat),vs=[.ref p,.int n]∧H p=some (.ins (clsOf ad i) dx [])∧Q .non (upd H p (.ins (clsOf ad i) dx (putF "full" (.int n) [])))
def spKind (z:Str):Sp:=fun vs H Q _=>∃ x,vs=[x]∧Q (.str z) H
def spMay (i:Nat):Sp:=fun vs H Q _=>∃ x c,vs=[x,chr1 c]∧Q (.bl (stands i c)) H
def spFare (C:Addr) (i:Nat):Sp:=fun vs H Q _=>∃ (x:V) (fl:Addr) (w h:Nat) (sg:List Nat) (cell other:Int),vs=[x,.ref fl,.int cell,.int other]∧z45 C H fl w h sg∧Good w h sg∧InF sg cell∧InF sg other∧∀ H',Same H H'→Q (optV (fareOf i w sg cell other)) H'
def z388 (ad:Ad):Sp:=fun vs H Q _=>∃ (p fl:Addr) (i:Nat) (n:Int) (w h:Nat) (sg:List Nat) (cell other:Int),vs=[.ref p,.ref fl,.int cell,.int other]∧CarAt ad H p i n∧i≤3∧z45 ad.C_Floor H fl w h sg∧Good w h sg∧InF sg cell∧InF sg other∧∀ H',Same H H'→Q (optV (costOf i w sg cell other)) H'
def z361 (ad:Ad):Sp:=fun vs H Q _=>∃ (p fl:Addr) (i:Nat) (n:Int) (w h:Nat) (sg:List Nat) (cell:Int),vs=[.ref p,.ref fl,.int cell]∧CarAt ad H p i n∧i≤3∧z45 ad.C_Floor H fl w h sg∧Good w h sg∧InF sg cell∧∀ r H',H r=none→Same H H'→PairsL H' r (z13 i w sg cell)→Q (.ref r) H'
def spMake (ad:Ad):Sp:=fun vs H Q _=>∃ (i:Nat) (x:Str) (n:Int),vs=[.str x,.int n]∧i < 3∧kindsL[i]?=some x∧1≤n∧n≤60∧∀ p H',Same H H'→H p=none→CarAt ad H' p i n→Q (.ref p) H'
def z393:Sp:=fun vs H Q _=>∃ (i c:Nat) (x:Str),vs=[.str x,chr1 c]∧kindsL[i]?=some x∧Q (.bl (stands i c)) H
def z673:Sp:=fun vs H Q _=>∃ (x:Str) (i:Nat) (l:Addr) (w h:Nat) (sg:List Nat) (cell other:Int),vs=[.str x,.ref l,.int cell,.int other]∧kindsL[i]?=some x∧z67 H l w h sg∧Good w h sg∧InF sg cell∧InF sg other∧Q (optV (z86 i w sg cell other)) H
def z377:Sp:=fun vs H Q _=>∃ (x:Str) (i:Nat) (l:Addr) (w h:Nat) (sg:List Nat) (cell:Int),vs=[.str x,.ref l,.int cell]∧kindsL[i]?=some x∧z67 H l w h sg∧Good w h sg∧InF sg cell∧∀ r H',H r=none→Same H H'→PairsL H' r (pairsOf (z86 i w sg cell) (z158 w sg cell))→Q (.ref r) H'
def Kept2 (H:Hp) (k:Addr) (n:Nat):Prop:=∃ ts:List Addr,ts.length≤n∧H k=some (.lst (ts.map V.ref))∧∀ t∈ts,∃ (a b:Addr) (us:List Addr) (ps:List (Int × Int)),H t=some (.tup [.ref a,.ref b])∧H a=some (.lst (us.map V.ref))∧H b=some (.lst (us.map V.ref))∧a≠k∧b≠k∧us.length≤10∧Paired (PairAt H) us ps
theorem cls_of {K:PySem.W.Frag}{mg:Str→Option Value}{ad:Ad}(T:Txt K mg ad):∀ i,Cls K (clsOf ad i)
 | 0=>T.cl_Cart
 | 1=>T.cl_Crawler
 | 2=>T.cl_Runner
 | (_ + 3)=>T.cl_Carrier
theorem nof_of {K:PySem.W.Frag}{mg:Str→Option Value}{ad:Ad}(T:Txt K mg ad):∀ i,NoAttr K (clsOf ad i) "full"
 | 0=>T.n_Cart_full
 | 1=>T.n_Crawler_full
 | 2=>T.n_Runner_full
 | (_ + 3)=>T.n_Carrier_full
theorem l_no (n:Int){m:Str}(h:¬ m="full"):(putF "full" (V.int n) []).lookup m=none:=by rw [lookup_putF,if_neg h];rfl
theorem chr_eq {c k:Nat}{s:Str}(hs:s.cps=#[k]):(chr1 c=V.str s)↔c=k:=by
 constructor
 ·intro h
  have h1:(⟨#[c]⟩:Str)=s:=V.str.inj h
  have h2:=congrArg Str.cps h1
  rw [hs] at h2
  simpa using h2
 ·intro h
  subst h
  exact congrArg V.str (z213 (by rw [hs]))
theorem q126 {c:Nat}:(chr1 c=V.str (Str.ofString "~"))↔c=126:=chr_eq (by decide +kernel)
theorem q43 {c:Nat}:(chr1 c=V.str (Str.ofString "+"))↔c=43:=chr_eq (by decide +kernel)
theorem q124 {c:Nat}:(chr1 c=V.str (Str.ofString "|"))↔c=124:=chr_eq (by decide +kernel)
theorem z598 {c k:Nat}{s:Str}(hs:s.cps=#[k]):eqV (V.str s) (chr1 c)=decide (c=k):=by
 have e:eqV (V.str s) (chr1 c)=(s == (⟨#[c]⟩:Str)):=rfl
 rw [e,Bool.eq_iff_iff,beq_iff_eq,decide_eq_true_iff]
 constructor
 ·intro h
  exact(chr_eq hs).mp (congrArg V.str h.symm)
 ·intro h
  exact(V.str.inj ((chr_eq hs).mpr h)).symm
theorem z490 {c:Nat}:inV (chr1 c) [V.str (Str.ofString "."),V.str (Str.ofString "+"),V.str (Str.ofString "|")]=common c:=by
 simp only [inV,List.any_cons,List.any_nil,Bool.or_false,common]
 rw [z598 (k:=46) (by decide +kernel),z598 (k:=43) (by decide +kernel),z598 (k:=124) (by decide +kernel),Bool.decide_or,Bool.decide_or]
theorem z499 {w h:Nat}{sg:List Nat}(g:Good w h sg){c o:Int}(ho:o∈z24 w sg c):InF sg o:=by
 unfold z24 at ho
 have h:=(List.mem_filter.mp ho).2
 unfold hasI at h
 simp only [Bool.and_eq_true,decide_eq_true_eq] at h
 exact⟨h.1.1,h.1.2⟩
theorem z278 {w:Nat}{sg:List Nat}{c:Int}:(z24 w sg c).length≤4:=by
 unfold z24
 refine Nat.le_trans (List.length_filter_le _ _) ?_
 unfold nearOf
 split <;> split <;> simp
def PO (f:Int→Option Int) (H:Hp) (t:Addr) (o:Int):Prop:=H t=some (.tup [.int o,optV (f o)])
def pvv (H:Hp):V→Bool
 | .ref t=>(match H t with
  | some (.tup [_,y])=>!decide (y=.non)
  | _=>false)
 | _=>false
theorem z452 {f:Int→Option Int}{H:Hp}:∀ {ts:List Addr}{os:List Int},Paired (PO f H) ts os→∃ us:List Addr,(ts.map V.ref).filter (pvv H)=us.map V.ref∧Paired (PairAt H) us (pairsOf f os)
 | _,_,.nil=>⟨[],rfl,.nil⟩
 | _,_,.cons (a:=t) (b:=o) (l₁:=ts) (l₂:=os) h r=>by
  obtain⟨us,e,q⟩:=z452 r
  have h:H t=some (.tup [.int o,optV (f o)]):=h
  rw [List.map_cons,List.filter_cons]
  cases z:f o with
  | none=>
   rw [if_neg (by simp [pvv,h,z,optV]),e]
   refine⟨us,rfl,?_⟩
   unfold pairsOf at q ⊢
   rw [List.filterMap_cons,z]
   exact q
  | some k=>
   rw [if_pos (by simp [pvv,h,z,optV]),e]
   refine⟨t::us,rfl,?_⟩
   unfold pairsOf at q ⊢
   rw [List.filterMap_cons,z]
   exact .cons (by rw [z] at h;exact h) q
def kinds3:List Str:=["cart","crawler","runner"]
theorem z775 {x:Str}:inV (.str x) [V.str (Str.ofString "cart"),V.str (Str.ofString "crawler"),V.str (Str.ofString "runner")]=decide (x∈kinds3):=by
 have e:∀ a:Str,(a == x)=decide (x=a):=fun a=>by
  rw [Bool.eq_iff_iff,beq_iff_eq,decide_eq_true_iff]
  exact eq_comm
 simp only [inV,eqV,List.any_cons,List.any_nil,Bool.or_false,kinds3,List.mem_cons,List.not_mem_nil,or_false]
 rw [e,e,e,Bool.decide_or,Bool.decide_or]
theorem nofl {w h:Nat}{l:Addr}{sg:List Nat}{m:Str}(a:¬ m="signs") (b:¬ m="lines") (c:¬ m="high") (d:¬ m="wide"):(flds w h l sg).lookup m=none:=f_no _ _ _ _ a b c d
theorem e_al4 {ad:Ad}{sp:Sp}:∀ i,i≤3→(clsOf ad i,sp)∈[(ad.C_Cart,sp),(ad.C_Crawler,sp),(ad.C_Runner,sp),(ad.C_Carrier,sp)]
 | 0,_=>by simp [clsOf]
 | 1,_=>by simp [clsOf]
 | 2,_=>by simp [clsOf]
 | 3,_=>by simp [clsOf]
 | (_ + 4),h=>by omega
theorem e_may {ad:Ad}:∀ i,i≤3→∃ j,(clsOf ad i,spMay j)∈[(ad.C_Cart,spMay 0),(ad.C_Crawler,spMay 1),(ad.C_Runner,spMay 0),(ad.C_Carrier,spMay 0)]∧∀ c,stands j c=stands i c
 | 0,_=>⟨0,by simp [clsOf],fun _=>rfl⟩
 | 1,_=>⟨1,by simp [clsOf],fun _=>rfl⟩
 | 2,_=>⟨0,by simp [clsOf],fun _=>rfl⟩
 | 3,_=>⟨0,by simp [clsOf],fun _=>rfl⟩
 | (_ + 4),h=>by omega
theorem e_fare {ad:Ad}{C:Addr}:∀ i,i≤3→∃ j,(clsOf ad i,spFare C j)∈[(ad.C_Cart,spFare C 0),(ad.C_Crawler,spFare C 1),(ad.C_Runner,spFare C 2),(ad.C_Carrier,spFare C 0)]∧∀ w sg a b,fareOf j w sg a b=fareOf i w sg a b
 | 0,_=>⟨0,by simp [clsOf],fun _ _ _ _=>rfl⟩
 | 1,_=>⟨1,by simp [clsOf],fun _ _ _ _=>rfl⟩
 | 2,_=>⟨2,by simp [clsOf],fun _ _ _ _=>rfl⟩
 | 3,_=>⟨0,by simp [clsOf],fun _ _ _ _=>rfl⟩
 | (_ + 4),h=>by omega
theorem z427 {α β:Type}{R:α→β→Prop}{ts:List α}{os:List β}(p:Paired R ts os){t:α}(ht:t∈ts):∃ o,R t o:=by
 induction p with
 | nil=>cases ht
 | cons h r ih=>rcases List.mem_cons.mp ht with rfl | z;exact⟨_,h⟩;exact ih z
theorem z404 {c:Nat}:c∈(Str.ofString ".+|").cps.toList↔common c=true:=by
 have e:(Str.ofString ".+|").cps.toList=[46,43,124]:=by decide +kernel
 rw [e]
 simp [common]
theorem kx:∀ (i:Nat) (x:Str),kindsL[i]?=some x→(x=Str.ofString "crawler"↔i=1)∧(x=Str.ofString "runner"↔i=2)∧i≤3
 | 0,_,h=>by cases h;decide +kernel
 | 1,_,h=>by cases h;decide +kernel
 | 2,_,h=>by cases h;decide +kernel
 | 3,_,h=>by cases h;decide +kernel
 | (i + 4),_,h=>by simp [kindsL] at h
theorem z789 {i w:Nat}{sg:List Nat}{c o:Int}(h:stands i (at_ sg c)=true):costOf i w sg c o=z86 i w sg c o:=by
 unfold costOf z86
 rw [h,Bool.true_and]
theorem z628 {i w h:Nat}{sg:List Nat}{c:Int}(g:Good w h sg) (c0:0≤c) (c1:c < sg.length) (hs:stands i (at_ sg c)=true):z13 i w sg c=pairsOf (z86 i w sg c) (z158 w sg c):=by
 unfold z13
 rw [z384 g c0 c1]
 have e:costOf i w sg c=z86 i w sg c:=funext fun o=>z789 hs
 rw [e]
theorem z779 {n:Nat}{H:Hp}{tt:TT}{te:TE}{cs:St}{F:List V→Hp→Prop}(Pv:Nat→List V→Hp→Prop) (h0:Pv 0 [] H)
  (hs:∀ i ys H,i < n→Pv i ys H→tt (some (.int (0 + (i:Int)))::cs) H fun b H3=>if b=true then te (some (.int (0 + (i:Int)))::cs) H3 fun y H4=>ys.length≤sizeLine∧Pv (i + 1) (ys++[y]) H4 else Pv (i + 1) ys H3)
  (hd:∀ ys H,Pv n ys H→ys.length≤sizeLine∧F ys H):∃ W:Nat→Nat→List V→Hp→Prop,(∃ m,W 0 m [] H)∧CompW (Itr 0 n) (gName 0) tt te (none::cs) W F:=
 z810 (x:=fun i=>.int (0 + (i:Int))) Pv h0 (fun i ys H hi _=>⟨hi,fun y H' e=>⟨e.1,e.2⟩⟩) (fun _ _ _=>Nat.le_refl _) hs hd
def Cars (ad:Ad) (H:Hp) (ps:List Addr) (fs:List Int):Prop:=∀ j p f,ps[j]?=some p→fs[j]?=some f→CarAt ad H p j f
open Hq
def HeapAt (ad:Ad) (H:Hp) (hp l:Addr) (ts:List Addr):Prop:=(∃ dx,H hp=some (.ins ad.C_Heap dx (putF "things" (.ref l) [])))∧H l=some (.lst (ts.map V.ref))
def KeysAt (H:Hp) (k:Addr→List Int) (ts:List Addr):Prop:=∀ t∈ts,H t=some (.tup ((k t).map V.int))
theorem z26 (l:Addr):(putF "things" (V.ref l) []).lookup ("things":Str)=some (.ref l):=by rw [lookup_putF,if_pos rfl]
theorem h_no (l:Addr){m:Str}(h:¬ m="things"):(putF "things" (V.ref l) []).lookup m=none:=by rw [lookup_putF,if_neg h];rfl
theorem HeapAt.put {ad:Ad}{H:Hp}{hp l:Addr}{ts us:List Addr}(h:HeapAt ad H hp l ts):HeapAt ad (upd H l (.lst (us.map V.ref))) hp l us:=by
 obtain⟨⟨dx,e⟩,e2⟩:=h
 exact⟨⟨dx,by rw [upd_ne (ne_of e e2 (fun z=>by cases z))];exact e⟩,upd_same⟩
theorem KeysAt.put {H:Hp}{k:Addr→List Int}{ts us vs:List Addr}{l:Addr}{zs:List V}(h:KeysAt H k ts) (e:H l=some (.lst zs)) (hm:∀ t∈us,t∈ts):KeysAt (upd H l (.lst (vs.map V.ref))) k us:=fun t ht=>by
 have:=h t (hm t ht)
 rw [upd_ne (ne_of this e (fun z=>by cases z))]
 exact this
def z593 (ad:Ad):Sp:=fun vs H Q _=>∃ (p dx:Addr),vs=[.ref p]∧H p=some (.ins ad.C_Heap dx [])∧∀ l,H l=none→Q .non (upd (upd H l (.lst [])) p (.ins ad.C_Heap dx (putF "things" (.ref l) [])))
def spSwap (ad:Ad):Sp:=fun vs H Q _=>∃ (hp l:Addr) (ts:List Addr) (p a:Nat) (x y:Addr),vs=[.ref hp,.int (p:Int),.int (a:Int)]∧HeapAt ad H hp l ts∧ts[p]?=some x∧ts[a]?=some y∧Q .non (upd H l (.lst ((swp ts p a x y).map V.ref)))
def z468 (ad:Ad):Sp:=fun vs H Q _=>∃ (hp l:Addr) (ts:List Addr) (k:Addr→List Int) (p:Nat),vs=[.ref hp,.int (p:Int)]∧HeapAt ad H hp l ts∧KeysAt H k ts∧ts.length≤90000∧p≤90000∧((∀ i,0 < i→(i - 1) / 2=p→ts[i]?=none)→Q .non H)∧∀ b:Nat,b < ts.length→Lesser k ts p b→Q (.int (b:Int)) H
def spLift (ad:Ad):Sp:=fun vs H Q _=>∃ (hp l:Addr) (ts:List Addr) (k:Addr→List Int) (n:Nat),vs=[.ref hp]∧HeapAt ad H hp l ts∧KeysAt H k ts∧ts.length=n + 1∧n≤90000∧Lift k ts n∧∀ us:List Addr,us.Perm ts→Hok k us→Q .non (upd H l (.lst (us.map V.ref)))
def spSink (ad:Ad):Sp:=fun vs H Q _=>∃ (hp l:Addr) (ts:List Addr) (k:Addr→List Int),vs=[.ref hp]∧HeapAt ad H hp l ts∧KeysAt H k ts∧ts≠[]∧ts.length≤90000∧Sink k ts 0∧∀ us:List Addr,us.Perm ts→Hok k us→Q .non (upd H l (.lst (us.map V.ref)))
def z602 (ad:Ad):Sp:=fun vs H Q _=>∃ (hp l r:Addr) (ts:List Addr),vs=[.ref hp]∧HeapAt ad H hp l (r::ts)∧Q (.ref r) H
def spHPut (ad:Ad):Sp:=fun vs H Q _=>∃ (hp l t:Addr) (ts:List Addr) (k:Addr→List Int),vs=[.ref hp,.ref t]∧HeapAt ad H hp l ts∧KeysAt H k (t::ts)∧ts.length≤80000∧Hok k ts∧∀ us:List Addr,us.Perm (t::ts)→Hok k us→Q .non (upd H l (.lst (us.map V.ref)))
def spTake (ad:Ad):Sp:=fun vs H Q _=>∃ (hp l:Addr) (ts:List Addr) (k:Addr→List Int),vs=[.ref hp]∧HeapAt ad H hp l ts∧KeysAt H k ts∧ts≠[]∧ts.length≤90000∧Hok k ts∧∀ (r:Addr) (us:List Addr),(r::us).Perm ts→(∀ t∈ts,Le (k r) (k t))→Hok k us→Q (.ref r) (upd H l (.lst (us.map V.ref)))
def spSize (ad:Ad):Sp:=fun vs H Q _=>∃ (hp l:Addr) (ts:List Addr),vs=[.ref hp]∧HeapAt ad H hp l ts∧Q (.int (ts.length:Int)) H
theorem upd_id {H:Hp}{l:Addr}{o:HO}(h:H l=some o):upd H l o=H:=by
 funext b
 by_cases e:b=l
 ·subst e
  rw [upd_same,h]
 ·rw [upd_ne e]
theorem z757 {n p:Nat}(h:p < n):ixN n (p:Int)=some p:=by
 unfold ixN
 rw [if_pos (by omega),if_pos (by omega)]
 simp
theorem at_ref {ts:List Addr}{p:Nat}{x:Addr}(h:ts[p]?=some x):atI (ts.map V.ref) (p:Int)=some (V.ref x):=atI_nat (by rw [List.getElem?_map,h];rfl)
theorem z800 {ts:List Addr}{p a:Nat}{x y:Addr}:((ts.map V.ref).set p (V.ref y)).set a (V.ref x)=(swp ts p a x y).map V.ref:=by
 unfold swp
 rw [List.map_set,List.map_set]
open Dj
def z4 (i:Nat) (sg:List Nat):List Int:=(cellsOf sg).filter fun c=>stands i (at_ sg c)
def z458 (ad:Ad):Sp:=fun vs H Q _=>∃ (p fl:Addr) (i:Nat) (n:Int) (w h:Nat) (sg:List Nat),vs=[.ref fl,.ref p]∧CarAt ad H p i n∧i≤3∧z45 ad.C_Floor H fl w h sg∧Good w h sg∧Gives H Q (z4 i sg)
def stV (i:Nat) (sg:List Nat):V→Bool
 | .int o=>stands i (at_ sg o)
 | _=>false
def into1 (i w:Nat) (sg:List Nat) (o c:Int) (ps:List (Int × Int)):List (Int × Int):=ps.filterMap fun q=>if q.1=o then some (c,q.2) else none
def intoL (i w:Nat) (sg:List Nat) (cs:List Int) (o:Int):List (Int × Int):=cs.flatMap fun c=>into1 i w sg o c (z13 i w sg c)
structure IntoAt (H:Hp) (d:Addr) (sg:List Nat) (ls:List (Int × Addr)) (F:Int→List (Int × Int)):Prop where
 at_:H d=some (.dK (ls.map fun q=>((Sum.inl q.1:Key),V.ref q.2)))
 keys:ls.map (·.1)=cellsOf sg
 nd:(ls.map (·.2)).Nodup
 lists:∀ q∈ls,PairsL H q.2 (F q.1)
def spInto (ad:Ad):Sp:=fun vs H Q _=>∃ (p fl:Addr) (i:Nat) (n:Int) (w h:Nat) (sg:List Nat),vs=[.ref fl,.ref p]∧CarAt ad H p i n∧i≤3∧z45 ad.C_Floor H fl w h sg∧Good w h sg∧
 ∀ (r:Addr) (ls:List (Int × Addr)) H',H r=none→Same H H'→IntoAt H' r sg ls (intoL i w sg (z4 i sg))→Q (.ref r) H'
def costsD (kvs:List (Int × Int)):HO:=.dK (kvs.map fun q=>((Sum.inl q.1:Key),V.int q.2))
structure z30 (i w:Nat) (sg:List Nat) (gs:List Int) (kvs:List (Int × Int)):Prop where
 nd:(kvs.map (·.1)).Nodup
 len:kvs.length≤100
 is:∀ c n,(c,n)∈kvs↔Least (z13 i w sg) (z4 i sg) gs c n
def z415 (ad:Ad):Sp:=fun vs H Q _=>∃ (p fl l:Addr) (i:Nat) (n:Int) (w h:Nat) (sg:List Nat) (gs:List Int),vs=[.ref fl,.ref p,.ref l]∧CarAt ad H p i n∧i≤3∧z45 ad.C_Floor H fl w h sg∧Good w h sg∧H l=some (.lst (gs.map V.int))∧gs.length≤200∧(∀ g∈gs,g∈z4 i sg)∧
 ∀ (r:Addr) (kvs:List (Int × Int)) H',H r=none→Same H H'→H' r=some (costsD kvs)→z30 i w sg gs kvs→Q (.ref r) H'
def z650 (ad:Ad):Sp:=fun vs H Q _=>∃ (p fl:Addr) (i:Nat) (n:Int) (w h:Nat) (sg:List Nat),vs=[.ref fl,.ref p]∧CarAt ad H p i n∧i≤3∧z45 ad.C_Floor H fl w h sg∧Good w h sg∧
 ∀ (r:Addr) (kvs:List (Int × Int)) H',H r=none→Same H H'→H' r=some (costsD kvs)→z30 i w sg ((z19 sg).filter fun c=>stands i (at_ sg c)) kvs→Q (.ref r) H'
theorem z196 {sg:List Nat}{c:Int}(h:c∈cellsOf sg):InF sg c:=by
 have:=z263.mp h
 unfold hasI at this
 simp only [Bool.and_eq_true,decide_eq_true_eq] at this
 exact this.1
theorem z531 {sg:List Nat}{c:Int}(h:c∈z19 sg):InF sg c:=z297.mp (List.mem_filter.mp h).1
theorem z288 (i:Nat) (sg:List Nat) (cs:List Int):(((cs.map V.int).filter (stV i sg)).map fun v=>v)=(cs.filter fun c=>stands i (at_ sg c)).map V.int:=by
 rw [List.map_id',List.filter_map]
 rfl
theorem z163 {w h:Nat}{sg:List Nat}(g:Good w h sg) (i:Nat):(z4 i sg).length≤100:=Nat.le_trans (List.length_filter_le _ _) (z264 g)
theorem z233 {H H':Hp}{a:Addr}{ps:List (Int × Int)} (s:Same H H') (h:PairsL H a ps):PairsL H' a ps:=by
 obtain⟨ts,e,pr⟩:=h
 exact⟨ts,s _ _ e,Paired.mapP pr fun _ _ z=>s _ _ z⟩
theorem nd_inj {α β:Type}{f:α→β}:∀ {l:List α},(l.map f).Nodup→∀ {x y:α},x∈l→y∈l→f x=f y→x=y
 | [],_,_,_,h,_,_=>by cases h
 | a::l,hn,x,y,hx,hy,e=>by
  rw [List.map_cons,List.nodup_cons] at hn
  rcases List.mem_cons.mp hx with e1 | hx1 <;> rcases List.mem_cons.mp hy with e2 | hy1
  ·rw [e1,e2]
  ·exact absurd (List.mem_map.mpr ⟨y,hy1,by rw [← e,e1]⟩) hn.1
  ·exact absurd (List.mem_map.mpr ⟨x,hx1,by rw [e,e2]⟩) hn.1
  ·exact nd_inj hn.2 hx1 hy1 e
theorem z203 (sg:List Nat):(cellsOf sg).Pairwise (· < ·):=(z345 sg).filter _
theorem z460 {xs:List Int}(h:xs.Pairwise (· < ·)){j:Nat}{c:Int}(hj:xs[j]?=some c):¬ c∈xs.take j:=by
 intro hm
 obtain⟨i,hi⟩:=List.getElem?_of_mem hm
 have li:i < (xs.take j).length:=(List.getElem?_eq_some_iff.mp hi).1
 rw [List.length_take] at li
 rw [List.getElem?_take_of_lt (by omega)] at hi
 have a1:=(List.getElem?_eq_some_iff.mp hi)
 have a2:=(List.getElem?_eq_some_iff.mp hj)
 have:=List.pairwise_iff_getElem.mp h i j a1.1 a2.1 (by omega)
 rw [a1.2,a2.2] at this
 omega
theorem z222 {i w:Nat}{sg:List Nat}{c:Int}:(z13 i w sg c).length≤4:=by
 unfold z13 pairsOf
 exact Nat.le_trans (List.length_filterMap_le _ _) z278
theorem z492 {i w:Nat}{sg:List Nat}{o c:Int}(ps:List (Int × Int)):(into1 i w sg o c ps).length≤ps.length:=List.length_filterMap_le _ _
theorem z382 {i w:Nat}{sg:List Nat}:∀ (cs:List Int) (o:Int),(intoL i w sg cs o).length≤4 * cs.length
 | [],_=>by simp [intoL]
 | c::cs,o=>by
  have h1:=z382 (i:=i) (w:=w) (sg:=sg) cs o
  have h2:=z492 (i:=i) (w:=w) (sg:=sg) (o:=o) (c:=c) (z13 i w sg c)
  have h3:=z222 (i:=i) (w:=w) (sg:=sg) (c:=c)
  unfold intoL at h1 ⊢
  rw [List.flatMap_cons,List.length_append,List.length_cons]
  omega
theorem z614 {i w:Nat}{sg:List Nat}{cs:List Int}{j:Nat}{c o:Int}(h:cs[j]?=some c):intoL i w sg (cs.take (j + 1)) o=intoL i w sg (cs.take j) o++into1 i w sg o c (z13 i w sg c):=by
 unfold intoL
 rw [List.take_add_one,h,List.flatMap_append]
 simp
theorem z400 {i w:Nat}{sg:List Nat}{ps:List (Int × Int)}{j:Nat}{c o k o':Int}(h:ps[j]?=some (o,k)):into1 i w sg o' c (ps.take (j + 1))=into1 i w sg o' c (ps.take j)++if o=o' then [(c,k)] else []:=by
 unfold into1
 rw [List.take_add_one,h,List.filterMap_append]
 congr 1
 by_cases e:o=o'
 ·simp [e]
 ·simp [e]
theorem z526 {i w:Nat}{sg:List Nat}{c o k:Int}(h:(o,k)∈z13 i w sg c):o∈cellsOf sg:=by
 unfold z13 pairsOf at h
 obtain⟨x,hx,e⟩:=List.mem_filterMap.mp h
 obtain⟨y,_,e2⟩:=Option.map_eq_some_iff.mp e
 cases e2
 unfold z24 at hx
 exact z263.mpr (List.mem_filter.mp hx).2
theorem ls_get {o:Int}:∀ {ls:List (Int × Addr)},o∈ls.map (·.1)→∃ a,(o,a)∈ls∧valV (ls.map fun q=>((Sum.inl q.1:Key),V.ref q.2)) (.inl o)=some (.ref a)
 | [],h=>by cases h
 | (x,a)::ls,h=>by
  rw [List.map_cons]
  by_cases e:x=o
  ·subst e
   exact⟨a,List.mem_cons_self,valV_pos (p:=((Sum.inl x:Key),V.ref a)) rfl⟩
  ·obtain⟨b,h1,h2⟩:=ls_get (ls:=ls) (o:=o) (by
    rcases List.mem_cons.mp h with z | z
    ·exact absurd z.symm e
    ·exact z)
   exact⟨b,List.mem_cons_of_mem _ h1,by rw [valV_neg (p:=((Sum.inl x:Key),V.ref a)) (fun z=>e (Sum.inl.inj z))];exact h2⟩
structure HS (ad:Ad) (H:Hp) (hp hl:Addr) (ts:List Addr) (k:Addr→List Int):Prop where
 hh:HeapAt ad H hp hl ts
 hk:KeysAt H k ts
 ho:Hok k ts
 two:∀ t∈ts,∃ n c,k t=[n,c]
def Itm (k:Addr→List Int) (ts:List Addr) (n c:Int):Prop:=∃ t∈ts,k t=[n,c]
def kput (k:Addr→List Int) (t:Addr) (a b:Int):Addr→List Int:=fun x=>if x=t then [a,b] else k x
theorem z719 {k k':Addr→List Int}{ts:List Addr}(h:∀ t∈ts,k' t=k t) (ho:Hok k ts):Hok k' ts:=fun i x y i0 hx hy=>by
 rw [h x (List.mem_of_getElem? hx),h y (List.mem_of_getElem? hy)]
 exact ho i x y i0 hx hy
theorem HS.ne {ad:Ad}{H:Hp}{hp hl:Addr}{ts:List Addr}{k:Addr→List Int}(S:HS ad H hp hl ts k){t:Addr}(nt:H t=none):∀ x∈ts,x≠t:=fun x hx z=>by
 have:=S.hk x hx
 rw [z,nt] at this
 cases this
theorem HS.prep {ad:Ad}{H:Hp}{hp hl:Addr}{ts:List Addr}{k:Addr→List Int}(S:HS ad H hp hl ts k){t:Addr}(nt:H t=none) (a b:Int):
  HeapAt ad (upd H t (.tup [.int a,.int b])) hp hl ts∧KeysAt (upd H t (.tup [.int a,.int b])) (kput k t a b) (t::ts)∧Hok (kput k t a b) ts:=by
 have e:=zz0 (o:=HO.tup [V.int a,V.int b]) nt
 obtain⟨⟨dx,h1⟩,h2⟩:=S.hh
 refine⟨⟨⟨dx,e _ _ h1⟩,e _ _ h2⟩,fun x hx=>?_,z719 (fun x hx=>if_neg (S.ne nt x hx)) S.ho⟩
 rcases List.mem_cons.mp hx with z | z
 ·rw [z,upd_same]
  unfold kput
  rw [if_pos rfl]
  rfl
 ·unfold kput
  rw [if_neg (S.ne nt x z)]
  exact e _ _ (S.hk x z)
theorem HS.put {ad:Ad}{H:Hp}{hp hl:Addr}{ts us:List Addr}{k:Addr→List Int}(S:HS ad H hp hl ts k){t:Addr}(nt:H t=none){a b:Int}(hu:us.Perm (t::ts)) (ho:Hok (kput k t a b) us):
  HS ad (upd (upd H t (.tup [.int a,.int b])) hl (.lst (us.map V.ref))) hp hl us (kput k t a b):=by
 obtain⟨p1,p2,p3⟩:=S.prep nt a b
 refine⟨p1.put,p2.put p1.2 fun x hx=>hu.mem_iff.mp hx,ho,fun x hx=>?_⟩
 rcases List.mem_cons.mp (hu.mem_iff.mp hx) with z | z
 ·exact⟨a,b,by unfold kput;rw [if_pos z]⟩
 ·unfold kput
  rw [if_neg (S.ne nt x z)]
  exact S.two x z
theorem z759 {ad:Ad}{H:Hp}{hp hl:Addr}{ts us:List Addr}{k:Addr→List Int}(S:HS ad H hp hl ts k){t:Addr}(nt:H t=none){a b:Int}(hu:us.Perm (t::ts)){n c:Int}:Itm (kput k t a b) us n c↔Itm k ts n c∨(n=a∧c=b):=by
 constructor
 ·rintro⟨x,hx,e⟩
  rcases List.mem_cons.mp (hu.mem_iff.mp hx) with z | z
  ·unfold kput at e
   rw [if_pos z] at e
   cases e
   exact .inr ⟨rfl,rfl⟩
  ·unfold kput at e
   rw [if_neg (S.ne nt x z)] at e
   exact .inl ⟨x,z,e⟩
 ·rintro(⟨x,hx,e⟩ | ⟨rfl,rfl⟩)
  ·exact⟨x,hu.mem_iff.mpr (List.mem_cons_of_mem _ hx),by unfold kput;rw [if_neg (S.ne nt x hx)];exact e⟩
  ·exact⟨t,hu.mem_iff.mpr List.mem_cons_self,by unfold kput;rw [if_pos rfl]⟩
theorem HS.take {ad:Ad}{H:Hp}{hp hl r:Addr}{ts us:List Addr}{k:Addr→List Int}(S:HS ad H hp hl ts k) (hu:(r::us).Perm ts) (ho:Hok k us):HS ad (upd H hl (.lst (us.map V.ref))) hp hl us k:=by
 have m:∀ x∈us,x∈ts:=fun x hx=>hu.mem_iff.mp (List.mem_cons_of_mem _ hx)
 exact⟨S.hh.put,S.hk.put S.hh.2 m,ho,fun x hx=>S.two x (m x hx)⟩
theorem HS.keep {ad:Ad}{H H':Hp}{hp hl:Addr}{ts:List Addr}{k:Addr→List Int}(S:HS ad H hp hl ts k) (e:∀ b o,H b=some o→(∀ kvs,o≠.dK kvs)→H' b=some o):HS ad H' hp hl ts k:=by
 obtain⟨⟨⟨dx,h1⟩,h2⟩,h3,h4,h5⟩:=S
 exact⟨⟨⟨dx,e _ _ h1 (fun _ z=>by cases z)⟩,e _ _ h2 (fun _ z=>by cases z)⟩,fun t ht=>e _ _ (h3 t ht) (fun _ z=>by cases z),h4,h5⟩
theorem z814 {n c m x:Int}(h:Le [n,c] [m,x]):n≤m:=by
 unfold Le at h
 rw [HT.lexLt_cons] at h
 by_cases e:m=n
 ·omega
 ·rw [if_neg e,decide_eq_false_iff_not] at h
  omega
def rem (C:List Int) (kvs:List (Int × Int)):Nat:=(C.filter fun c=>!decide (c∈kvs.map (·.1))).length
theorem z750 {kvs:List (Int × Int)}{c n:Int}:∀ {C:List Int},C.Nodup→c∈C→¬ c∈kvs.map (·.1)→rem C (kvs++[(c,n)]) + 1=rem C kvs
 | [],_,h,_=>by cases h
 | x::C,hn,hm,hc=>by
  rw [List.nodup_cons] at hn
  unfold rem
  rw [List.filter_cons,List.filter_cons]
  have same:∀ y,y≠c→(!decide (y∈(kvs++[(c,n)]).map (·.1)))=!decide (y∈kvs.map (·.1)):=fun y hy=>by simp [hy]
  by_cases e:x=c
  ·subst e
   rw [if_neg (by simp),if_pos (by simpa using hc)]
   rw [List.length_cons]
   congr 2
   exact List.filter_congr fun y hy=>same y (fun z=>hn.1 (z ▸ hy))
  ·have ih:=z750 (kvs:=kvs) (c:=c) (n:=n) hn.2 (by
    rcases List.mem_cons.mp hm with z | z
    ·exact absurd z.symm e
    ·exact z) hc
   unfold rem at ih
   rw [same x e]
   split
   ·rw [List.length_cons,List.length_cons]
    omega
   ·exact ih
def cvOf (kvs:List (Int × Int)) (c:Int):Option Int:=(kvs.find? fun q=>decide (q.1=c)).map (·.2)
theorem val_cv (kvs:List (Int × Int)) (c:Int):valV (kvs.map fun q=>((Sum.inl q.1:Key),V.int q.2)) (.inl c)=(cvOf kvs c).map V.int:=by
 induction kvs with
 | nil=>rfl
 | cons q kvs ih=>
  rw [List.map_cons]
  unfold cvOf
  by_cases e:q.1=c
  ·rw [valV_pos (p:=((Sum.inl q.1:Key),V.int q.2)) (by rw [e]),List.find?_cons,decide_eq_true e]
   rfl
  ·rw [valV_neg (p:=((Sum.inl q.1:Key),V.int q.2)) (fun z=>e (Sum.inl.inj z)),List.find?_cons,decide_eq_false e]
   exact ih
theorem z752 {kvs:List (Int × Int)}{c:Int}:cvOf kvs c=none↔¬ c∈kvs.map (·.1):=by
 induction kvs with
 | nil=>simp [cvOf]
 | cons q kvs ih=>
  unfold cvOf at ih ⊢
  rw [List.find?_cons,List.map_cons,List.mem_cons]
  by_cases e:q.1=c
  ·rw [decide_eq_true e]
   simp [e]
  ·rw [decide_eq_false e]
   simp only [ih]
   constructor
   ·rintro h (z | z)
    ·exact e z.symm
    ·exact h z
   ·exact fun h z=>h (.inr z)
theorem cv_mem {kvs:List (Int × Int)}{c n:Int}(h:cvOf kvs c=some n):(c,n)∈kvs:=by
 unfold cvOf at h
 obtain⟨q,hq,rfl⟩:=Option.map_eq_some_iff.mp h
 have h1:=List.find?_some hq
 have h2:=List.mem_of_find?_eq_some hq
 rw [decide_eq_true_eq] at h1
 rw [← h1]
 exact h2
theorem mem_cv {kvs:List (Int × Int)} (nd:(kvs.map (·.1)).Nodup){c n:Int}(h:(c,n)∈kvs):cvOf kvs c=some n:=by
 cases e:cvOf kvs c with
 | none=>exact absurd (List.mem_map.mpr ⟨_,h,rfl⟩) (z752.mp e)
 | some m=>
  have:=nd_inj (f:=fun q:Int × Int=>q.1) nd (cv_mem e) h rfl
  cases this
  rfl
theorem z802 {kvs:List (Int × Int)}{c n:Int}(h:cvOf kvs c=none) (x:Int):cvOf (kvs++[(c,n)]) x=if x=c then some n else cvOf kvs x:=by
 have h':=h
 unfold cvOf at h ⊢
 rw [List.find?_append]
 by_cases e:x=c
 ·subst e
  rw [if_pos rfl]
  have:kvs.find? (fun q=>decide (q.1=x))=none:=Option.map_eq_none_iff.mp h
  rw [this]
  simp
 ·rw [if_neg e]
  cases hf:kvs.find? (fun q=>decide (q.1=x)) with
  | none=>simp [Ne.symm e]
  | some q=>rfl
theorem z776 {i w:Nat}{sg:List Nat}{c o k:Int}(h:fareOf i w sg c o=some k):1≤k:=by
 unfold fareOf at h
 split at h
 ·cases h;split <;> decide
 ·split at h
  ·cases h;decide
  ·split at h
   ·cases h;decide
   ·cases h
 ·cases h;decide
theorem z54 (i w:Nat) (sg:List Nat):Pos (z13 i w sg):=fun c o k h=>by
 unfold z13 pairsOf at h
 obtain⟨x,hx,e⟩:=List.mem_filterMap.mp h
 obtain⟨y,hy,e2⟩:=Option.map_eq_some_iff.mp e
 cases e2
 unfold costOf at hy
 split at hy
 ·exact z776 hy
 ·cases hy
theorem z385 {i w:Nat}{sg:List Nat}{cs:List Int}{o c k:Int}:(c,k)∈intoL i w sg cs o↔c∈cs∧(o,k)∈z13 i w sg c:=by
 unfold intoL into1
 rw [List.mem_flatMap]
 constructor
 ·rintro⟨x,hx,h⟩
  obtain⟨q,hq,e⟩:=List.mem_filterMap.mp h
  by_cases z:q.1=o
  ·rw [if_pos z] at e
   cases e
   exact⟨hx,by rw [← z];exact hq⟩
  ·rw [if_neg z] at e
   cases e
 ·rintro⟨h1,h2⟩
  exact⟨c,h1,List.mem_filterMap.mpr ⟨(o,k),h2,by rw [if_pos rfl]⟩⟩
theorem z761 (i:Nat) (sg:List Nat):(z4 i sg).Nodup:=((z203 sg).filter _).imp fun h=>by omega
def SameC (a b:Addr) (H H':Hp):Prop:=∀ x o,H x=some o→x≠a→x≠b→H' x=some o
theorem IntoAt.keep {H H':Hp}{d a b:Addr}{sg:List Nat}{ls:List (Int × Addr)}{F:Int→List (Int × Int)} (h:IntoAt H d sg ls F) (s:SameC a b H H') (na:∀ x ks,H x=some (.dK ks)→x≠d→True) (da:d≠a) (db:d≠b) (la:∀ q∈ls,q.2≠a∧q.2≠b) (ta:∀ x ys,H x=some (.tup ys)→x≠a∧x≠b):IntoAt H' d sg ls F:=
 ⟨s _ _ h.at_ da db,h.keys,h.nd,fun q hq=>by
  obtain⟨ts,e,pr⟩:=h.lists q hq
  exact⟨ts,s _ _ e (la q hq).1 (la q hq).2,Paired.mapP pr fun t _ z=>s _ _ z (ta _ _ z).1 (ta _ _ z).2⟩⟩
structure CS (ad:Ad) (i w:Nat) (sg:List Nat) (gs:List Int) (H3 H':Hp) (cd hp hl:Addr) (ts:List Addr) (k:Addr→List Int) (kvs:List (Int × Int)):Prop where
 same:SameC hl cd H3 H'
 cd_:H' cd=some (costsD kvs)
 hs:HS ad H' hp hl ts k
 nd:(kvs.map (·.1)).Nodup
 cnt:kvs.length + rem (z4 i sg) kvs=(z4 i sg).length
 room:ts.length + 401 * rem (z4 i sg) kvs≤40400
 inv:Dj.Inv (z13 i w sg) (z4 i sg) gs (cvOf kvs) (Itm k ts)
 inC:∀ m c,Itm k ts m c→c∈z4 i sg
def CW (ad:Ad) (i w:Nat) (sg:List Nat) (gs:List Int) (H3:Hp) (fl p l d cd hp hl:Addr) (m:Nat) (σ:St) (H':Hp):Prop:=∃ (ts:List Addr) (k:Addr→List Int) (kvs:List (Int × Int)) (x6 x7 x8 x9 x10:Option V),m=ts.length + 401 * rem (z4 i sg) kvs∧CS ad i w sg gs H3 H' cd hp hl ts k kvs∧σ=[some (V.ref fl),some (V.ref p),some (V.ref l),some (V.ref d),some (V.ref cd),some (V.ref hp),x6,x7,x8,x9,x10]
theorem z716 {ad:Ad}{i w h:Nat}{sg:List Nat}{gs:List Int}{H3 H':Hp}{cd hp hl:Addr}{k:Addr→List Int}{kvs:List (Int × Int)} (g:Good w h sg) (c:CS ad i w sg gs H3 H' cd hp hl [] k kvs):z30 i w sg gs kvs:=by
 have l1:=z163 g i
 have l2:=c.cnt
 refine⟨c.nd,by omega,fun x n=>⟨fun hm=>c.inv.d1 x n (mem_cv c.nd hm),fun hl=>?_⟩⟩
 obtain⟨m,hm⟩:=c.inv.done (z54 i w sg) (fun m x ⟨t,ht,_⟩=>by cases ht) hl.1
 have:=(c.inv.d1 x m hm).uniq hl
 rw [← this]
 exact cv_mem hm
theorem z746 (C:List Int):rem C []=C.length:=by
 unfold rem
 rw [List.filter_eq_self.mpr (fun _ _=>by simp)]
def someOf (kvs:List (Int × Int)) (ps:List (Int × Int)):List Int:=ps.filterMap fun q=>(cvOf kvs q.1).map fun n=>q.2 + n
def i0 (H:Hp) (t:Addr):Int:=match H t with
 | some (.tup [.int a,.int _])=>a
 | _=>0
def i1 (H:Hp) (t:Addr):Int:=match H t with
 | some (.tup [.int _,.int b])=>b
 | _=>0
theorem z513 {H:Hp}(kvs:List (Int × Int)):∀ {ts:List Addr}{ps:List (Int × Int)},Paired (PairAt H) ts ps→(ts.filter fun t=>(cvOf kvs (i0 H t)).isSome).map (fun t=>V.int (i1 H t + (cvOf kvs (i0 H t)).getD 0))=(someOf kvs ps).map V.int
 | _,_,.nil=>rfl
 | t::ts,q::ps,.cons h r=>by
  have ih:=z513 kvs r
  have h:H t=some (.tup [.int q.1,.int q.2]):=h
  have a0:i0 H t=q.1:=by unfold i0;rw [h]
  have a1:i1 H t=q.2:=by unfold i1;rw [h]
  unfold someOf at ih ⊢
  rw [List.filter_cons,List.filterMap_cons,a0]
  cases e:cvOf kvs q.1 with
  | none=>
   rw [if_neg (by simp)]
   exact ih
  | some n=>
   rw [if_pos (by simp),List.map_cons,ih,a0,a1,e]
   rfl
theorem z469 {kvs ps:List (Int × Int)}{m:Int}:m∈someOf kvs ps↔∃ o k n,(o,k)∈ps∧cvOf kvs o=some n∧m=k + n:=by
 unfold someOf
 rw [List.mem_filterMap]
 constructor
 ·rintro⟨q,hq,e⟩
  obtain⟨n,hn,e2⟩:=Option.map_eq_some_iff.mp e
  exact⟨q.1,q.2,n,hq,hn,e2.symm⟩
 ·rintro⟨o,k,n,h1,h2,rfl⟩
  exact⟨(o,k),h1,by show (cvOf kvs o).map _=_;rw [h2];rfl⟩
def chV (sg:List Nat):V→Bool
 | .int o=>decide (at_ sg o=43)
 | _=>false
theorem z756 (i:Nat) (sg:List Nat):((((z4 i sg).map V.int).filter (chV sg)).map fun v=>v)=((z19 sg).filter fun c=>stands i (at_ sg c)).map V.int:=by
 rw [List.map_id',List.filter_map,z224]
 unfold z4
 rw [List.filter_filter,List.filter_filter]
 congr 1
 refine List.filter_congr fun c _=>?_
 rw [Bool.and_comm]
 rfl
abbrev nxt (i w:Nat) (sg:List Nat) (kvs:List (Int × Int)) (c n:Int):List Int:=nextOf (z13 i w sg) (cvOf kvs) c n
theorem z30.cv {i w:Nat}{sg:List Nat}{gs:List Int}{kvs:List (Int × Int)} (ca:z30 i w sg gs kvs){c n:Int}:cvOf kvs c=some n↔Least (z13 i w sg) (z4 i sg) gs c n:=
 ⟨fun h=>(ca.is c n).mp (cv_mem h),fun h=>mem_cv ca.nd ((ca.is c n).mpr h)⟩
theorem z30.uniq {i w:Nat}{sg:List Nat}{gs:List Int}{ka kb:List (Int × Int)} (ca:z30 i w sg gs ka) (cb:z30 i w sg gs kb):cvOf ka=cvOf kb:=funext fun c=>Option.ext fun n=>ca.cv.trans cb.cv.symm
theorem z572 {i w h:Nat}{sg:List Nat}{c:Int}(g:Good w h sg) (hc:InF sg c):((z13 i w sg c).map (·.1)).Pairwise (· < ·):=by
 unfold z13 pairsOf
 rw [z384 g hc.1 hc.2,List.pairwise_map,List.pairwise_filterMap]
 refine((z203 sg).filter _).imp fun{a b} h x hx y hy=>?_
 obtain⟨_,_,rfl⟩:=Option.map_eq_some_iff.mp hx
 obtain⟨_,_,rfl⟩:=Option.map_eq_some_iff.mp hy
 exact h
def spNext (ad:Ad):Sp:=fun vs H Q _=>∃ (p fl cd:Addr) (i:Nat) (n:Int) (w h:Nat) (sg:List Nat) (kvs:List (Int × Int)) (c k:Int),vs=[.ref fl,.ref p,.int c,.ref cd]∧CarAt ad H p i n∧i≤3∧z45 ad.C_Floor H fl w h sg∧Good w h sg∧InF sg c∧H cd=some (costsD kvs)∧cvOf kvs c=some k∧nxt i w sg kvs c k≠[]∧
 ∀ m H',(nxt i w sg kvs c k).head?=some m→Same H H'→Q (.int m) H'
def z590 (ad:Ad):Sp:=fun vs H Q _=>∃ (p fl gl:Addr) (i:Nat) (n:Int) (w h:Nat) (sg:List Nat) (gs:List Int) (c:Int),vs=[.ref fl,.ref p,.int c,.ref gl]∧CarAt ad H p i n∧i≤3∧z45 ad.C_Floor H fl w h sg∧Good w h sg∧H gl=some (.lst (gs.map V.int))∧gs.length≤200∧(∀ g∈gs,g∈z4 i sg)∧
 ∀ (kvs:List (Int × Int)) (H':Hp),z30 i w sg gs kvs→Same H H'→(cvOf kvs c=none→Q .non H')∧∀ (r:Addr) (cs:List Int),H r=none→H' r=some (.lst (cs.map V.int))→cs.length≤100→Walk (z13 i w sg) (cvOf kvs) c cs→Q (.ref r) H'
def z471:Sp:=fun vs H Q _=>∃ (x:Str) (l al gl ld:Addr) (i w h:Nat) (sg:List Nat) (gs:List Int) (kvs:List (Int × Int)),vs=[.str x,.ref l,.ref al,.ref gl,.ref ld]∧kindsL[i]?=some x∧z67 H l w h sg∧Good w h sg∧H al=some (.lst ((z4 i sg).map V.int))∧H gl=some (.lst (gs.map V.int))∧gs.length < 64∧(∀ g∈gs,g∈z4 i sg)∧H ld=some (costsD kvs)∧z30 i w sg gs kvs∧kvs.length < 64∧∀ H',Same H H'→Q (.bl true) H'
def z476:Sp:=fun vs H Q _=>∃ (x:Str) (l ld fd:Addr) (i w h:Nat) (sg:List Nat) (gs:List Int) (kvs:List (Int × Int)) (c:Int) (cs:List Int),vs=[.str x,.ref l,.ref ld,.ref fd,.int c]∧kindsL[i]?=some x∧z67 H l w h sg∧Good w h sg∧(∀ g∈gs,g∈z4 i sg)∧H ld=some (costsD kvs)∧z30 i w sg gs kvs∧H fd=some (.lst (cs.map V.int))∧cs.length≤100∧Walk (z13 i w sg) (cvOf kvs) c cs∧∀ H',Same H H'→Q (.bl true) H'
def spEach (ad:Ad) (K:PySem.W.Frag):Sp:=fun vs H Q _=>∃ (a p fl l ld gl al:Addr) (ns:List Int) (x:Str) (i:Nat) (n:Int) (w h:Nat) (sg:List Nat) (gs:List Int) (kvs:List (Int × Int)),vs=[.ref a,.ref p,.ref fl,.ref l,.ref ld,.ref gl,.ref al]∧SqL K H a (ns.map V.int)∧ns.length≤63∧CarAt ad H p i n∧i≤2∧z45 ad.C_Floor H fl w h sg∧Good w h sg∧kindsL[i]?=some x∧z67 H l w h sg∧H al=some (.lst ((z4 i sg).map V.int))∧z4 i sg≠[]∧H gl=some (.lst (gs.map V.int))∧gs.length≤200∧(∀ g∈gs,g∈z4 i sg)∧H ld=some (costsD kvs)∧z30 i w sg gs kvs∧∀ H',Q (.bl true) H'
def spLaw (K:PySem.W.Frag):Sp:=fun vs H Q _=>∃ (a:Addr) (ns:List Int),vs=[.ref a]∧SqL K H a (ns.map V.int)∧ns.length≤63∧∀ H',Q (.bl true) H'
theorem z376 {H:Hp}{cv:Int→Option Int}{n:Int}:∀ {ts:List Addr}{ps:List (Int × Int)},Paired (PairAt H) ts ps→(ts.filter fun t=>decide ((cv (i0 H t)).map (i1 H t + ·)=some n)).map (fun t=>V.int (i0 H t))=((ps.filter fun q=>decide ((cv q.1).map (q.2 + ·)=some n)).map (·.1)).map V.int
 | _,_,.nil=>rfl
 | t::ts,q::ps,.cons h r=>by
  have ih:=z376 (cv:=cv) (n:=n) r
  have h:H t=some (.tup [.int q.1,.int q.2]):=h
  have a0:i0 H t=q.1:=by unfold i0;rw [h]
  have a1:i1 H t=q.2:=by unfold i1;rw [h]
  rw [List.filter_cons,List.filter_cons,a0,a1]
  split
  ·rw [List.map_cons,List.map_cons,List.map_cons,ih,a0]
  ·exact ih
theorem z604 {K:PySem.W.Frag}{H:Hp}{ts:List Addr}{ps:List (Int × Int)} (pr:Paired (PairAt H) ts ps){t:Addr}(ht:t∈ts):SqT K H t [.int (i0 H t),.int (i1 H t)]:=by
 obtain⟨q,e⟩:=z427 pr ht
 have e:H t=some (.tup [.int q.1,.int q.2]):=e
 have a0:i0 H t=q.1:=by unfold i0;rw [e]
 have a1:i1 H t=q.2:=by unfold i1;rw [e]
 rw [a0,a1]
 exact SqT.of e
def CHW (i w:Nat) (sg:List Nat) (kvs:List (Int × Int)) (H1:Hp) (c:Int) (fl p gl cd r:Addr) (m:Nat) (σ:St) (H':Hp):Prop:=∃ (ini:List Int) (z k:Int),m=k.toNat∧cvOf kvs z=some k∧Same H1 H'∧H' r=some (.lst ((ini++[z]).map V.int))∧(∀ ds,Walk (z13 i w sg) (cvOf kvs) z ds→Walk (z13 i w sg) (cvOf kvs) c (ini++ds))∧ini.length + 1 + (kvs.filter fun q=>decide (q.2 < k)).length≤kvs.length∧σ=[some (V.ref fl),some (V.ref p),some (V.int c),some (V.ref gl),some (V.ref cd),some (V.ref r)]
theorem z676 (xs:List Int) (z:Int):atI ((xs++[z]).map V.int) (-1)=some (V.int z):=by
 unfold atI ixN
 rw [List.length_map,List.length_append,List.length_singleton,if_neg (by omega),if_pos (by omega)]
 have:(-1 + ((xs.length + 1:Nat):Int)).toNat=xs.length:=by omega
 rw [this]
 simp
theorem z494 {i w:Nat}{sg:List Nat}{gs:List Int}{kvs:List (Int × Int)} (ca:z30 i w sg gs kvs) (gst:∀ g∈gs,g∈z4 i sg){z k:Int}(h:cvOf kvs z=some k):z∈z4 i sg∧InF sg z:=by
 have:=(ca.cv.mp h).1.inC gst
 exact⟨this,z196 (List.mem_filter.mp this).1⟩
theorem z796 {i w:Nat}{sg:List Nat}{gs:List Int}{kvs:List (Int × Int)} (ca:z30 i w sg gs kvs){z k:Int}(h:cvOf kvs z=some k) (k0:k≠0):nxt i w sg kvs z k≠[]:=by
 obtain⟨o,v,m,h1,h2,h3⟩:=(ca.cv.mp h).next (z54 i w sg) k0
 exact List.ne_nil_of_mem (z633.mpr ⟨v,m,h1,ca.cv.mpr h2,h3⟩)
def zeroV (kvs:List (Int × Int)):V→Bool
 | .int z=>decide (cvOf kvs z=some 0)
 | _=>false
def zeros (kvs:List (Int × Int)):List Int:=(kvs.map (·.1)).filter fun z=>decide (cvOf kvs z=some 0)
theorem z735 (kvs:List (Int × Int)):((((kvs.map fun q=>((Sum.inl q.1:Key),V.int q.2)).map fun p=>kV p.1).filter (zeroV kvs)).map fun v=>v)=(zeros kvs).map V.int:=by
 unfold zeros
 have e:((kvs.map fun q=>((Sum.inl q.1:Key),V.int q.2)).map fun p=>kV p.1)=(kvs.map (·.1)).map V.int:=by
  rw [List.map_map,List.map_map]
  rfl
 rw [List.map_id',e,List.filter_map]
 rfl
theorem z507 {H:Hp}{ld D:Addr}{o:Obj}{d x:HO}(hld:H ld=some d) (nD:upd H ld (.frz o d) D=none):upd (upd H ld (.frz o d)) D x ld=some (.frz o d)∧upd (upd (upd H ld (.frz o d)) D x) ld d D=some x∧Same H (upd (upd (upd H ld (.frz o d)) D x) ld d):=by
 have Dl:D≠ld:=fun z=>by rw [z,upd_same] at nD;cases nD
 refine⟨by rw [upd_ne (Ne.symm Dl),upd_same],by rw [upd_ne Dl,upd_same],fun b u e=>?_⟩
 by_cases z:b=ld
 ·rw [z,upd_same,← hld,← z,e]
 ·rw [upd_ne z,upd_ne (fun z2=>by rw [← z2,upd_ne z,e] at nD;cases nD),upd_ne z]
  exact e
theorem z764 {i w:Nat}{sg:List Nat}{gs:List Int}{kvs:List (Int × Int)} (ca:z30 i w sg gs kvs):(zeros kvs).Nodup∧(zeros kvs).length≤kvs.length∧∀ z,z∈zeros kvs↔z∈gs:=by
 refine⟨ca.nd.filter _,Nat.le_trans (List.length_filter_le _ _) (by rw [List.length_map];exact Nat.le_refl _),fun z=>?_⟩
 unfold zeros
 rw [List.mem_filter,decide_eq_true_eq,ca.cv,Least.zero (z54 i w sg)]
 exact⟨fun h=>h.2,fun h=>⟨List.mem_map.mpr ⟨_,cv_mem (ca.cv.mpr ((Least.zero (z54 i w sg)).mpr h)),rfl⟩,h⟩⟩
theorem z760 {xs:List V}{i:Nat}(h:i < xs.length):cutV xs (some ((i:Int) + 1)) none=xs.drop (i + 1):=by
 have e1:HT.sIx xs.length 0 (some ((i:Int) + 1))=i + 1:=by rw [show ((i:Int) + 1)=((i + 1:Nat):Int) by omega,HT.sIx_nat];omega
 have e2:HT.sIx xs.length xs.length (none:Option Int)=xs.length:=by simp [HT.sIx]
 unfold cutV
 rw [e1,e2]
 exact List.take_of_length_le (by rw [List.length_drop];omega)
theorem z718 {st:Int→List (Int × Int)}{cv:Int→Option Int}{c:Int}{cs:List Int}(wk:Walk st cv c cs):atI (cs.map V.int) 0=some (V.int c)∧∃ z,atI (cs.map V.int) (-1)=some (V.int z)∧cv z=some 0∧cs≠[]:=by
 have h1:=wk.head
 obtain⟨z,h2,h3⟩:=wk.last
 have ne:cs≠[]:=fun e=>by rw [e] at h1;cases h1
 refine⟨?_,z,?_,h3,ne⟩
 ·refine atI_nat (j:=0) ?_
  rw [List.getElem?_map,← List.head?_eq_getElem?,h1]
  rfl
 ·obtain⟨ini,y,rfl⟩:∃ ini y,cs=ini++[y]:=⟨cs.dropLast,cs.getLast ne,(List.dropLast_concat_getLast ne).symm⟩
  rw [List.getLast?_append] at h2
  simp at h2
  rw [h2]
  exact z676 ini z
theorem z641 {st:Int→List (Int × Int)}{C:List Int}{c n:Int}(h:Reach st C [] c n):False:=by
 induction h with
 | goal h=>cases h
 | step _ _ _ ih=>exact ih
theorem z768 (xs:List Int) (z:Int):cutV ((xs++[z]).map V.int) none (some (-1))=xs.map V.int:=by
 have e1:HT.sIx ((xs++[z]).map V.int).length 0 none=0:=rfl
 have e2:HT.sIx ((xs++[z]).map V.int).length ((xs++[z]).map V.int).length (some (-1))=xs.length:=by
  rw [List.length_map,List.length_append,List.length_singleton]
  unfold HT.sIx
  simp
  omega
 unfold cutV
 rw [e1,e2]
 simp
theorem at_mod {xs:List Int}(h0:0 < xs.length) (r:Int):∃ c,c∈xs∧atI (xs.map V.int) (r % ((xs.map V.int).length:Int))=some (V.int c):=by
 rw [List.length_map]
 have e1:=Int.emod_nonneg r (show (xs.length:Int)≠0 by omega)
 have e2:=Int.emod_lt_of_pos r (show 0 < (xs.length:Int) by omega)
 obtain⟨c,hc⟩:∃ c,xs[(r % (xs.length:Int)).toNat]?=some c:=⟨_,List.getElem?_eq_getElem (by omega)⟩
 refine⟨c,List.mem_of_getElem? hc,?_⟩
 have:=atI_nat (xs:=xs.map V.int) (j:=(r % (xs.length:Int)).toNat) (v:=V.int c) (by rw [List.getElem?_map,hc];rfl)
 rw [Int.toNat_of_nonneg e1] at this
 exact this
theorem z804 {ad:Ad}{i:Nat}{x:Str}(hi:kindsL[i]?=some x) (h2:i≤2):(clsOf ad i,spKind x)∈[(ad.C_Cart,spKind "cart"),(ad.C_Crawler,spKind "crawler"),(ad.C_Runner,spKind "runner"),(ad.C_Carrier,spKind "carrier")]:=by
 match i,hi with
 | 0,hi=>cases hi;simp [clsOf]
 | 1,hi=>cases hi;simp [clsOf]
 | 2,hi=>cases hi;simp [clsOf]
theorem z783 {w h:Nat}{sg:List Nat}(g:Good w h sg) (hw:(w:Int)≤7) (hh:(h:Int)≤7) (i:Nat):(z4 i sg).length≤49:=by
 have h1:w * h≤7 * 7:=Nat.mul_le_mul (by omega) (by omega)
 have h2:(z4 i sg).length≤sg.length:=by
  unfold z4
  refine Nat.le_trans (List.length_filter_le _ _) ?_
  unfold cellsOf
  refine Nat.le_trans (List.length_filter_le _ _) ?_
  unfold places
  rw [List.length_map,List.length_range]
  exact Nat.le_refl _
 have h3:=g.len
 omega
theorem nd_len:∀ {xs ys:List Int},xs.Nodup→(∀ x∈xs,x∈ys)→xs.length≤ys.length:=fun{xs ys} h s=>by
 induction xs generalizing ys with
 | nil=>exact Nat.zero_le _
 | cons x xs ih=>
  rw [List.nodup_cons] at h
  have:=ih (ys:=ys.erase x) h.2 fun y hy=>(List.mem_erase_of_ne (fun z=>h.1 (by rw [← z];exact hy))).mpr (s y (List.mem_cons_of_mem _ hy))
  have hx:=s x List.mem_cons_self
  have e:=List.length_erase_of_mem hx
  have:=List.length_pos_of_mem hx
  rw [List.length_cons]
  omega
theorem z702 {i w:Nat}{sg:List Nat}{gs:List Int}{kvs:List (Int × Int)} (ca:z30 i w sg gs kvs) (gst:∀ g∈gs,g∈z4 i sg):kvs.length≤(z4 i sg).length:=by
 have:=nd_len ca.nd (ys:=z4 i sg) fun x hx=>by
  obtain⟨q,hq,rfl⟩:=List.mem_map.mp hx
  exact((ca.is q.1 q.2).mp hq).1.inC gst
 rw [List.length_map] at this
 exact this
theorem z635 {i w:Nat}{sg:List Nat}{kvs:List (Int × Int)} (ca:z30 i w sg [] kvs):kvs=[]:=List.eq_nil_iff_forall_not_mem.mpr fun q hq=>z641 ((ca.is q.1 q.2).mp hq).1
seal PA PE PS PSs PI PG
section
variable {P:Program}{w:World}{K:PySem.W.Frag}{mg:Str→Option Value}{base:Heap}{ad:Ad}
theorem z712:(("CHARGER":Str) == ("__debug__":Str))=false:=by decide +kernel
theorem z220:(("COMMON_SIGNS":Str) == ("__debug__":Str))=false:=by decide +kernel
theorem d_Cart:(("Cart":Str) == ("__debug__":Str))=false:=by decide +kernel
theorem z708:(("Crawler":Str) == ("__debug__":Str))=false:=by decide +kernel
theorem z811:(("Floor":Str) == ("__debug__":Str))=false:=by decide +kernel
theorem d_Heap:(("Heap":Str) == ("__debug__":Str))=false:=by decide +kernel
theorem z805:(("KINDS":Str) == ("__debug__":Str))=false:=by decide +kernel
theorem d_LANE:(("LANE":Str) == ("__debug__":Str))=false:=by decide +kernel
theorem z551:(("MOST_FULL":Str) == ("__debug__":Str))=false:=by decide +kernel
theorem z560:(("MOST_ROWS":Str) == ("__debug__":Str))=false:=by decide +kernel
theorem z465:(("MOST_SIGNS":Str) == ("__debug__":Str))=false:=by decide +kernel
theorem z745:(("ROUGH":Str) == ("__debug__":Str))=false:=by decide +kernel
theorem z774:(("Runner":Str) == ("__debug__":Str))=false:=by decide +kernel
theorem z792:(("SIGNS":Str) == ("__debug__":Str))=false:=by decide +kernel
theorem d_WALL:(("WALL":Str) == ("__debug__":Str))=false:=by decide +kernel
theorem z50:(("_law_able":Str) == ("__debug__":Str))=false:=by decide +kernel
theorem z51:(("_law_able":Str) == ("__classdict__":Str))=false:=by decide +kernel
theorem z247:(("_law_across":Str) == ("__debug__":Str))=false:=by decide +kernel
theorem z239:(("_law_across":Str) == ("__classdict__":Str))=false:=by decide +kernel
theorem z470:(("_law_again":Str) == ("__debug__":Str))=false:=by decide +kernel
theorem z482:(("_law_again":Str) == ("__classdict__":Str))=false:=by decide +kernel
theorem z161:(("_law_at":Str) == ("__debug__":Str))=false:=by decide +kernel
theorem z428:(("_law_beside":Str) == ("__debug__":Str))=false:=by decide +kernel
theorem z15:(("_law_carrier":Str) == ("__debug__":Str))=false:=by decide +kernel
theorem z14:(("_law_carrier":Str) == ("__classdict__":Str))=false:=by decide +kernel
theorem z6:(("_law_cell":Str) == ("__debug__":Str))=false:=by decide +kernel
theorem z7:(("_law_cell":Str) == ("__classdict__":Str))=false:=by decide +kernel
theorem z310:(("_law_cells":Str) == ("__debug__":Str))=false:=by decide +kernel
theorem z451:(("_law_closed":Str) == ("__debug__":Str))=false:=by decide +kernel
theorem z563:(("_law_cost":Str) == ("__debug__":Str))=false:=by decide +kernel
theorem z369:(("_law_down":Str) == ("__debug__":Str))=false:=by decide +kernel
theorem z353:(("_law_down":Str) == ("__classdict__":Str))=false:=by decide +kernel
theorem z457:(("_law_due":Str) == ("__debug__":Str))=false:=by decide +kernel
theorem z436:(("_law_due":Str) == ("__classdict__":Str))=false:=by decide +kernel
theorem z555:(("_law_each":Str) == ("__debug__":Str))=false:=by decide +kernel
theorem z199:(("_law_first":Str) == ("__debug__":Str))=false:=by decide +kernel
theorem z195:(("_law_first":Str) == ("__classdict__":Str))=false:=by decide +kernel
theorem z40:(("_law_floor":Str) == ("__debug__":Str))=false:=by decide +kernel
theorem z39:(("_law_floor":Str) == ("__classdict__":Str))=false:=by decide +kernel
theorem z9:(("_law_found":Str) == ("__debug__":Str))=false:=by decide +kernel
theorem z10:(("_law_found":Str) == ("__classdict__":Str))=false:=by decide +kernel
theorem z565:(("_law_goal":Str) == ("__debug__":Str))=false:=by decide +kernel
theorem z552:(("_law_goal":Str) == ("__classdict__":Str))=false:=by decide +kernel
theorem z56:(("_law_goals":Str) == ("__debug__":Str))=false:=by decide +kernel
theorem z57:(("_law_goals":Str) == ("__classdict__":Str))=false:=by decide +kernel
theorem z142:(("_law_handed":Str) == ("__debug__":Str))=false:=by decide +kernel
theorem z131:(("_law_handed":Str) == ("__classdict__":Str))=false:=by decide +kernel
theorem z359:(("_law_here":Str) == ("__debug__":Str))=false:=by decide +kernel
theorem z346:(("_law_here":Str) == ("__classdict__":Str))=false:=by decide +kernel
theorem z365:(("_law_high":Str) == ("__debug__":Str))=false:=by decide +kernel
theorem z375:(("_law_high":Str) == ("__classdict__":Str))=false:=by decide +kernel
theorem z677:(("_law_j":Str) == ("__debug__":Str))=false:=by decide +kernel
theorem z584:(("_law_j":Str) == ("__classdict__":Str))=false:=by decide +kernel
theorem z79:(("_law_k":Str) == ("__debug__":Str))=false:=by decide +kernel
theorem z78:(("_law_k":Str) == ("__classdict__":Str))=false:=by decide +kernel
theorem z44:(("_law_kind":Str) == ("__debug__":Str))=false:=by decide +kernel
theorem z42:(("_law_kind":Str) == ("__classdict__":Str))=false:=by decide +kernel
theorem z16:(("_law_left":Str) == ("__debug__":Str))=false:=by decide +kernel
theorem z17:(("_law_left":Str) == ("__classdict__":Str))=false:=by decide +kernel
theorem z484:(("_law_lines":Str) == ("__debug__":Str))=false:=by decide +kernel
theorem v2:(("_law_lines_here":Str) == ("__debug__":Str))=false:=by decide +kernel
theorem zz1:(("_law_lines_here":Str) == ("__classdict__":Str))=false:=by decide +kernel
theorem z472:(("_law_mixed":Str) == ("__debug__":Str))=false:=by decide +kernel
theorem z372:(("_law_most":Str) == ("__debug__":Str))=false:=by decide +kernel
theorem z343:(("_law_most":Str) == ("__classdict__":Str))=false:=by decide +kernel
theorem z29:(("_law_other":Str) == ("__debug__":Str))=false:=by decide +kernel
theorem z32:(("_law_other":Str) == ("__classdict__":Str))=false:=by decide +kernel
theorem z21:(("_law_script":Str) == ("__debug__":Str))=false:=by decide +kernel
theorem z20:(("_law_script":Str) == ("__classdict__":Str))=false:=by decide +kernel
theorem z59:(("_law_sign":Str) == ("__debug__":Str))=false:=by decide +kernel
theorem z143:(("_law_sign_here":Str) == ("__debug__":Str))=false:=by decide +kernel
theorem z137:(("_law_sign_here":Str) == ("__classdict__":Str))=false:=by decide +kernel
theorem z290:(("_law_signs":Str) == ("__debug__":Str))=false:=by decide +kernel
theorem z276:(("_law_signs":Str) == ("__classdict__":Str))=false:=by decide +kernel
theorem z229:(("_law_some":Str) == ("__debug__":Str))=false:=by decide +kernel
theorem z232:(("_law_some":Str) == ("__classdict__":Str))=false:=by decide +kernel
theorem z243:(("_law_stands":Str) == ("__debug__":Str))=false:=by decide +kernel
theorem z284:(("_law_steps":Str) == ("__debug__":Str))=false:=by decide +kernel
theorem z253:(("_law_steps_here":Str) == ("__debug__":Str))=false:=by decide +kernel
theorem z259:(("_law_steps_here":Str) == ("__classdict__":Str))=false:=by decide +kernel
theorem z286:(("_law_taken":Str) == ("__debug__":Str))=false:=by decide +kernel
theorem z302:(("_law_taken":Str) == ("__classdict__":Str))=false:=by decide +kernel
theorem z157:(("_law_text":Str) == ("__debug__":Str))=false:=by decide +kernel
theorem z160:(("_law_text":Str) == ("__classdict__":Str))=false:=by decide +kernel
theorem z295:(("_law_thing":Str) == ("__debug__":Str))=false:=by decide +kernel
theorem z296:(("_law_thing":Str) == ("__classdict__":Str))=false:=by decide +kernel
theorem z437:(("_law_walked":Str) == ("__debug__":Str))=false:=by decide +kernel
theorem z474:(("_law_whole":Str) == ("__debug__":Str))=false:=by decide +kernel
theorem z100:(("_law_wide":Str) == ("__debug__":Str))=false:=by decide +kernel
theorem z106:(("_law_wide":Str) == ("__classdict__":Str))=false:=by decide +kernel
theorem z624:(("above":Str) == ("__debug__":Str))=false:=by decide +kernel
theorem z622:(("above":Str) == ("__classdict__":Str))=false:=by decide +kernel
theorem d_all:(("all":Str) == ("__debug__":Str))=false:=by decide +kernel
theorem n_all:("all":Str)≠"__name__":=by decide +kernel
theorem z184:(("below":Str) == ("__debug__":Str))=false:=by decide +kernel
theorem z187:(("below":Str) == ("__classdict__":Str))=false:=by decide +kernel
theorem d_bool:(("bool":Str) == ("__debug__":Str))=false:=by decide +kernel
theorem n_bool:("bool":Str)≠"__name__":=by decide +kernel
theorem z112:(("carrier":Str) == ("__debug__":Str))=false:=by decide +kernel
theorem z107:(("carrier":Str) == ("__classdict__":Str))=false:=by decide +kernel
theorem d_q25:(("carrier_of":Str) == ("__debug__":Str))=false:=by decide +kernel
theorem d_cell:(("cell":Str) == ("__debug__":Str))=false:=by decide +kernel
theorem e_cell:(("cell":Str) == ("__classdict__":Str))=false:=by decide +kernel
theorem z488:(("cells":Str) == ("__debug__":Str))=false:=by decide +kernel
theorem z497:(("cells":Str) == ("__classdict__":Str))=false:=by decide +kernel
theorem z637:(("chargers":Str) == ("__debug__":Str))=false:=by decide +kernel
theorem z603:(("chargers":Str) == ("__classdict__":Str))=false:=by decide +kernel
theorem d_q37:(("cheapest":Str) == ("__debug__":Str))=false:=by decide +kernel
theorem d_q16:(("check_floor":Str) == ("__debug__":Str))=false:=by decide +kernel
theorem d_q30:(("check_row":Str) == ("__debug__":Str))=false:=by decide +kernel
theorem d_cost:(("cost":Str) == ("__debug__":Str))=false:=by decide +kernel
theorem e_cost:(("cost":Str) == ("__classdict__":Str))=false:=by decide +kernel
theorem z360:(("costs":Str) == ("__debug__":Str))=false:=by decide +kernel
theorem z374:(("costs":Str) == ("__classdict__":Str))=false:=by decide +kernel
theorem d_q35:(("costs_to":Str) == ("__debug__":Str))=false:=by decide +kernel
theorem d_dict:(("dict":Str) == ("__debug__":Str))=false:=by decide +kernel
theorem n_dict:("dict":Str)≠"__name__":=by decide +kernel
theorem z793:(("first":Str) == ("__debug__":Str))=false:=by decide +kernel
theorem z799:(("first":Str) == ("__classdict__":Str))=false:=by decide +kernel
theorem z53:(("floor":Str) == ("__debug__":Str))=false:=by decide +kernel
theorem z52:(("floor":Str) == ("__classdict__":Str))=false:=by decide +kernel
theorem d_full:(("full":Str) == ("__debug__":Str))=false:=by decide +kernel
theorem e_full:(("full":Str) == ("__classdict__":Str))=false:=by decide +kernel
theorem d_goal:(("goal":Str) == ("__debug__":Str))=false:=by decide +kernel
theorem e_goal:(("goal":Str) == ("__classdict__":Str))=false:=by decide +kernel
theorem z743:(("goals":Str) == ("__debug__":Str))=false:=by decide +kernel
theorem z754:(("goals":Str) == ("__classdict__":Str))=false:=by decide +kernel
theorem d_heap:(("heap":Str) == ("__debug__":Str))=false:=by decide +kernel
theorem e_heap:(("heap":Str) == ("__classdict__":Str))=false:=by decide +kernel
theorem d_int:(("int":Str) == ("__debug__":Str))=false:=by decide +kernel
theorem n_int:("int":Str)≠"__name__":=by decide +kernel
theorem d_into:(("into":Str) == ("__debug__":Str))=false:=by decide +kernel
theorem e_into:(("into":Str) == ("__classdict__":Str))=false:=by decide +kernel
theorem d_q39:(("is_among":Str) == ("__debug__":Str))=false:=by decide +kernel
theorem d_q38:(("is_whole":Str) == ("__debug__":Str))=false:=by decide +kernel
theorem z22:(("isinstance":Str) == ("__debug__":Str))=false:=by decide +kernel
theorem z23:("isinstance":Str)≠"__name__":=by decide +kernel
theorem d_kept:(("kept":Str) == ("__debug__":Str))=false:=by decide +kernel
theorem e_kept:(("kept":Str) == ("__classdict__":Str))=false:=by decide +kernel
theorem d_kind:(("kind":Str) == ("__debug__":Str))=false:=by decide +kernel
theorem e_kind:(("kind":Str) == ("__classdict__":Str))=false:=by decide +kernel
theorem d_last:(("last":Str) == ("__debug__":Str))=false:=by decide +kernel
theorem e_last:(("last":Str) == ("__classdict__":Str))=false:=by decide +kernel
theorem z791:(("least":Str) == ("__debug__":Str))=false:=by decide +kernel
theorem z819:(("least":Str) == ("__classdict__":Str))=false:=by decide +kernel
theorem d_q22:(("least_next":Str) == ("__debug__":Str))=false:=by decide +kernel
theorem d_len:(("len":Str) == ("__debug__":Str))=false:=by decide +kernel
theorem n_len:("len":Str)≠"__name__":=by decide +kernel
theorem d_line:(("line":Str) == ("__debug__":Str))=false:=by decide +kernel
theorem e_line:(("line":Str) == ("__classdict__":Str))=false:=by decide +kernel
theorem z124:(("lines":Str) == ("__debug__":Str))=false:=by decide +kernel
theorem z118:(("lines":Str) == ("__classdict__":Str))=false:=by decide +kernel
theorem d_list:(("list":Str) == ("__debug__":Str))=false:=by decide +kernel
theorem n_list:("list":Str)≠"__name__":=by decide +kernel
theorem d_min:(("min":Str) == ("__debug__":Str))=false:=by decide +kernel
theorem n_min:("min":Str)≠"__name__":=by decide +kernel
theorem d_most:(("most":Str) == ("__debug__":Str))=false:=by decide +kernel
theorem e_most:(("most":Str) == ("__classdict__":Str))=false:=by decide +kernel
theorem d_near:(("near":Str) == ("__debug__":Str))=false:=by decide +kernel
theorem e_near:(("near":Str) == ("__classdict__":Str))=false:=by decide +kernel
theorem d_q36:(("needs_of":Str) == ("__debug__":Str))=false:=by decide +kernel
theorem z202:(("other":Str) == ("__debug__":Str))=false:=by decide +kernel
theorem z218:(("other":Str) == ("__classdict__":Str))=false:=by decide +kernel
theorem z806:(("pairs":Str) == ("__debug__":Str))=false:=by decide +kernel
theorem z815:(("pairs":Str) == ("__classdict__":Str))=false:=by decide +kernel
theorem z125:(("place":Str) == ("__debug__":Str))=false:=by decide +kernel
theorem z114:(("place":Str) == ("__classdict__":Str))=false:=by decide +kernel
theorem d_self:(("self":Str) == ("__debug__":Str))=false:=by decide +kernel
theorem e_self:(("self":Str) == ("__classdict__":Str))=false:=by decide +kernel
theorem d_sign:(("sign":Str) == ("__debug__":Str))=false:=by decide +kernel
theorem e_sign:(("sign":Str) == ("__classdict__":Str))=false:=by decide +kernel
theorem z771:(("sorted":Str) == ("__debug__":Str))=false:=by decide +kernel
theorem z781:("sorted":Str)≠"__name__":=by decide +kernel
theorem d_q6:(("standing_cells":Str) == ("__debug__":Str))=false:=by decide +kernel
theorem d_q21:(("steps_into":Str) == ("__debug__":Str))=false:=by decide +kernel
theorem d_str:(("str":Str) == ("__debug__":Str))=false:=by decide +kernel
theorem n_str:("str":Str)≠"__name__":=by decide +kernel
theorem z570:(("taken":Str) == ("__debug__":Str))=false:=by decide +kernel
theorem z629:(("taken":Str) == ("__classdict__":Str))=false:=by decide +kernel
theorem z446:(("thing":Str) == ("__debug__":Str))=false:=by decide +kernel
theorem z438:(("thing":Str) == ("__classdict__":Str))=false:=by decide +kernel
theorem d_wide:(("wide":Str) == ("__debug__":Str))=false:=by decide +kernel
theorem e_wide:(("wide":Str) == ("__classdict__":Str))=false:=by decide +kernel
theorem z518:(defScope s_q38).names.lookup ("thing":Str)=some .local:=by decide +kernel
theorem z370:Vis (defScope s_q38) "thing":=Or.inl z518
theorem z538:(defScope s_q39).names.lookup ("thing":Str)=some .local:=by decide +kernel
theorem z351:Vis (defScope s_q39) "thing":=Or.inl z538
theorem z525:(defScope s_q39).names.lookup ("least":Str)=some .local:=by decide +kernel
theorem z566:Vis (defScope s_q39) "least":=Or.inl z525
theorem z592:(defScope s_q39).names.lookup ("most":Str)=some .local:=by decide +kernel
theorem z611:Vis (defScope s_q39) "most":=Or.inl z592
theorem z571:(defScope s_q30).names.lookup ("line":Str)=some .local:=by decide +kernel
theorem z270:Vis (defScope s_q30) "line":=Or.inl z571
theorem z626:(defScope s_q30).names.lookup ("wide":Str)=some .local:=by decide +kernel
theorem z606:Vis (defScope s_q30) "wide":=Or.inl z626
theorem z548:(defScope s_q16).names.lookup ("lines":Str)=some .local:=by decide +kernel
theorem z61:Vis (defScope s_q16) "lines":=Or.inl z548
theorem z445:(defScope s_q16).names.lookup ("line":Str)=some .local:=by decide +kernel
theorem z663:Vis (defScope s_q16) "line":=Or.inl z445
theorem z620:(defScope s_q23).names.lookup ("self":Str)=some .local:=by decide +kernel
theorem z214:Vis (defScope s_q23) "self":=Or.inl z620
theorem z539:(defScope s_q23).names.lookup ("lines":Str)=some .local:=by decide +kernel
theorem z103:Vis (defScope s_q23) "lines":=Or.inl z539
theorem z618:(defScope s_q31).names.lookup ("self":Str)=some .local:=by decide +kernel
theorem z412:Vis (defScope s_q31) "self":=Or.inl z618
theorem z608:(defScope s_q31).names.lookup ("cell":Str)=some .local:=by decide +kernel
theorem z419:Vis (defScope s_q31) "cell":=Or.inl z608
theorem z573:(defScope s_q24).names.lookup ("self":Str)=some .local:=by decide +kernel
theorem z574:Vis (defScope s_q24) "self":=Or.inl z573
theorem z587:(defScope s_q24).names.lookup ("cell":Str)=some .local:=by decide +kernel
theorem z612:Vis (defScope s_q24) "cell":=Or.inl z587
theorem z729:(defScope s_q9).names.lookup ("self":Str)=some .local:=by decide +kernel
theorem z697:Vis (defScope s_q9) "self":=Or.inl z729
theorem z736:(defScope s_q9).names.lookup ("cell":Str)=some .local:=by decide +kernel
theorem z725:Vis (defScope s_q9) "cell":=Or.inl z736
theorem z643:(defScope s_q32).names.lookup ("self":Str)=some .local:=by decide +kernel
theorem z648:Vis (defScope s_q32) "self":=Or.inl z643
theorem z586:(defScope s_q32).names.lookup ("cell":Str)=some .local:=by decide +kernel
theorem z654:Vis (defScope s_q32) "cell":=Or.inl z586
theorem z653:(defScope s_q10).names.lookup ("self":Str)=some .cell:=by decide +kernel
theorem z146:Vis (defScope s_q10) "self":=Or.inr (Or.inl z653)
theorem z600:(defScope s_q10).names.lookup ("cell":Str)=some .local:=by decide +kernel
theorem z102:Vis (defScope s_q10) "cell":=Or.inl z600
theorem z416:(defScope s_q10).names.lookup ("near":Str)=some .local:=by decide +kernel
theorem z215:Vis (defScope s_q10) "near":=Or.inl z416
theorem z655:(defScope s_q17).names.lookup ("self":Str)=some .cell:=by decide +kernel
theorem z630:Vis (defScope s_q17) "self":=Or.inr (Or.inl z655)
theorem z683:(defScope s_q7).names.lookup ("self":Str)=some .cell:=by decide +kernel
theorem z710:Vis (defScope s_q7) "self":=Or.inr (Or.inl z683)
theorem z675:(defScope s_q11).names.lookup ("self":Str)=some .local:=by decide +kernel
theorem z578:Vis (defScope s_q11) "self":=Or.inl z675
theorem z659:(defScope s_q11).names.lookup ("full":Str)=some .local:=by decide +kernel
theorem z658:Vis (defScope s_q11) "full":=Or.inl z659
theorem z690:(defScope s_q2).names.lookup ("sign":Str)=some .local:=by decide +kernel
theorem z722:Vis (defScope s_q2) "sign":=Or.inl z690
theorem z695:(defScope s_q3).names.lookup ("sign":Str)=some .local:=by decide +kernel
theorem z501:Vis (defScope s_q3) "sign":=Or.inl z695
theorem z527:(defScope s_q15).names.lookup ("floor":Str)=some .local:=by decide +kernel
theorem z561:Vis (defScope s_q15) "floor":=Or.inl z527
theorem z557:(defScope s_q15).names.lookup ("other":Str)=some .local:=by decide +kernel
theorem z550:Vis (defScope s_q15) "other":=Or.inl z557
theorem z532:(defScope s_q19).names.lookup ("floor":Str)=some .local:=by decide +kernel
theorem z159:Vis (defScope s_q19) "floor":=Or.inl z532
theorem z632:(defScope s_q19).names.lookup ("cell":Str)=some .local:=by decide +kernel
theorem z434:Vis (defScope s_q19) "cell":=Or.inl z632
theorem z549:(defScope s_q19).names.lookup ("other":Str)=some .local:=by decide +kernel
theorem z358:Vis (defScope s_q19) "other":=Or.inl z549
theorem z721:(defScope s_q0).names.lookup ("self":Str)=some .local:=by decide +kernel
theorem z379:Vis (defScope s_q0) "self":=Or.inl z721
theorem z619:(defScope s_q0).names.lookup ("floor":Str)=some .local:=by decide +kernel
theorem z280:Vis (defScope s_q0) "floor":=Or.inl z619
theorem z701:(defScope s_q0).names.lookup ("cell":Str)=some .local:=by decide +kernel
theorem z498:Vis (defScope s_q0) "cell":=Or.inl z701
theorem z678:(defScope s_q0).names.lookup ("other":Str)=some .local:=by decide +kernel
theorem z442:Vis (defScope s_q0) "other":=Or.inl z678
theorem z576:(defScope s_q8).names.lookup ("floor":Str)=some .cell:=by decide +kernel
theorem z647:Vis (defScope s_q8) "floor":=Or.inr (Or.inl z576)
theorem z705:(defScope s_q8).names.lookup ("cell":Str)=some .cell:=by decide +kernel
theorem z732:Vis (defScope s_q8) "cell":=Or.inr (Or.inl z705)
theorem z426:(defScope s_q8).names.lookup ("pairs":Str)=some .local:=by decide +kernel
theorem z605:Vis (defScope s_q8) "pairs":=Or.inl z426
theorem z568:(defScope s_q25).names.lookup ("kind":Str)=some .local:=by decide +kernel
theorem z200:Vis (defScope s_q25) "kind":=Or.inl z568
theorem z569:(defScope s_q25).names.lookup ("full":Str)=some .local:=by decide +kernel
theorem z212:Vis (defScope s_q25) "full":=Or.inl z569
theorem z250:(defScope s_Lat).names.lookup ("_law_script":Str)=some .local:=by decide +kernel
theorem z115:Vis (defScope s_Lat) "_law_script":=Or.inl z250
theorem z479:(defScope s_Lat).names.lookup ("_law_k":Str)=some .local:=by decide +kernel
theorem z80:Vis (defScope s_Lat) "_law_k":=Or.inl z479
theorem z96:(defScope s_Lat).names.lookup ("_law_cell":Str)=some .local:=by decide +kernel
theorem z337:Vis (defScope s_Lat) "_law_cell":=Or.inl z96
theorem z332:(defScope s_q44).names.lookup ("_law_cell":Str)=some .local:=by decide +kernel
theorem z339:Vis (defScope s_q44) "_law_cell":=Or.inl z332
theorem z478:(defScope s_q44).names.lookup ("_law_k":Str)=some .local:=by decide +kernel
theorem z198:Vis (defScope s_q44) "_law_k":=Or.inl z478
theorem z309:(defScope s_q45).names.lookup ("_law_thing":Str)=some .local:=by decide +kernel
theorem z140:Vis (defScope s_q45) "_law_thing":=Or.inl z309
theorem z260:(defScope s_q46).names.lookup ("_law_script":Str)=some .local:=by decide +kernel
theorem z119:Vis (defScope s_q46) "_law_script":=Or.inl z260
theorem z463:(defScope s_q46).names.lookup ("_law_k":Str)=some .local:=by decide +kernel
theorem z308:Vis (defScope s_q46) "_law_k":=Or.inl z463
theorem z338:(defScope s_q46).names.lookup ("_law_most":Str)=some .local:=by decide +kernel
theorem z182:Vis (defScope s_q46) "_law_most":=Or.inl z338
theorem z148:(defScope s_q46).names.lookup ("_law_first":Str)=some .local:=by decide +kernel
theorem z82:Vis (defScope s_q46) "_law_first":=Or.inl z148
theorem z193:(defScope s_q46).names.lookup ("_law_wide":Str)=some .cell:=by decide +kernel
theorem z314:Vis (defScope s_q46) "_law_wide":=Or.inr (Or.inl z193)
theorem z173:(defScope s_q46).names.lookup ("_law_high":Str)=some .local:=by decide +kernel
theorem z185:Vis (defScope s_q46) "_law_high":=Or.inl z173
theorem z136:(defScope s_q46).names.lookup ("_law_signs":Str)=some .local:=by decide +kernel
theorem z149:Vis (defScope s_q46) "_law_signs":=Or.inl z136
theorem z66:(defScope s_q46).names.lookup ("_law_text":Str)=some .cell:=by decide +kernel
theorem z63:Vis (defScope s_q46) "_law_text":=Or.inr (Or.inl z66)
theorem z304:(defScope s_q46).names.lookup ("_law_j":Str)=some .local:=by decide +kernel
theorem z291:Vis (defScope s_q46) "_law_j":=Or.inl z304
theorem z128:(defScope z139).names.lookup ("_law_lines_here":Str)=some .local:=by decide +kernel
theorem z37:Vis (defScope z139) "_law_lines_here":=Or.inl z128
theorem z258:(defScope z139).names.lookup ("_law_cell":Str)=some .local:=by decide +kernel
theorem z117:Vis (defScope z139) "_law_cell":=Or.inl z258
theorem z165:(defScope s_q47).names.lookup ("_law_lines_here":Str)=some .cell:=by decide +kernel
theorem z76:Vis (defScope s_q47) "_law_lines_here":=Or.inr (Or.inl z165)
theorem z166:(defScope s_q40).names.lookup ("_law_lines_here":Str)=some .local:=by decide +kernel
theorem z75:Vis (defScope s_q40) "_law_lines_here":=Or.inl z166
theorem z316:(defScope s_q40).names.lookup ("_law_cell":Str)=some .local:=by decide +kernel
theorem z179:Vis (defScope s_q40) "_law_cell":=Or.inl z316
theorem z181:(defScope s_q40).names.lookup ("_law_wide":Str)=some .local:=by decide +kernel
theorem z65:Vis (defScope s_q40) "_law_wide":=Or.inl z181
theorem z145:(defScope s_q40).names.lookup ("_law_found":Str)=some .local:=by decide +kernel
theorem z151:Vis (defScope s_q40) "_law_found":=Or.inl z145
theorem z134:(defScope s_q40).names.lookup ("_law_other":Str)=some .local:=by decide +kernel
theorem z85:Vis (defScope s_q40) "_law_other":=Or.inl z134
theorem z183:(defScope s_q40).names.lookup ("_law_down":Str)=some .local:=by decide +kernel
theorem z189:Vis (defScope s_q40) "_law_down":=Or.inl z183
theorem z120:(defScope s_q40).names.lookup ("_law_across":Str)=some .local:=by decide +kernel
theorem z122:Vis (defScope s_q40) "_law_across":=Or.inl z120
theorem z331:(defScope s_q41).names.lookup ("_law_kind":Str)=some .local:=by decide +kernel
theorem z320:Vis (defScope s_q41) "_law_kind":=Or.inl z331
theorem z197:(defScope s_q41).names.lookup ("_law_sign_here":Str)=some .local:=by decide +kernel
theorem z81:Vis (defScope s_q41) "_law_sign_here":=Or.inl z197
theorem z257:(defScope z68).names.lookup ("_law_kind":Str)=some .local:=by decide +kernel
theorem z70:Vis (defScope z68) "_law_kind":=Or.inl z257
theorem z127:(defScope z68).names.lookup ("_law_lines_here":Str)=some .local:=by decide +kernel
theorem z11:Vis (defScope z68) "_law_lines_here":=Or.inl z127
theorem z248:(defScope z68).names.lookup ("_law_cell":Str)=some .local:=by decide +kernel
theorem z116:Vis (defScope z68) "_law_cell":=Or.inl z248
theorem z234:(defScope z68).names.lookup ("_law_other":Str)=some .local:=by decide +kernel
theorem z43:Vis (defScope z68) "_law_other":=Or.inl z234
theorem z329:(defScope s_q48).names.lookup ("_law_kind":Str)=some .local:=by decide +kernel
theorem z315:Vis (defScope s_q48) "_law_kind":=Or.inl z329
theorem z167:(defScope s_q48).names.lookup ("_law_lines_here":Str)=some .local:=by decide +kernel
theorem z72:Vis (defScope s_q48) "_law_lines_here":=Or.inl z167
theorem z317:(defScope s_q48).names.lookup ("_law_cell":Str)=some .local:=by decide +kernel
theorem z176:Vis (defScope s_q48) "_law_cell":=Or.inl z317
theorem z156:(defScope s_q48).names.lookup ("_law_found":Str)=some .local:=by decide +kernel
theorem z138:Vis (defScope s_q48) "_law_found":=Or.inl z156
theorem z152:(defScope s_q48).names.lookup ("_law_other":Str)=some .local:=by decide +kernel
theorem z154:Vis (defScope s_q48) "_law_other":=Or.inl z152
theorem z147:(defScope s_q48).names.lookup ("_law_taken":Str)=some .local:=by decide +kernel
theorem z133:Vis (defScope s_q48) "_law_taken":=Or.inl z147
theorem z666:(defScope s_q26).names.lookup ("self":Str)=some .local:=by decide +kernel
theorem z640:Vis (defScope s_q26) "self":=Or.inl z666
theorem z656:(defScope s_q29).names.lookup ("self":Str)=some .local:=by decide +kernel
theorem z207:Vis (defScope s_q29) "self":=Or.inl z656
theorem z523:(defScope s_q29).names.lookup ("place":Str)=some .local:=by decide +kernel
theorem z350:Vis (defScope s_q29) "place":=Or.inl z523
theorem z520:(defScope s_q29).names.lookup ("other":Str)=some .local:=by decide +kernel
theorem z371:Vis (defScope s_q29) "other":=Or.inl z520
theorem z408:(defScope s_q29).names.lookup ("kept":Str)=some .local:=by decide +kernel
theorem z644:Vis (defScope s_q29) "kept":=Or.inl z408
theorem z693:(defScope s_q1).names.lookup ("self":Str)=some .local:=by decide +kernel
theorem z266:Vis (defScope s_q1) "self":=Or.inl z693
theorem z581:(defScope s_q1).names.lookup ("place":Str)=some .local:=by decide +kernel
theorem z599:Vis (defScope s_q1) "place":=Or.inl z581
theorem z441:(defScope s_q1).names.lookup ("below":Str)=some .local:=by decide +kernel
theorem z99:Vis (defScope s_q1) "below":=Or.inl z441
theorem z741:(defScope s_q5).names.lookup ("self":Str)=some .local:=by decide +kernel
theorem z267:Vis (defScope s_q5) "self":=Or.inl z741
theorem z274:(defScope s_q5).names.lookup ("place":Str)=some .local:=by decide +kernel
theorem z141:Vis (defScope s_q5) "place":=Or.inl z274
theorem z306:(defScope s_q5).names.lookup ("above":Str)=some .local:=by decide +kernel
theorem z299:Vis (defScope s_q5) "above":=Or.inl z306
theorem z733:(defScope s_q4).names.lookup ("self":Str)=some .local:=by decide +kernel
theorem z208:Vis (defScope s_q4) "self":=Or.inl z733
theorem z303:(defScope s_q4).names.lookup ("place":Str)=some .local:=by decide +kernel
theorem z221:Vis (defScope s_q4) "place":=Or.inl z303
theorem z281:(defScope s_q4).names.lookup ("below":Str)=some .local:=by decide +kernel
theorem z209:Vis (defScope s_q4) "below":=Or.inl z281
theorem z670:(defScope s_q20).names.lookup ("self":Str)=some .local:=by decide +kernel
theorem z411:Vis (defScope s_q20) "self":=Or.inl z670
theorem z575:(defScope s_q34).names.lookup ("self":Str)=some .local:=by decide +kernel
theorem z398:Vis (defScope s_q34) "self":=Or.inl z575
theorem z546:(defScope s_q34).names.lookup ("thing":Str)=some .local:=by decide +kernel
theorem z534:Vis (defScope s_q34) "thing":=Or.inl z546
theorem z645:(defScope s_q27).names.lookup ("self":Str)=some .local:=by decide +kernel
theorem z155:Vis (defScope s_q27) "self":=Or.inl z645
theorem z344:(defScope s_q27).names.lookup ("first":Str)=some .local:=by decide +kernel
theorem z558:Vis (defScope s_q27) "first":=Or.inl z344
theorem z424:(defScope s_q27).names.lookup ("last":Str)=some .local:=by decide +kernel
theorem z596:Vis (defScope s_q27) "last":=Or.inl z424
theorem z662:(defScope s_q28).names.lookup ("self":Str)=some .local:=by decide +kernel
theorem z642:Vis (defScope s_q28) "self":=Or.inl z662
theorem z597:(defScope s_q6).names.lookup ("floor":Str)=some .cell:=by decide +kernel
theorem z585:Vis (defScope s_q6) "floor":=Or.inr (Or.inl z597)
theorem z553:(defScope s_q21).names.lookup ("floor":Str)=some .local:=by decide +kernel
theorem z235:Vis (defScope s_q21) "floor":=Or.inl z553
theorem z405:(defScope s_q21).names.lookup ("carrier":Str)=some .local:=by decide +kernel
theorem z245:Vis (defScope s_q21) "carrier":=Or.inl z405
theorem z399:(defScope s_q21).names.lookup ("into":Str)=some .local:=by decide +kernel
theorem z271:Vis (defScope s_q21) "into":=Or.inl z399
theorem z312:(defScope s_q21).names.lookup ("cell":Str)=some .local:=by decide +kernel
theorem z289:Vis (defScope s_q21) "cell":=Or.inl z312
theorem z340:(defScope s_q21).names.lookup ("other":Str)=some .local:=by decide +kernel
theorem z542:Vis (defScope s_q21) "other":=Or.inl z340
theorem z430:(defScope s_q21).names.lookup ("cost":Str)=some .local:=by decide +kernel
theorem z664:Vis (defScope s_q21) "cost":=Or.inl z430
theorem z529:(defScope s_q35).names.lookup ("floor":Str)=some .local:=by decide +kernel
theorem z541:Vis (defScope s_q35) "floor":=Or.inl z529
theorem z453:(defScope s_q35).names.lookup ("carrier":Str)=some .local:=by decide +kernel
theorem z402:Vis (defScope s_q35) "carrier":=Or.inl z453
theorem z562:(defScope s_q35).names.lookup ("goals":Str)=some .local:=by decide +kernel
theorem z543:Vis (defScope s_q35) "goals":=Or.inl z562
theorem z407:(defScope s_q35).names.lookup ("into":Str)=some .local:=by decide +kernel
theorem z668:Vis (defScope s_q35) "into":=Or.inl z407
theorem z342:(defScope s_q35).names.lookup ("costs":Str)=some .local:=by decide +kernel
theorem z237:Vis (defScope s_q35) "costs":=Or.inl z342
theorem z410:(defScope s_q35).names.lookup ("heap":Str)=some .local:=by decide +kernel
theorem z204:Vis (defScope s_q35) "heap":=Or.inl z410
theorem z425:(defScope s_q35).names.lookup ("goal":Str)=some .local:=by decide +kernel
theorem z657:Vis (defScope s_q35) "goal":=Or.inl z425
theorem z366:(defScope s_q35).names.lookup ("taken":Str)=some .local:=by decide +kernel
theorem z227:Vis (defScope s_q35) "taken":=Or.inl z366
theorem z403:(defScope s_q35).names.lookup ("cell":Str)=some .local:=by decide +kernel
theorem z301:Vis (defScope s_q35) "cell":=Or.inl z403
theorem z347:(defScope s_q35).names.lookup ("other":Str)=some .local:=by decide +kernel
theorem z536:Vis (defScope s_q35) "other":=Or.inl z347
theorem z449:(defScope s_q35).names.lookup ("cost":Str)=some .local:=by decide +kernel
theorem z646:Vis (defScope s_q35) "cost":=Or.inl z449
theorem z521:(defScope s_q36).names.lookup ("floor":Str)=some .cell:=by decide +kernel
theorem z355:Vis (defScope s_q36) "floor":=Or.inr (Or.inl z521)
theorem z422:(defScope s_q36).names.lookup ("carrier":Str)=some .cell:=by decide +kernel
theorem z421:Vis (defScope s_q36) "carrier":=Or.inr (Or.inl z422)
theorem z211:(defScope s_q36).names.lookup ("chargers":Str)=some .local:=by decide +kernel
theorem z395:Vis (defScope s_q36) "chargers":=Or.inl z211
theorem z540:(defScope s_q22).names.lookup ("floor":Str)=some .local:=by decide +kernel
theorem z544:Vis (defScope s_q22) "floor":=Or.inl z540
theorem z409:(defScope s_q22).names.lookup ("carrier":Str)=some .local:=by decide +kernel
theorem z423:Vis (defScope s_q22) "carrier":=Or.inl z409
theorem z669:(defScope s_q22).names.lookup ("cell":Str)=some .cell:=by decide +kernel
theorem z674:Vis (defScope s_q22) "cell":=Or.inr (Or.inl z669)
theorem z559:(defScope s_q37).names.lookup ("floor":Str)=some .local:=by decide +kernel
theorem z354:Vis (defScope s_q37) "floor":=Or.inl z559
theorem z444:(defScope s_q37).names.lookup ("carrier":Str)=some .local:=by decide +kernel
theorem z246:Vis (defScope s_q37) "carrier":=Or.inl z444
theorem z621:(defScope s_q37).names.lookup ("cell":Str)=some .local:=by decide +kernel
theorem z433:Vis (defScope s_q37) "cell":=Or.inl z621
theorem z522:(defScope s_q37).names.lookup ("goals":Str)=some .local:=by decide +kernel
theorem z554:Vis (defScope s_q37) "goals":=Or.inl z522
theorem z356:(defScope s_q37).names.lookup ("costs":Str)=some .local:=by decide +kernel
theorem z236:Vis (defScope s_q37) "costs":=Or.inl z356
theorem z349:(defScope s_q37).names.lookup ("cells":Str)=some .local:=by decide +kernel
theorem z162:Vis (defScope s_q37) "cells":=Or.inl z349
theorem z328:(defScope s_q42).names.lookup ("_law_kind":Str)=some .local:=by decide +kernel
theorem z326:Vis (defScope s_q42) "_law_kind":=Or.inl z328
theorem z168:(defScope s_q42).names.lookup ("_law_lines_here":Str)=some .local:=by decide +kernel
theorem z171:Vis (defScope s_q42) "_law_lines_here":=Or.inl z168
theorem z319:(defScope s_q42).names.lookup ("_law_able":Str)=some .cell:=by decide +kernel
theorem z318:Vis (defScope s_q42) "_law_able":=Or.inr (Or.inl z319)
theorem z269:(defScope s_q42).names.lookup ("_law_goals":Str)=some .local:=by decide +kernel
theorem z300:Vis (defScope s_q42) "_law_goals":=Or.inl z269
theorem z335:(defScope s_q42).names.lookup ("_law_left":Str)=some .cell:=by decide +kernel
theorem z35:Vis (defScope s_q42) "_law_left":=Or.inr (Or.inl z335)
theorem z177:(defScope s_q42).names.lookup ("_law_cell":Str)=some .local:=by decide +kernel
theorem z47:Vis (defScope s_q42) "_law_cell":=Or.inl z177
theorem z188:(defScope s_q42).names.lookup ("_law_some":Str)=some .local:=by decide +kernel
theorem z94:Vis (defScope s_q42) "_law_some":=Or.inl z188
theorem z325:(defScope s_q43).names.lookup ("_law_kind":Str)=some .local:=by decide +kernel
theorem z313:Vis (defScope s_q43) "_law_kind":=Or.inl z325
theorem z170:(defScope s_q43).names.lookup ("_law_lines_here":Str)=some .local:=by decide +kernel
theorem z164:Vis (defScope s_q43) "_law_lines_here":=Or.inl z170
theorem z322:(defScope s_q43).names.lookup ("_law_left":Str)=some .cell:=by decide +kernel
theorem z180:Vis (defScope s_q43) "_law_left":=Or.inr (Or.inl z322)
theorem z307:(defScope s_q43).names.lookup ("_law_found":Str)=some .local:=by decide +kernel
theorem z18:Vis (defScope s_q43) "_law_found":=Or.inl z307
theorem z327:(defScope s_q43).names.lookup ("_law_cell":Str)=some .local:=by decide +kernel
theorem z324:Vis (defScope s_q43) "_law_cell":=Or.inl z327
theorem z174:(defScope s_q43).names.lookup ("_law_here":Str)=some .cell:=by decide +kernel
theorem z192:Vis (defScope s_q43) "_law_here":=Or.inr (Or.inl z174)
theorem z172:(defScope s_q43).names.lookup ("_law_goal":Str)=some .local:=by decide +kernel
theorem z333:Vis (defScope s_q43) "_law_goal":=Or.inl z172
theorem z74:(defScope s_q43).names.lookup ("_law_steps_here":Str)=some .local:=by decide +kernel
theorem z169:Vis (defScope s_q43) "_law_steps_here":=Or.inl z74
theorem z217:(defScope s_q43).names.lookup ("_law_due":Str)=some .local:=by decide +kernel
theorem z210:Vis (defScope s_q43) "_law_due":=Or.inl z217
theorem z205:(defScope z12).names.lookup ("_law_script":Str)=some .local:=by decide +kernel
theorem z216:Vis (defScope z12) "_law_script":=Or.inl z205
theorem z194:(defScope z12).names.lookup ("_law_carrier":Str)=some .local:=by decide +kernel
theorem z31:Vis (defScope z12) "_law_carrier":=Or.inl z194
theorem z225:(defScope z12).names.lookup ("_law_floor":Str)=some .local:=by decide +kernel
theorem z58:Vis (defScope z12) "_law_floor":=Or.inl z225
theorem z126:(defScope z12).names.lookup ("_law_lines_here":Str)=some .local:=by decide +kernel
theorem z129:Vis (defScope z12) "_law_lines_here":=Or.inl z126
theorem z254:(defScope z12).names.lookup ("_law_left":Str)=some .local:=by decide +kernel
theorem z121:Vis (defScope z12) "_law_left":=Or.inl z254
theorem z230:(defScope z12).names.lookup ("_law_goals":Str)=some .local:=by decide +kernel
theorem z98:Vis (defScope z12) "_law_goals":=Or.inl z230
theorem z251:(defScope z12).names.lookup ("_law_able":Str)=some .local:=by decide +kernel
theorem z69:Vis (defScope z12) "_law_able":=Or.inl z251
theorem z201:(defScope z12).names.lookup ("_law_k":Str)=some .local:=by decide +kernel
theorem z390:Vis (defScope z12) "_law_k":=Or.inl z201
theorem z123:(defScope z12).names.lookup ("_law_cell":Str)=some .local:=by decide +kernel
theorem z34:Vis (defScope z12) "_law_cell":=Or.inl z123
theorem z91:(defScope z12).names.lookup ("_law_handed":Str)=some .local:=by decide +kernel
theorem z55:Vis (defScope z12) "_law_handed":=Or.inl z91
theorem z104:(defScope z12).names.lookup ("_law_found":Str)=some .local:=by decide +kernel
theorem z28:Vis (defScope z12) "_law_found":=Or.inl z104
theorem z105:(defScope z12).names.lookup ("_law_again":Str)=some .local:=by decide +kernel
theorem z223:Vis (defScope z12) "_law_again":=Or.inl z105
theorem z255:(defScope s_law).names.lookup ("_law_script":Str)=some .cell:=by decide +kernel
theorem z48:Vis (defScope s_law) "_law_script":=Or.inr (Or.inl z255)
theorem z73:(defScope s_law).names.lookup ("_law_lines_here":Str)=some .cell:=by decide +kernel
theorem z25:Vis (defScope s_law) "_law_lines_here":=Or.inr (Or.inl z73)
theorem z135:(defScope s_law).names.lookup ("_law_floor":Str)=some .local:=by decide +kernel
theorem z38:Vis (defScope s_law) "_law_floor":=Or.inl z135
theorem z186:(defScope s_law).names.lookup ("_law_cell":Str)=some .local:=by decide +kernel
theorem z95:Vis (defScope s_law) "_law_cell":=Or.inl z186
theorem z178:(defScope s_law).names.lookup ("_law_kind":Str)=some .cell:=by decide +kernel
theorem z175:Vis (defScope s_law) "_law_kind":=Or.inr (Or.inl z178)
theorem z101:(defScope s_law).names.lookup ("_law_carrier":Str)=some .local:=by decide +kernel
theorem z27:Vis (defScope s_law) "_law_carrier":=Or.inl z101
theorem z191:(defScope s_law).names.lookup ("_law_able":Str)=some .cell:=by decide +kernel
theorem z64:Vis (defScope s_law) "_law_able":=Or.inr (Or.inl z191)
theorem z83:(defScope s_law).names.lookup ("_law_goals":Str)=some .local:=by decide +kernel
theorem z84:Vis (defScope s_law) "_law_goals":=Or.inl z83
theorem z93:(defScope s_law).names.lookup ("_law_left":Str)=some .local:=by decide +kernel
theorem z97:Vis (defScope s_law) "_law_left":=Or.inl z93
theorem z256:(defScope s_q2).names.lookup ("COMMON_SIGNS":Str)=some .globalImplicit:=by decide +kernel
theorem z530:(defScope s_q15).names.lookup ("ROUGH":Str)=some .globalImplicit:=by decide +kernel
theorem z261:(defScope s_q3).names.lookup ("COMMON_SIGNS":Str)=some .globalImplicit:=by decide +kernel
theorem z617:(defScope s_q3).names.lookup ("ROUGH":Str)=some .globalImplicit:=by decide +kernel
theorem z688:(defScope s_q23).names.lookup ("check_floor":Str)=some .globalImplicit:=by decide +kernel
theorem z496:(defScope s_q23).names.lookup ("len":Str)=some .globalImplicit:=by decide +kernel
theorem z567:(defScope s_q23).names.lookup ("list":Str)=some .globalImplicit:=by decide +kernel
theorem z689:(defScope s_q17).names.lookup ("len":Str)=some .globalImplicit:=by decide +kernel
theorem z564:(defScope s_q17).names.lookup ("range":Str)=some .globalImplicit:=by decide +kernel
theorem z784:(defScope s_q7).names.lookup ("len":Str)=some .globalImplicit:=by decide +kernel
theorem z671:(defScope s_q7).names.lookup ("range":Str)=some .globalImplicit:=by decide +kernel
theorem z609:(defScope s_q31).names.lookup ("WALL":Str)=some .globalImplicit:=by decide +kernel
theorem z692:(defScope s_q31).names.lookup ("is_among":Str)=some .globalImplicit:=by decide +kernel
theorem z681:(defScope s_q31).names.lookup ("len":Str)=some .globalImplicit:=by decide +kernel
theorem z580:(defScope s_q1).names.lookup ("len":Str)=some .globalImplicit:=by decide +kernel
theorem z762:(defScope s_q5).names.lookup ("len":Str)=some .globalImplicit:=by decide +kernel
theorem z726:(defScope s_q28).names.lookup ("len":Str)=some .globalImplicit:=by decide +kernel
theorem z667:(defScope s_q19).names.lookup ("LANE":Str)=some .globalImplicit:=by decide +kernel
theorem z731:(defScope s_Lat).names.lookup ("len":Str)=some .globalImplicit:=by decide +kernel
theorem z287:(defScope s_q40).names.lookup ("_law_cells":Str)=some .globalImplicit:=by decide +kernel
theorem z685:(defScope s_q40).names.lookup ("len":Str)=some .globalImplicit:=by decide +kernel
theorem z505:(defScope s_q47).names.lookup ("len":Str)=some .globalImplicit:=by decide +kernel
theorem z535:(defScope s_q47).names.lookup ("range":Str)=some .globalImplicit:=by decide +kernel
theorem z305:(defScope s_q42).names.lookup ("_law_steps":Str)=some .globalImplicit:=by decide +kernel
theorem z698:(defScope s_q42).names.lookup ("min":Str)=some .globalImplicit:=by decide +kernel
theorem z711:(defScope s_q42).names.lookup ("set":Str)=some .globalImplicit:=by decide +kernel
theorem z283:(defScope s_q42).names.lookup ("sorted":Str)=some .globalImplicit:=by decide +kernel
theorem z49:(defScope z68).names.lookup ("_law_sign":Str)=some .globalImplicit:=by decide +kernel
theorem z206:(defScope z68).names.lookup ("_law_stands":Str)=some .globalImplicit:=by decide +kernel
theorem z357:(defScope z68).names.lookup ("len":Str)=some .globalImplicit:=by decide +kernel
theorem z334:(defScope z12).names.lookup ("_law_at":Str)=some .globalImplicit:=by decide +kernel
theorem z219:(defScope z12).names.lookup ("_law_walked":Str)=some .globalImplicit:=by decide +kernel
theorem z231:(defScope z12).names.lookup ("cheapest":Str)=some .globalImplicit:=by decide +kernel
theorem z363:(defScope z12).names.lookup ("len":Str)=some .globalImplicit:=by decide +kernel
theorem z464:(defScope z12).names.lookup ("list":Str)=some .globalImplicit:=by decide +kernel
theorem z537:(defScope z12).names.lookup ("min":Str)=some .globalImplicit:=by decide +kernel
theorem z439:(defScope z12).names.lookup ("range":Str)=some .globalImplicit:=by decide +kernel
theorem z242:(defScope s_q46).names.lookup ("_law_at":Str)=some .globalImplicit:=by decide +kernel
theorem z294:(defScope s_q46).names.lookup ("_law_mixed":Str)=some .globalImplicit:=by decide +kernel
theorem z506:(defScope s_q46).names.lookup ("len":Str)=some .globalImplicit:=by decide +kernel
theorem z362:(defScope s_q46).names.lookup ("range":Str)=some .globalImplicit:=by decide +kernel
theorem z348:(defScope z139).names.lookup ("len":Str)=some .globalImplicit:=by decide +kernel
theorem z252:(defScope s_q48).names.lookup ("_law_beside":Str)=some .globalImplicit:=by decide +kernel
theorem z323:(defScope s_q48).names.lookup ("_law_cost":Str)=some .globalImplicit:=by decide +kernel
theorem z268:(defScope s_q43).names.lookup ("_law_steps":Str)=some .globalImplicit:=by decide +kernel
theorem z293:(defScope s_q43).names.lookup ("isinstance":Str)=some .globalImplicit:=by decide +kernel
theorem z649:(defScope s_q43).names.lookup ("list":Str)=some .globalImplicit:=by decide +kernel
theorem z734:(defScope s_q43).names.lookup ("zip":Str)=some .globalImplicit:=by decide +kernel
theorem z661:(defScope s_q45).names.lookup ("bool":Str)=some .globalImplicit:=by decide +kernel
theorem z720:(defScope s_q45).names.lookup ("int":Str)=some .globalImplicit:=by decide +kernel
theorem z153:(defScope s_q45).names.lookup ("isinstance":Str)=some .globalImplicit:=by decide +kernel
theorem z582:(defScope s_q25).names.lookup ("Cart":Str)=some .globalImplicit:=by decide +kernel
theorem z455:(defScope s_q25).names.lookup ("Crawler":Str)=some .globalImplicit:=by decide +kernel
theorem z533:(defScope s_q25).names.lookup ("KINDS":Str)=some .globalImplicit:=by decide +kernel
theorem z330:(defScope s_q25).names.lookup ("MOST_FULL":Str)=some .globalImplicit:=by decide +kernel
theorem z461:(defScope s_q25).names.lookup ("Runner":Str)=some .globalImplicit:=by decide +kernel
theorem z713:(defScope s_q25).names.lookup ("is_among":Str)=some .globalImplicit:=by decide +kernel
theorem z273:(defScope s_q25).names.lookup ("isinstance":Str)=some .globalImplicit:=by decide +kernel
theorem z737:(defScope s_q25).names.lookup ("str":Str)=some .globalImplicit:=by decide +kernel
theorem z730:(defScope s_q37).names.lookup ("costs_to":Str)=some .globalImplicit:=by decide +kernel
theorem z700:(defScope s_q37).names.lookup ("least_next":Str)=some .globalImplicit:=by decide +kernel
theorem z336:(defScope s_q16).names.lookup ("MOST_ROWS":Str)=some .globalImplicit:=by decide +kernel
theorem z282:(defScope s_q16).names.lookup ("MOST_SIGNS":Str)=some .globalImplicit:=by decide +kernel
theorem z739:(defScope s_q16).names.lookup ("all":Str)=some .globalImplicit:=by decide +kernel
theorem z703:(defScope s_q16).names.lookup ("check_row":Str)=some .globalImplicit:=by decide +kernel
theorem z491:(defScope s_q16).names.lookup ("is_among":Str)=some .globalImplicit:=by decide +kernel
theorem z144:(defScope s_q16).names.lookup ("isinstance":Str)=some .globalImplicit:=by decide +kernel
theorem z392:(defScope s_q16).names.lookup ("len":Str)=some .globalImplicit:=by decide +kernel
theorem z672:(defScope s_q16).names.lookup ("list":Str)=some .globalImplicit:=by decide +kernel
theorem z709:(defScope s_q16).names.lookup ("str":Str)=some .globalImplicit:=by decide +kernel
theorem z728:(defScope s_q30).names.lookup ("all":Str)=some .globalImplicit:=by decide +kernel
theorem z277:(defScope s_q30).names.lookup ("isinstance":Str)=some .globalImplicit:=by decide +kernel
theorem z715:(defScope s_q30).names.lookup ("len":Str)=some .globalImplicit:=by decide +kernel
theorem z687:(defScope s_q30).names.lookup ("str":Str)=some .globalImplicit:=by decide +kernel
theorem z651:(defScope s_q35).names.lookup ("Heap":Str)=some .globalImplicit:=by decide +kernel
theorem z706:(defScope s_q35).names.lookup ("steps_into":Str)=some .globalImplicit:=by decide +kernel
theorem z707:(defScope s_q39).names.lookup ("is_whole":Str)=some .globalImplicit:=by decide +kernel
theorem z616:(defScope s_q38).names.lookup ("bool":Str)=some .globalImplicit:=by decide +kernel
theorem z704:(defScope s_q38).names.lookup ("int":Str)=some .globalImplicit:=by decide +kernel
theorem z150:(defScope s_q38).names.lookup ("isinstance":Str)=some .globalImplicit:=by decide +kernel
theorem z517:(defScope s_law).names.lookup ("Floor":Str)=some .globalImplicit:=by decide +kernel
theorem z241:(defScope s_law).names.lookup ("_law_at":Str)=some .globalImplicit:=by decide +kernel
theorem z311:(defScope s_law).names.lookup ("_law_cells":Str)=some .globalImplicit:=by decide +kernel
theorem z249:(defScope s_law).names.lookup ("_law_closed":Str)=some .globalImplicit:=by decide +kernel
theorem z321:(defScope s_law).names.lookup ("_law_each":Str)=some .globalImplicit:=by decide +kernel
theorem z285:(defScope s_law).names.lookup ("_law_lines":Str)=some .globalImplicit:=by decide +kernel
theorem z699:(defScope s_law).names.lookup ("carrier_of":Str)=some .globalImplicit:=by decide +kernel
theorem z516:(defScope s_law).names.lookup ("costs_to":Str)=some .globalImplicit:=by decide +kernel
theorem z639:(defScope s_law).names.lookup ("dict":Str)=some .globalImplicit:=by decide +kernel
theorem z279:(defScope s_law).names.lookup ("isinstance":Str)=some .globalImplicit:=by decide +kernel
theorem z448:(defScope s_law).names.lookup ("list":Str)=some .globalImplicit:=by decide +kernel
theorem z487:(defScope s_law).names.lookup ("needs_of":Str)=some .globalImplicit:=by decide +kernel
theorem z524:(defScope s_law).names.lookup ("range":Str)=some .globalImplicit:=by decide +kernel
theorem z724:(defScope s_q22).names.lookup ("min":Str)=some .globalImplicit:=by decide +kernel
theorem z684:(defScope s_q36).names.lookup ("costs_to":Str)=some .globalImplicit:=by decide +kernel
theorem z767:(defScope s_q21).names.lookup ("standing_cells":Str)=some .globalImplicit:=by decide +kernel
theorem sc_q38:FnScope ["thing"] ["thing"] (defScope s_q38):=⟨rfl,rfl,rfl,by decide +kernel,rfl,by decide +kernel,by decide +kernel⟩
set_option maxHeartbeats 4000000 in
local macro_rules | `(tactic| walk_at "RD")=>`(tactic| simp only [tNever,z753,iRng1,gTup,gCons,gNil,rJoin,tMethV,tYes,tDGet,tDIn,tDNotIn,tDNewK,sDPut,rLtT,tThawE,iDictK,rEqK,z485,iZip,tSeq,tAsg,tOp,tUn,tVar,tC,rI0,rI,rU,tTest,tIfS,tNext,tRet,tDrop,gName,tCB,tCons,tNil,tAndV,tOrV,tNotV,tAnd,tOr,tNot,tB,tIf,tChain,tCall,tBM,tBM0,tLst,tTup,tNoPart,tPart,tSlS,tSl,rSlL,rIn,rIxL,rIxT,rIxS,rEq,rNe,scal,rAppend,rPop,tFld,sFld,tMeth,tMake,tDNewK,gSub,rSetL,tComp,sComp,capσ,iStr,iList,rEqD,cxK,cxA,cxKc,cxAc,L2.start,List.map_cons,List.map_nil,List.length_cons,List.length_nil,List.replicate_succ,List.replicate_zero,List.cons_append,List.nil_append,List.append_nil,Nat.reduceAdd,Nat.reduceSub,List.set_cons_zero,List.set_cons_succ,List.getElem?_cons_zero,List.getElem?_cons_succ,Option.getD_some,Option.getD_none,Option.some.injEq,V.int.injEq,V.ref.injEq,V.bl.injEq,V.str.injEq,V.ty.injEq,exists_eq_left',exists_eq_left,exists_and_left,and_assoc,List.cons.injEq,and_true,true_and,decide_eq_true_eq,Bool.not_eq_true',decide_eq_false_iff_not,Bool.false_eq_true,if_false,if_true,reduceIte,Bool.not_true,Bool.not_false,beq_self_eq_true])
theorem ok_q38 {fd:FuncData}(F:Fun K "is_whole" "is_whole" s_q38 ad.q38 fd) (T:Txt K mg ad):FnOk P w K mg base CX0 1 ad.q38 fd ["thing"] (z367 K):=by
 refine F.ok sc_q38 (fun vs H Q E h=>?_) (fun cdv A outer s H vs Q E HR h=>?_)
 ·obtain⟨x,rfl,_⟩:=h
  rfl
 ·obtain⟨x,rfl,ty,hq⟩:=h
  have ND:=sc_q38.nd
  have HU0:=HR.units0
  have HU:=HR.units
  have hA:=HR.hd
  have hz:(100000:Nat)≤sizeLine:=by rw [sizeLine_eq];decide
  refine⟨_,(pss_one (ps_ret (pe_and (pe_callB z36 (gl_of z150) T.b_isinstance PyProof.Rows.Boot.«isinstance» (pa_cons (pe_var (i:=0) (x:="thing") rfl (vis_of z370) z446 z438) (pa_cons (pe_bltn (v:=.ty "int") (gl_of z704) T.b_int PyProof.Rows.Boot.«int» rfl (hn:=n_int) (hd:=d_int)) pa_nil (stp rfl)) (stp rfl)) (hn:=z23) (hdb:=z22) (he:=stp rfl) (hpl:=anp rfl)) (pe_one (pe_not (pe_callB z36 (gl_of z150) T.b_isinstance PyProof.Rows.Boot.«isinstance» (pa_cons (pe_var (i:=0) (x:="thing") rfl (vis_of z370) z446 z438) (pa_cons (pe_bltn (v:=.ty "bool") (gl_of z616) T.b_bool PyProof.Rows.Boot.«bool» rfl (hn:=n_bool) (hd:=d_bool)) pa_nil (stp rfl)) (stp rfl)) (hn:=z23) (hdb:=z22) (he:=stp rfl) (hpl:=anp rfl))))))),?_⟩
  obtain⟨n,ty⟩:=ty
  have e1:=z747 ty
  have e2:=z601 ty
  walk_at "RD"
  refine⟨_,ty,_,e1,?_⟩
  cases hb:isIB x with
  | true=>
   rw [if_pos rfl]
   refine⟨_,ty,_,e2,?_⟩
   cases x <;> simp_all [isI,isB,isIB]
  | false=>
   rw [if_neg (by decide)]
   cases x <;> simp_all [isI,isB,isIB]
theorem sc_q39:FnScope ["thing","least","most"] ["thing","least","most"] (defScope s_q39):=⟨rfl,rfl,rfl,by decide +kernel,rfl,by decide +kernel,by decide +kernel⟩
set_option maxHeartbeats 4000000 in
theorem ok_q39 {fd:FuncData}(F:Fun K "is_among" "is_among" s_q39 ad.q39 fd) (T:Txt K mg ad){fd_q38:FuncData}(B_q38:Binds K fd_q38 ["thing"] []) (G_q38:FnOk P w K mg base CX0 1 ad.q38 fd_q38 ["thing"] (z367 K)):FnOk P w K mg base CX0 2 ad.q39 fd ["thing","least","most"] (z420 K):=by
 refine F.ok sc_q39 (fun vs H Q E h=>?_) (fun cdv A outer s H vs Q E HR h=>?_)
 ·obtain⟨x,lo,hi,rfl,_⟩:=h
  rfl
 ·obtain⟨x,lo,hi,rfl,ty,hq⟩:=h
  have ND:=sc_q39.nd
  have HU0:=HR.units0
  have HU:=HR.units
  have hA:=HR.hd
  have hz:(100000:Nat)≤sizeLine:=by rw [sizeLine_eq];decide
  refine⟨_,(pss_one (ps_ret (pe_and (pe_call G_q38 (HR.mono (by decide)) (gl_of z707) T.mg_q38 T.k_q38 B_q38 .nil pass0 (pa_cons (pe_var (i:=0) (x:="thing") rfl (vis_of z351) z446 z438) pa_nil (stp rfl)) (hdb:=d_q38) (he:=stp rfl) (hpl:=anp rfl)) (pe_one (pe_chain op_le op_le (pe_var (i:=1) (x:="least") rfl (vis_of z566) z791 z819) (pe_var (i:=0) (x:="thing") rfl (vis_of z351) z446 z438) (pe_var (i:=2) (x:="most") rfl (vis_of z611) d_most e_most)))))),?_⟩
  walk_at "RD"
  refine⟨x,rfl,ty,?_⟩
  walk_at "RD"
  cases x <;> simp_all [isI,amg]
  split <;> simp_all
theorem sc_q30:FnScope ["line","wide"] ["line","wide"] (defScope s_q30):=⟨rfl,rfl,rfl,by decide +kernel,rfl,by decide +kernel,by decide +kernel⟩
set_option maxHeartbeats 4000000 in
theorem ok_q30 {fd:FuncData}(F:Fun K "check_row" "check_row" s_q30 ad.q30 fd) (T:Txt K mg ad):FnOk P w K mg base CX0 1 ad.q30 fd ["line","wide"] (spRow):=by
 refine F.ok sc_q30 (fun vs H Q E h=>?_) (fun cdv A outer s H vs Q E HR h=>?_)
 ·obtain⟨x,n,rfl,_⟩:=h
  rfl
 ·obtain⟨x,n,rfl,hn,n10,ok,hq⟩:=h
  have ND:=sc_q30.nd
  have HU0:=HR.units0
  have HU:=HR.units
  have hA:=HR.hd
  have hz:(100000:Nat)≤sizeLine:=by rw [sizeLine_eq];decide
  obtain⟨u_SIGNS,c_SIGNS,r_SIGNS⟩:=T.c_SIGNS
  refine⟨_,(pss_cons (ps_if (PW.pt (pw_or (pt_not (pt_val (pe_callB z36 (gl_of z277) T.b_isinstance PyProof.Rows.Boot.«isinstance» (pa_cons (pe_var (i:=0) (x:="line") rfl (vis_of z270) d_line e_line) (pa_cons (pe_bltn (v:=.ty "str") (gl_of z687) T.b_str PyProof.Rows.Boot.«str» rfl (hn:=n_str) (hd:=d_str)) pa_nil (stp rfl)) (stp rfl)) (hn:=z23) (hdb:=z22) (he:=stp rfl) (hpl:=anp rfl)))) (pw_or1 (pt_cmpR op_ne (pe_callB call_len_str (gl_of z715) T.b_len PyProof.Rows.Boot.«len» (pa_cons (pe_var (i:=0) (x:="line") rfl (vis_of z270) d_line e_line) pa_nil (stp rfl)) (hn:=n_len) (hdb:=d_len) (he:=stp rfl) (hpl:=anp rfl)) (pe_var (i:=1) (x:="wide") rfl (vis_of z606) d_wide e_wide) (nomark _)))))
 pss_never
 pss_nil)
 (pss_one (ps_if (pt_not (pt_val (pe_callB z240 (gl_of z728) T.b_all PyProof.Rows.Boot.«all» (pa_cons (z89 (z8.of (osc:=defScope s_q30) (tn:=["sign"]) (cn:=[]) (caps:=[]) rfl rfl (by decide +kernel) (by decide +kernel) (by decide +kernel) (by decide +kernel) rfl) (calm0 rfl)  (pi_str (pe_var (i:=0) (x:="line") rfl (vis_of z270) d_line e_line))
 (fun _ _ _ _ _=>(pg_name (i:=0) (show (["sign"]:List Str).Nodup by decide +kernel) rfl (Or.inl rfl))) (fun _ _ _ _ _=>z450) (fun _ _ _ _ _=>(pe_cmpR z510 (pv 0) (pe_glob (v:=V.str (Str.ofString ".#+~|")) (by rfl) c_SIGNS r_SIGNS (hd:=z792)) (by with_unfolding_all rfl)))) pa_nil (stp rfl)) (hn:=n_all) (hdb:=d_all) (he:=stp rfl) (hpl:=anp rfl))))
 pss_never
 pss_nil))),?_⟩
  walk_at "RD"
  refine⟨_,.str _,true,rfl,?_⟩
  rw [if_neg (by decide)]
  refine⟨by omega,?_⟩
  rw [if_neg (by omega)]
  refine z33 z742 (fun _=>true) inSg (fun y hy Q h=>h) (fun y hy _ Q h=>?_) (by rw [List.length_map,z109];omega) ?_
  ·obtain⟨c,hc,rfl⟩:=List.mem_map.mp hy
   walk_at "RD"
   exact⟨c,rfl,h⟩
  ·intro D hD
   have ey:((x.cps.toList.map chr1).filter fun _=>true).map inSg=(x.cps.toList.map fun c=>decide (c∈(Str.ofString ".#+~|").cps.toList)).map V.bl:=by
    rw [List.filter_eq_self.mpr (fun _ _=>rfl),List.map_map,List.map_map]
    rfl
   rw [ey]
   refine⟨hA,_,SqL.of upd_same,?_⟩
   have e2:(x.cps.toList.map fun c=>decide (c∈(Str.ofString ".#+~|").cps.toList)).all id=true:=by
    rw [List.all_map,List.all_eq_true]
    intro c hc
    exact decide_eq_true (z794 (ok c hc))
   rw [e2,if_neg (by decide)]
   exact hq _ (zz0 hD)
theorem sc_q16:FnScope ["lines","line"] ["lines"] (defScope s_q16):=⟨rfl,rfl,rfl,by decide +kernel,rfl,by decide +kernel,by decide +kernel⟩
set_option maxHeartbeats 4000000 in
theorem ok_q16 {fd:FuncData}(F:Fun K "check_floor" "check_floor" s_q16 ad.q16 fd) (T:Txt K mg ad){fd_q39:FuncData}(B_q39:Binds K fd_q39 ["thing","least","most"] []) (G_q39:FnOk P w K mg base CX0 2 ad.q39 fd_q39 ["thing","least","most"] (z420 K)){fd_q30:FuncData}(B_q30:Binds K fd_q30 ["line","wide"] []) (G_q30:FnOk P w K mg base CX0 1 ad.q30 fd_q30 ["line","wide"] (spRow)):FnOk P w K mg base CX0 3 ad.q16 fd ["lines"] (z638):=by
 refine F.ok sc_q16 (fun vs H Q E h=>?_) (fun cdv A outer s H vs Q E HR h=>?_)
 ·obtain⟨l,w,h,sg,rfl,_⟩:=h
  rfl
 ·obtain⟨l,w,h,sg,rfl,hL,g,hq⟩:=h
  have ND:=sc_q16.nd
  have HU0:=HR.units0
  have HU:=HR.units
  have hA:=HR.hd
  have hz:(100000:Nat)≤sizeLine:=by rw [sizeLine_eq];decide
  obtain⟨u_WALL,c_WALL,r_WALL⟩:=T.c_WALL
  obtain⟨u_MOST_ROWS,c_MOST_ROWS,r_MOST_ROWS⟩:=T.c_MOST_ROWS
  obtain⟨u_MOST_SIGNS,c_MOST_SIGNS,r_MOST_SIGNS⟩:=T.c_MOST_SIGNS
  refine⟨_,(pss_cons (ps_if (PW.pt (pw_or (pt_not (pt_val (pe_callB z36 (gl_of z144) T.b_isinstance PyProof.Rows.Boot.«isinstance» (pa_cons (pe_var (i:=0) (x:="lines") rfl (vis_of z61) z124 z118) (pa_cons (pe_bltn (v:=.ty "list") (gl_of z672) T.b_list PyProof.Rows.Boot.«list» rfl (hn:=n_list) (hd:=d_list)) pa_nil (stp rfl)) (stp rfl)) (hn:=z23) (hdb:=z22) (he:=stp rfl) (hpl:=anp rfl)))) (pw_or1 (pt_not (pt_val (pe_call G_q39 (HR.mono (by decide)) (gl_of z491) T.mg_q39 T.k_q39 B_q39 .nil pass0 (pa_cons (pe_callB call_len_seq (gl_of z392) T.b_len PyProof.Rows.Boot.«len» (pa_cons (pe_var (i:=0) (x:="lines") rfl (vis_of z61) z124 z118) pa_nil (stp rfl)) (hn:=n_len) (hdb:=d_len) (he:=stp rfl) (hpl:=anp rfl)) (pa_cons pe_int (pa_cons (pe_glob (v:=V.int 10) (gl_of z336) c_MOST_ROWS r_MOST_ROWS (hd:=z560)) pa_nil (stp rfl)) (stp rfl)) (stp rfl)) (hdb:=d_q39) (he:=stp rfl) (hpl:=anp rfl)))))))
 pss_never
 pss_nil)
 (pss_cons (ps_if (PW.pt (pw_or (pt_not (pt_val (pe_callB z36 (gl_of z144) T.b_isinstance PyProof.Rows.Boot.«isinstance» (pa_cons (pe_ix ix_list (pe_var (i:=0) (x:="lines") rfl (vis_of z61) z124 z118) pe_int (fun _ _=>rfl)) (pa_cons (pe_bltn (v:=.ty "str") (gl_of z709) T.b_str PyProof.Rows.Boot.«str» rfl (hn:=n_str) (hd:=d_str)) pa_nil (stp rfl)) (stp rfl)) (hn:=z23) (hdb:=z22) (he:=stp rfl) (hpl:=anp rfl)))) (pw_or1 (pt_not (pt_val (pe_call G_q39 (HR.mono (by decide)) (gl_of z491) T.mg_q39 T.k_q39 B_q39 .nil pass0 (pa_cons (pe_callB call_len_str (gl_of z392) T.b_len PyProof.Rows.Boot.«len» (pa_cons (pe_ix ix_list (pe_var (i:=0) (x:="lines") rfl (vis_of z61) z124 z118) pe_int (fun _ _=>rfl)) pa_nil (stp rfl)) (hn:=n_len) (hdb:=d_len) (he:=stp rfl) (hpl:=anp rfl)) (pa_cons pe_int (pa_cons (pe_glob (v:=V.int 10) (gl_of z282) c_MOST_SIGNS r_MOST_SIGNS (hd:=z465)) pa_nil (stp rfl)) (stp rfl)) (stp rfl)) (hdb:=d_q39) (he:=stp rfl) (hpl:=anp rfl)))))))
 pss_never
 pss_nil)
 (pss_cons (ps_for PassesOwn.never (calm0 rfl) (pi_list (pe_var (i:=0) (x:="lines") rfl (vis_of z61) z124 z118)) (pg_name (i:=1) ND rfl (loc_of (Or.inl z445)))
 (pss_one (ps_expr (pe_call G_q30 (HR.mono (by decide)) (gl_of z703) T.mg_q30 T.k_q30 B_q30 .nil pass0 (pa_cons (pe_var (i:=1) (x:="line") rfl (vis_of z663) d_line e_line) (pa_cons (pe_callB call_len_str (gl_of z392) T.b_len PyProof.Rows.Boot.«len» (pa_cons (pe_ix ix_list (pe_var (i:=0) (x:="lines") rfl (vis_of z61) z124 z118) pe_int (fun _ _=>rfl)) pa_nil (stp rfl)) (hn:=n_len) (hdb:=d_len) (he:=stp rfl) (hpl:=anp rfl)) pa_nil (stp rfl)) (stp rfl)) (hdb:=d_q30) (he:=stp rfl) (hpl:=anp rfl)))))
 (pss_one (ps_if (pt_val (pe_callB z240 (gl_of z739) T.b_all PyProof.Rows.Boot.«all» (pa_cons (z89 (z8.of (osc:=defScope s_q16) (tn:=["sign"]) (cn:=[]) (caps:=[]) rfl rfl (by decide +kernel) (by decide +kernel) (by decide +kernel) (by decide +kernel) rfl) (calm0 rfl)  (pi_str (pe_bm PySem.F.plainAttrs_str PySem.F.slot_str_join PySem.F.type_str_join z744 pe_str (pa_cons (pe_var (i:=0) (x:="lines") rfl (vis_of z61) z124 z118) pa_nil (stp rfl))))
 (fun _ _ _ _ _=>(pg_name (i:=0) (show (["sign"]:List Str).Nodup by decide +kernel) rfl (Or.inl rfl))) (fun _ _ _ _ _=>z450) (fun _ _ _ _ _=>(pe_cmpR op_eq (pv 0) (pe_glob (v:=V.str (Str.ofString "#")) (by rfl) c_WALL r_WALL (hd:=d_WALL)) (nomark _)))) pa_nil (stp rfl)) (hn:=n_all) (hdb:=d_all) (he:=stp rfl) (hpl:=anp rfl)))
 pss_never
 pss_nil))))),?_⟩
  have w0:=g.w0
  have w1:=g.w1
  have h0:=g.h0
  have h1:=g.h1
  have l100:=len100 g
  have e0:atI ((linesOf w h sg).map V.str) 0=some (V.str (lineOf w sg 0)):=atI_nat (j:=0) (by rw [List.getElem?_map,z87 (by omega)];rfl)
  have eL:=z110 g (show 0 < h by omega)
  refine y3 (fun σ H'=>H'=H∧σ=[some (V.ref l),none]) (fun nx hk=>?_) ?_
  ·walk_at "RD"
   refine⟨_,.lst hL,true,rfl,?_⟩
   rw [if_neg (by decide)]
   refine⟨_,.inl (SqL.of hL),_,_,_,rfl,⟨_,.int _⟩,_,rfl,?_⟩
   rw [List.length_map,z262]
   have ea:amg (.int (h:Int)) 1 10=true:=by simp only [amg,Bool.and_eq_true,decide_eq_true_eq];omega
   rw [ea,if_neg (by decide)]
   exact hk _ _ ⟨rfl,rfl⟩
  rintro σ H1 ⟨rfl,rfl⟩
  refine y3 (fun σ H'=>H'=H1∧σ=[some (V.ref l),none]) (fun nx hk=>?_) ?_
  ·walk_at "RD"
   refine⟨_,SqL.of hL,_,e0,_,.str _,true,rfl,?_⟩
   rw [if_neg (by decide)]
   refine⟨_,SqL.of hL,_,e0,_,rfl,by rw [eL];omega,_,_,_,rfl,⟨_,.int _⟩,_,rfl,?_⟩
   rw [eL]
   have ea:amg (.int (w:Int)) 1 10=true:=by simp only [amg,Bool.and_eq_true,decide_eq_true_eq];omega
   rw [ea,if_neg (by decide)]
   exact hk _ _ ⟨rfl,rfl⟩
  rintro σ H2 ⟨rfl,rfl⟩
  refine y3 (fun σ H'=>∃ y,Same H2 H'∧σ=[some (V.ref l),y]) (fun nx hk=>?_) ?_
  ·walk_at "RD"
   refine⟨⟨_,SqL.of hL⟩,for_list (K:=K) (a:=l) (xs:=(linesOf w h sg).map V.str) (fun i σ H'=>∃ y,Same H2 H'∧σ=[some (V.ref l),y]) ⟨none,Same.refl _,rfl⟩ (fun i σ H' _ ⟨_,sm,_⟩=>SqL.of (sm _ _ hL)) ?_ ?_⟩
   ·rintro i y σ H' hi ⟨y0,sm,rfl⟩
    rw [List.getElem?_map] at hi
    obtain⟨z,hz',rfl⟩:=Option.map_eq_some_iff.mp hi
    have hih:i < h:=by
     have:=(List.getElem?_eq_some_iff.mp hz').1
     rwa [z262] at this
    rw [z87 hih] at hz'
    cases hz'
    walk_at "RD"
    refine⟨_,SqL.of (sm _ _ hL),_,e0,_,rfl,by rw [eL];omega,?_⟩
    rw [eL]
    exact⟨_,w,rfl,z110 g hih,w1,z813 g,fun H3 s3=>⟨sm.trans s3,_,rfl⟩⟩
   ·rintro σ H' ⟨y,sm,rfl⟩
    exact hk _ _ ⟨y,sm,rfl⟩
  rintro σ H3 ⟨y,s3,rfl⟩
  walk_at "RD"
  refine⟨rfl,_,SqL.of (s3 _ _ hL),z486 g,?_⟩
  rw [z406 g]
  refine z33 z742 (fun _=>true) isWall (fun y hy Q h=>h) (fun y hy _ Q hh=>?_) (by rw [List.length_map,z109,z46];omega) ?_
  ·obtain⟨c,hc,rfl⟩:=List.mem_map.mp hy
   walk_at "RD"
   refine⟨rfl,?_⟩
   have e:isWall (chr1 c)=V.bl (decide (chr1 c=V.str (Str.ofString "#"))):=by
    show V.bl _=V.bl _
    congr 1
    exact decide_eq_decide.mpr ⟨fun z=>congrArg V.str z,fun z=>V.str.inj z⟩
   rw [e] at hh
   exact hh
  ·intro D hD
   have ey:(((txt sg).cps.toList.map chr1).filter fun _=>true).map isWall=(sg.map fun c=>decide ((⟨#[c]⟩:Str)=Str.ofString "#")).map V.bl:=by
    rw [List.filter_eq_self.mpr (fun _ _=>rfl),List.map_map,List.map_map,z71]
    rfl
   rw [ey]
   refine⟨hA,_,SqL.of upd_same,?_⟩
   have e2:(sg.map fun c=>decide ((⟨#[c]⟩:Str)=Str.ofString "#")).all id=false:=by
    obtain⟨c,hc,hne⟩:=g.cell
    rw [List.all_map,List.all_eq_false]
    exact⟨c,hc,by
     show ¬ (decide _=true)
     rw [decide_eq_true_eq,z489]
     exact hne⟩
   rw [e2,if_neg (by decide)]
   exact hq _ (s3.trans (zz0 hD))
theorem sc_q23:FnScope ["self","lines"] ["self","lines"] (defScope s_q23):=⟨rfl,rfl,rfl,by decide +kernel,rfl,by decide +kernel,by decide +kernel⟩
set_option maxHeartbeats 4000000 in
theorem ok_q23 {fd:FuncData}(F:Fun K "__init__" "Floor.__init__" s_q23 ad.q23 fd) (T:Txt K mg ad){fd_q16:FuncData}(B_q16:Binds K fd_q16 ["lines"] []) (G_q16:FnOk P w K mg base CX0 3 ad.q16 fd_q16 ["lines"] (z638)):FnOk P w K mg base CX0 4 ad.q23 fd ["self","lines"] (spInit ad.C_Floor):=by
 refine F.ok sc_q23 (fun vs H Q E h=>?_) (fun cdv A outer s H vs Q E HR h=>?_)
 ·obtain⟨p,dx,l,w,h,sg,rfl,_⟩:=h
  rfl
 ·obtain⟨p,dx,l,w,h,sg,rfl,hp,hL,g,hq⟩:=h
  have ND:=sc_q23.nd
  have HU0:=HR.units0
  have HU:=HR.units
  have hA:=HR.hd
  have hz:(100000:Nat)≤sizeLine:=by rw [sizeLine_eq];decide
  refine⟨_,(pss_cons (ps_expr (pe_call G_q16 (HR.mono (by decide)) (gl_of z688) T.mg_q16 T.k_q16 B_q16 .nil pass0 (pa_cons (pe_var (i:=1) (x:="lines") rfl (vis_of z103) z124 z118) pa_nil (stp rfl)) (hdb:=d_q16) (he:=stp rfl) (hpl:=anp rfl)))
 (pss_cons (ps_fld (pe_var (i:=0) (x:="self") rfl (vis_of z214) d_self e_self) (pe_callB call_len_str (gl_of z496) T.b_len PyProof.Rows.Boot.«len» (pa_cons (pe_ix ix_list (pe_var (i:=1) (x:="lines") rfl (vis_of z103) z124 z118) pe_int (fun _ _=>rfl)) pa_nil (stp rfl)) (hn:=n_len) (hdb:=d_len) (he:=stp rfl) (hpl:=anp rfl)) rfl)
 (pss_cons (ps_fld (pe_var (i:=0) (x:="self") rfl (vis_of z214) d_self e_self) (pe_callB call_len_seq (gl_of z496) T.b_len PyProof.Rows.Boot.«len» (pa_cons (pe_var (i:=1) (x:="lines") rfl (vis_of z103) z124 z118) pa_nil (stp rfl)) (hn:=n_len) (hdb:=d_len) (he:=stp rfl) (hpl:=anp rfl)) rfl)
 (pss_cons (ps_fld (pe_var (i:=0) (x:="self") rfl (vis_of z214) d_self e_self) (pe_callTy call_list_of (gl_of z567) T.b_list PyProof.Rows.Boot.«list» (pa_cons (pe_var (i:=1) (x:="lines") rfl (vis_of z103) z124 z118) pa_nil (stp rfl)) (hn:=n_list) (hdb:=d_list) (he:=stp rfl) (hpl:=anp rfl)) rfl)
 (pss_one (ps_fld (pe_var (i:=0) (x:="self") rfl (vis_of z214) d_self e_self) (pe_bm PySem.F.plainAttrs_str PySem.F.slot_str_join PySem.F.type_str_join z744 pe_str (pa_cons (pe_var (i:=1) (x:="lines") rfl (vis_of z103) z124 z118) pa_nil (stp rfl))) rfl)))))),?_⟩
  have w0:=g.w0
  have h0:=g.h0
  have l100:=len100 g
  have e0:atI ((linesOf w h sg).map V.str) 0=some (V.str (lineOf w sg 0)):=atI_nat (j:=0) (by rw [List.getElem?_map,z87 (by omega)];rfl)
  have eL:=z110 g (show 0 < h by omega)
  have w1:=g.w1
  have npl:l≠p:=ne_of hL hp (by intro z;cases z)
  walk_at "RD"
  refine⟨l,w,h,sg,rfl,hL,g,fun H1 s1=>?_⟩
  have hL1:=s1 _ _ hL
  have hp1:=s1 _ _ hp
  dsimp only
  refine⟨_,SqL.of hL1,_,e0,_,rfl,by rw [eL];omega,_,_,_,hp1,T.cl_Floor,T.n_Floor_wide,by show 0 < 1000;decide,?_⟩
  rw [eL]
  refine⟨_,.inl (SqL.of (by rw [upd_ne npl];exact hL1)),_,_,_,upd_same,T.cl_Floor,T.n_Floor_high,by show 1 < 1000;decide,?_⟩
  rw [List.length_map,z262]
  refine⟨_,.inl (SqL.of (by rw [upd_ne npl,upd_ne npl];exact hL1)),fun l2 n2=>?_⟩
  have np2:l2≠p:=fun z=>by rw [z,upd_same] at n2;cases n2
  have n20:H1 l2=none:=by rw [upd_ne np2,upd_ne np2] at n2;exact n2
  have nl2:l≠l2:=ne_of_none hL1 n20
  refine⟨_,_,_,by rw [upd_ne np2.symm,upd_same],T.cl_Floor,T.n_Floor_lines,by show 2 < 1000;decide,rfl,_,SqL.of (by rw [upd_ne npl,upd_ne nl2,upd_ne npl,upd_ne npl];exact hL1),z486 g,_,_,_,upd_same,T.cl_Floor,T.n_Floor_signs,by show 3 < 1000;decide,?_⟩
  rw [z406 g]
  refine hq _ dx l2 (s1.free n20) upd_same ?_ fun b o hb nb=>?_
  ·unfold z67
   rw [upd_ne np2,upd_ne np2,upd_same]
  ·have hb1:=s1 _ _ hb
   rw [upd_ne nb,upd_ne nb,upd_ne (ne_of_none hb1 n20),upd_ne nb,upd_ne nb]
   exact hb1
theorem sc_q31:FnScope ["self","cell"] ["self","cell"] (defScope s_q31):=⟨rfl,rfl,rfl,by decide +kernel,rfl,by decide +kernel,by decide +kernel⟩
set_option maxHeartbeats 4000000 in
theorem ok_q31 {fd:FuncData}(F:Fun K "has" "Floor.has" s_q31 ad.q31 fd) (T:Txt K mg ad){fd_q39:FuncData}(B_q39:Binds K fd_q39 ["thing","least","most"] []) (G_q39:FnOk P w K mg base CX0 2 ad.q39 fd_q39 ["thing","least","most"] (z420 K)):FnOk P w K mg base CX0 3 ad.q31 fd ["self","cell"] (spHas K ad.C_Floor):=by
 refine F.ok sc_q31 (fun vs H Q E h=>?_) (fun cdv A outer s H vs Q E HR h=>?_)
 ·obtain⟨p,w,h,sg,x,rfl,_⟩:=h
  rfl
 ·obtain⟨p,w,h,sg,x,rfl,F0,g,ty,hq⟩:=h
  have ND:=sc_q31.nd
  have HU0:=HR.units0
  have HU:=HR.units
  have hA:=HR.hd
  have hz:(100000:Nat)≤sizeLine:=by rw [sizeLine_eq];decide
  obtain⟨u_WALL,c_WALL,r_WALL⟩:=T.c_WALL
  refine⟨_,(pss_one (ps_ret (pe_and (pe_call G_q39 (HR.mono (by decide)) (gl_of z692) T.mg_q39 T.k_q39 B_q39 .nil pass0 (pa_cons (pe_var (i:=1) (x:="cell") rfl (vis_of z419) d_cell e_cell) (pa_cons pe_int (pa_cons (pe_op op_sub (pe_callB call_len_str (gl_of z681) T.b_len PyProof.Rows.Boot.«len» (pa_cons (pe_fld (pe_var (i:=0) (x:="self") rfl (vis_of z412) d_self e_self) (by rfl)) pa_nil (stp rfl)) (hn:=n_len) (hdb:=d_len) (he:=stp rfl) (hpl:=anp rfl)) pe_int) pa_nil (stp rfl)) (stp rfl)) (stp rfl)) (hdb:=d_q39) (he:=stp rfl) (hpl:=anp rfl)) (pe_one (pe_cmpR op_ne (pe_ix ix_str (pe_fld (pe_var (i:=0) (x:="self") rfl (vis_of z412) d_self e_self) (by rfl)) (pe_var (i:=1) (x:="cell") rfl (vis_of z419) d_cell e_cell) (fun _ _=>rfl)) (pe_glob (v:=V.str (Str.ofString "#")) (gl_of z609) c_WALL r_WALL (hd:=d_WALL)) (nomark _)))))),?_⟩
  obtain⟨dx,l,h1,h2⟩:=F0.ob
  have l100:=len100 g
  walk_at "RD"
  refine⟨_,_,_,h1,T.cl_Floor,T.n_Floor_signs,_,z364 _ _ _ _,_,rfl,by rw [z46];omega,x,_,_,rfl,ty,_,rfl,?_⟩
  rw [z46]
  cases x with
  | int i=>
   by_cases hi:0≤i∧i < sg.length
   ·have ea:amg (.int i) 0 ((sg.length:Int) - 1)=true:=by
     simp only [amg,Bool.and_eq_true,decide_eq_true_eq];omega
    rw [ea,if_pos rfl]
    refine⟨_,_,_,h1,T.cl_Floor,T.n_Floor_signs,_,z364 _ _ _ _,_,rfl,_,rfl,by rw [z46];omega,_,at_txt hi.1 hi.2,?_⟩
    have e:hasV sg (.int i)=!decide ((⟨#[at_ sg i]⟩:Str)=Str.ofString "#"):=by
     show hasI sg i=_
     unfold hasI
     rw [decide_eq_true hi.1,decide_eq_true hi.2]
     simp only [Bool.true_and]
     congr 1
     exact decide_eq_decide.mpr (z489 _).symm
    rw [e] at hq
    exact hq
   ·have ea:amg (.int i) 0 ((sg.length:Int) - 1)=false:=by
     rw [← Bool.not_eq_true]
     simp only [amg,Bool.and_eq_true,decide_eq_true_eq];omega
    rw [ea,if_neg (by decide)]
    have e:hasV sg (.int i)=false:=by
     rw [← Bool.not_eq_true]
     show ¬ (hasI sg i=true)
     unfold hasI
     simp only [Bool.and_eq_true,decide_eq_true_eq]
     intro z
     exact hi ⟨z.1.1,z.1.2⟩
    rw [e] at hq
    exact hq
  | _=>
   rw [show amg _ 0 ((sg.length:Int) - 1)=false from rfl,if_neg (by decide)]
   exact hq
theorem sc_q24:FnScope ["self","cell"] ["self","cell"] (defScope s_q24):=⟨rfl,rfl,rfl,by decide +kernel,rfl,by decide +kernel,by decide +kernel⟩
set_option maxHeartbeats 4000000 in
theorem ok_q24 {fd:FuncData}(F:Fun K "sign" "Floor.sign" s_q24 ad.q24 fd) (T:Txt K mg ad):FnOk P w K mg base CX0 1 ad.q24 fd ["self","cell"] (spSign ad.C_Floor):=by
 refine F.ok sc_q24 (fun vs H Q E h=>?_) (fun cdv A outer s H vs Q E HR h=>?_)
 ·obtain⟨p,w,h,sg,c,rfl,_⟩:=h
  rfl
 ·obtain⟨p,w,h,sg,c,rfl,F0,g,c0,c1,hq⟩:=h
  have ND:=sc_q24.nd
  have HU0:=HR.units0
  have HU:=HR.units
  have hA:=HR.hd
  have hz:(100000:Nat)≤sizeLine:=by rw [sizeLine_eq];decide
  refine⟨_,(pss_one (ps_ret (pe_ix ix_str (pe_fld (pe_var (i:=0) (x:="self") rfl (vis_of z574) d_self e_self) (by rfl)) (pe_var (i:=1) (x:="cell") rfl (vis_of z612) d_cell e_cell) (fun _ _=>rfl)))),?_⟩
  obtain⟨dx,l,h1,h2⟩:=F0.ob
  have l100:=len100 g
  walk_at "RD"
  exact⟨_,_,_,h1,T.cl_Floor,T.n_Floor_signs,_,z364 _ _ _ _,_,rfl,by rw [z46];omega,_,at_txt c0 c1,hq⟩
theorem sc_q9:FnScope ["self","cell"] ["self","cell"] (defScope s_q9):=⟨rfl,rfl,rfl,by decide +kernel,rfl,by decide +kernel,by decide +kernel⟩
set_option maxHeartbeats 4000000 in
theorem ok_q9 {fd:FuncData}(F:Fun K "column" "Floor.column" s_q9 ad.q9 fd) (T:Txt K mg ad):FnOk P w K mg base CX0 1 ad.q9 fd ["self","cell"] (spCol ad.C_Floor):=by
 refine F.ok sc_q9 (fun vs H Q E h=>?_) (fun cdv A outer s H vs Q E HR h=>?_)
 ·obtain⟨p,w,h,sg,c,rfl,_⟩:=h
  rfl
 ·obtain⟨p,w,h,sg,c,rfl,F0,g,hq⟩:=h
  have ND:=sc_q9.nd
  have HU0:=HR.units0
  have HU:=HR.units
  have hA:=HR.hd
  have hz:(100000:Nat)≤sizeLine:=by rw [sizeLine_eq];decide
  refine⟨_,(pss_one (ps_ret (pe_op op_mod (pe_var (i:=1) (x:="cell") rfl (vis_of z725) d_cell e_cell) (pe_fld (pe_var (i:=0) (x:="self") rfl (vis_of z697) d_self e_self) (by rfl))))),?_⟩
  obtain⟨dx,l,h1,h2⟩:=F0.ob
  have w0:=g.w0
  walk_at "RD"
  exact⟨_,_,_,h1,T.cl_Floor,T.n_Floor_wide,_,f_wide _ _ _ _,_,rfl,by omega,hq⟩
theorem sc_q32:FnScope ["self","cell"] ["self","cell"] (defScope s_q32):=⟨rfl,rfl,rfl,by decide +kernel,rfl,by decide +kernel,by decide +kernel⟩
set_option maxHeartbeats 4000000 in
theorem ok_q32 {fd:FuncData}(F:Fun K "row" "Floor.row" s_q32 ad.q32 fd) (T:Txt K mg ad):FnOk P w K mg base CX0 1 ad.q32 fd ["self","cell"] (z613 ad.C_Floor):=by
 refine F.ok sc_q32 (fun vs H Q E h=>?_) (fun cdv A outer s H vs Q E HR h=>?_)
 ·obtain⟨p,w,h,sg,c,rfl,_⟩:=h
  rfl
 ·obtain⟨p,w,h,sg,c,rfl,F0,g,hq⟩:=h
  have ND:=sc_q32.nd
  have HU0:=HR.units0
  have HU:=HR.units
  have hA:=HR.hd
  have hz:(100000:Nat)≤sizeLine:=by rw [sizeLine_eq];decide
  refine⟨_,(pss_one (ps_ret (pe_op op_fdiv (pe_var (i:=1) (x:="cell") rfl (vis_of z654) d_cell e_cell) (pe_fld (pe_var (i:=0) (x:="self") rfl (vis_of z648) d_self e_self) (by rfl))))),?_⟩
  obtain⟨dx,l,h1,h2⟩:=F0.ob
  have w0:=g.w0
  have w1:=g.w1
  walk_at "RD"
  exact⟨_,_,_,h1,T.cl_Floor,T.n_Floor_wide,_,f_wide _ _ _ _,_,rfl,⟨by omega,by omega⟩,hq⟩
theorem sc_q10:FnScope ["self","cell","near"] ["self","cell"] (defScope s_q10):=⟨rfl,rfl,rfl,by decide +kernel,rfl,by decide +kernel,by decide +kernel⟩
set_option maxHeartbeats 4000000 in
theorem ok_q10 {fd:FuncData}(F:Fun K "beside" "Floor.beside" s_q10 ad.q10 fd) (T:Txt K mg ad){fd_q9:FuncData}(B_q9:Binds K fd_q9 ["self","cell"] []) (G_q9:FnOk P w K mg base CX0 1 ad.q9 fd_q9 ["self","cell"] (spCol ad.C_Floor)){fd_q31:FuncData}(B_q31:Binds K fd_q31 ["self","cell"] []) (G_q31:FnOk P w K mg base CX0 3 ad.q31 fd_q31 ["self","cell"] (spHas K ad.C_Floor)):FnOk P w K mg base CX0 4 ad.q10 fd ["self","cell"] (z459 ad.C_Floor):=by
 refine F.ok sc_q10 (fun vs H Q E h=>?_) (fun cdv A outer s H vs Q E HR h=>?_)
 ·obtain⟨p,w,h,sg,c,rfl,_⟩:=h
  rfl
 ·obtain⟨p,w,h,sg,c,rfl,F0,g,hq⟩:=h
  have ND:=sc_q10.nd
  have HU0:=HR.units0
  have HU:=HR.units
  have hA:=HR.hd
  have hz:(100000:Nat)≤sizeLine:=by rw [sizeLine_eq];decide
  refine⟨_,(pss_cons (ps_set (i:=2) ND rfl (loc_of (Or.inl z416)) (pe_lst (pa_cons (pe_op op_sub (pe_var (i:=1) (x:="cell") rfl (vis_of z102) d_cell e_cell) (pe_fld (pe_var (i:=0) (x:="self") rfl (vis_of z146) d_self e_self) (by rfl))) pa_nil (stp rfl))))
 (pss_cons (ps_if (pt_cmpR op_gt (pe_meth (pe_var (i:=0) (x:="self") rfl (vis_of z146) d_self e_self) T.cl_Floor T.m_q9 G_q9 (HR.mono (by decide)) B_q9 .nil pass0 (pa_cons (pe_var (i:=1) (x:="cell") rfl (vis_of z102) d_cell e_cell) pa_nil (stp rfl)) (hst:=stp rfl) (hpl:=anp rfl)) pe_int (nomark _))
 (pss_one (ps_expr (pe_bm PySem.F.plainAttrs_list PySem.F.slot_list_append PySem.F.type_list_append mt_append (pe_var (i:=2) (x:="near") rfl (vis_of z215) d_near e_near) (pa_cons (pe_op op_sub (pe_var (i:=1) (x:="cell") rfl (vis_of z102) d_cell e_cell) pe_int) pa_nil (stp rfl)))))
 pss_nil)
 (pss_cons (ps_if (pt_cmpR op_lt (pe_meth (pe_var (i:=0) (x:="self") rfl (vis_of z146) d_self e_self) T.cl_Floor T.m_q9 G_q9 (HR.mono (by decide)) B_q9 .nil pass0 (pa_cons (pe_var (i:=1) (x:="cell") rfl (vis_of z102) d_cell e_cell) pa_nil (stp rfl)) (hst:=stp rfl) (hpl:=anp rfl)) (pe_op op_sub (pe_fld (pe_var (i:=0) (x:="self") rfl (vis_of z146) d_self e_self) (by rfl)) pe_int) (nomark _))
 (pss_one (ps_expr (pe_bm PySem.F.plainAttrs_list PySem.F.slot_list_append PySem.F.type_list_append mt_append (pe_var (i:=2) (x:="near") rfl (vis_of z215) d_near e_near) (pa_cons (pe_op op_add (pe_var (i:=1) (x:="cell") rfl (vis_of z102) d_cell e_cell) pe_int) pa_nil (stp rfl)))))
 pss_nil)
 (pss_cons (ps_expr (pe_bm PySem.F.plainAttrs_list PySem.F.slot_list_append PySem.F.type_list_append mt_append (pe_var (i:=2) (x:="near") rfl (vis_of z215) d_near e_near) (pa_cons (pe_op op_add (pe_var (i:=1) (x:="cell") rfl (vis_of z102) d_cell e_cell) (pe_fld (pe_var (i:=0) (x:="self") rfl (vis_of z146) d_self e_self) (by rfl))) pa_nil (stp rfl))))
 (pss_one (ps_ret (z89 (z8.of (osc:=defScope s_q10) (tn:=["place"]) (cn:=["self"]) (caps:=[0]) rfl rfl (by decide +kernel) (by decide +kernel) (by decide +kernel) (by decide +kernel) rfl) (calm0 rfl)  (pi_list (pe_var (i:=2) (x:="near") rfl (vis_of z215) d_near e_near))
 (fun _ _ _ _ _=>(pg_name (i:=0) (show (["place","self"]:List Str).Nodup by decide +kernel) rfl (Or.inl rfl))) (fun _ _ _ _ _=>(z77 (pt_val (pe_meth (pv 1) T.cl_Floor T.m_q31 G_q31 (HR.mono (by decide)) B_q31 .nil pass0 (pa_cons (pv 0) pa_nil (stp rfl)) (hst:=stp rfl) (hpl:=anp rfl))))) (fun _ _ _ _ _=>(pv 0))))))))),?_⟩
  obtain⟨dx,l,h1,h2⟩:=F0.ob
  have w0:=g.w0
  have w1:=g.w1
  have nocol:(flds w h l sg).lookup ("column":Str)=none:=f_no _ _ _ _ (by decide +kernel) (by decide +kernel) (by decide +kernel) (by decide +kernel)
  have nohas:(flds w h l sg).lookup ("has":Str)=none:=f_no _ _ _ _ (by decide +kernel) (by decide +kernel) (by decide +kernel) (by decide +kernel)
  refine y3 (fun σ H'=>∃ n,H n=none∧Same H H'∧H' n=some (.lst ([c - (w:Int)].map V.int))∧σ=[some (V.ref p),some (V.int c),some (V.ref n)]) (fun nx hk=>?_) ?_
  ·walk_at "RD"
   exact⟨_,_,_,h1,T.cl_Floor,T.n_Floor_wide,_,f_wide _ _ _ _,_,rfl,by omega,fun n nn=>hk _ _ ⟨n,nn,zz0 nn,upd_same,rfl⟩⟩
  rintro σ H1 ⟨n,nn,s1,hn,rfl⟩
  refine y3 (fun σ H'=>Same H H'∧H' n=some (.lst (([c - (w:Int)]++(if c % w > 0 then [c - 1] else [])).map V.int))∧σ=[some (V.ref p),some (V.int c),some (V.ref n)]) (fun nx hk=>?_) ?_
  ·walk_at "RD"
   refine⟨_,_,s1 _ _ h1,nocol,p,w,h,sg,c,rfl,F0.same s1,g,_,rfl,?_⟩
   split
   ·rename_i hc
    refine⟨.inl ⟨rfl,_,SqL.of hn⟩,_,hn,by simp only [List.map_cons,List.map_nil,List.length_cons,List.length_nil];omega,hk _ _ ⟨z387 s1 nn,?_,rfl⟩⟩
    rw [upd_same,if_pos hc]
    rfl
   ·rename_i hc
    refine hk _ _ ⟨s1,?_,rfl⟩
    rw [hn,if_neg hc]
    rfl
  rintro σ H2 ⟨s2,hn2,rfl⟩
  refine y3 (fun σ H'=>Same H H'∧H' n=some (.lst (([c - (w:Int)]++(if c % w > 0 then [c - 1] else [])++(if c % w < (w:Int) - 1 then [c + 1] else [])).map V.int))∧σ=[some (V.ref p),some (V.int c),some (V.ref n)]) (fun nx hk=>?_) ?_
  ·walk_at "RD"
   refine⟨_,_,s2 _ _ h1,nocol,p,w,h,sg,c,rfl,F0.same s2,g,_,_,_,s2 _ _ h1,T.cl_Floor,T.n_Floor_wide,_,f_wide _ _ _ _,_,rfl,_,rfl,?_⟩
   split
   ·rename_i hc
    refine⟨.inl ⟨rfl,_,SqL.of hn2⟩,_,hn2,?_,hk _ _ ⟨z387 s2 nn,?_,rfl⟩⟩
    ·rw [List.length_map,List.length_append]
     split <;> simp only [List.length_cons,List.length_nil] <;> omega
    ·rw [upd_same,if_pos hc]
     simp only [List.map_append,List.map_cons,List.map_nil]
   ·rename_i hc
    refine hk _ _ ⟨s2,?_,rfl⟩
    rw [hn2,if_neg hc,List.append_nil]
  rintro σ H3 ⟨s3,hn3,rfl⟩
  refine y3 (fun σ H'=>Same H H'∧H' n=some (.lst ((nearOf w c).map V.int))∧σ=[some (V.ref p),some (V.int c),some (V.ref n)]) (fun nx hk=>?_) ?_
  ·walk_at "RD"
   refine⟨.inl ⟨rfl,_,SqL.of hn3⟩,_,_,_,s3 _ _ h1,T.cl_Floor,T.n_Floor_wide,_,f_wide _ _ _ _,_,rfl,_,hn3,?_,hk _ _ ⟨z387 s3 nn,?_,rfl⟩⟩
   ·rw [List.length_map,List.length_append,List.length_append]
    split <;> split <;> simp only [List.length_cons,List.length_nil] <;> omega
   ·rw [upd_same]
    unfold nearOf
    simp only [List.map_append,List.map_cons,List.map_nil]
  rintro σ H4 ⟨s4,hn4,rfl⟩
  have F4:=F0.same s4
  walk_at "RD"
  refine⟨⟨_,SqL.of hn4⟩,z33 (src_list (SqL.of hn4)) (hasV sg) (fun v=>v) (fun y hy Q hh=>?_) (fun y hy _ Q hh=>?_) ?_ ?_⟩
  ·obtain⟨z,_,rfl⟩:=List.mem_map.mp hy
   walk_at "RD"
   exact⟨_,_,s4 _ _ h1,nohas,p,w,h,sg,_,rfl,F4,g,⟨_,.int _⟩,_,rfl,hh⟩
  ·walk_at "RD"
   exact hh
  ·unfold nearOf
   rw [List.length_map,List.length_append,List.length_append,List.length_append]
   split <;> split <;> simp only [List.length_cons,List.length_nil] <;> omega
  ·intro D hD
   have e:((((nearOf w c).map V.int).filter (hasV sg)).map fun v=>v)=(z24 w sg c).map V.int:=by
    rw [List.map_id',z24,List.filter_map]
    rfl
   rw [e]
   exact hq D _ (s4.free hD) (s4.trans (zz0 hD)) upd_same
theorem sc_q17:FnScope ["self"] ["self"] (defScope s_q17):=⟨rfl,rfl,rfl,by decide +kernel,rfl,by decide +kernel,by decide +kernel⟩
set_option maxHeartbeats 4000000 in
theorem ok_q17 {fd:FuncData}(F:Fun K "cells" "Floor.cells" s_q17 ad.q17 fd) (T:Txt K mg ad){fd_q31:FuncData}(B_q31:Binds K fd_q31 ["self","cell"] []) (G_q31:FnOk P w K mg base CX0 3 ad.q31 fd_q31 ["self","cell"] (spHas K ad.C_Floor)):FnOk P w K mg base CX0 4 ad.q17 fd ["self"] (z504 ad.C_Floor):=by
 refine F.ok sc_q17 (fun vs H Q E h=>?_) (fun cdv A outer s H vs Q E HR h=>?_)
 ·obtain⟨p,w,h,sg,rfl,_⟩:=h
  rfl
 ·obtain⟨p,w,h,sg,rfl,F0,g,hq⟩:=h
  have ND:=sc_q17.nd
  have HU0:=HR.units0
  have HU:=HR.units
  have hA:=HR.hd
  have hz:(100000:Nat)≤sizeLine:=by rw [sizeLine_eq];decide
  refine⟨_,(pss_one (ps_ret (z89 (z8.of (osc:=defScope s_q17) (tn:=["place"]) (cn:=["self"]) (caps:=[0]) rfl rfl (by decide +kernel) (by decide +kernel) (by decide +kernel) (by decide +kernel) rfl) (calm0 rfl)  (pi_range1 (gl_of z564) T.b_range (pa_cons (pe_callB call_len_str (gl_of z689) T.b_len PyProof.Rows.Boot.«len» (pa_cons (pe_fld (pe_var (i:=0) (x:="self") rfl (vis_of z630) d_self e_self) (by rfl)) pa_nil (stp rfl)) (hn:=n_len) (hdb:=d_len) (he:=stp rfl) (hpl:=anp rfl)) pa_nil (stp rfl)) (st1 rfl))
 (fun _ _ _ _ _=>(pg_name (i:=0) (show (["place","self"]:List Str).Nodup by decide +kernel) rfl (Or.inl rfl))) (fun _ _ _ _ _=>(z77 (pt_val (pe_meth (pv 1) T.cl_Floor T.m_q31 G_q31 (HR.mono (by decide)) B_q31 .nil pass0 (pa_cons (pv 0) pa_nil (stp rfl)) (hst:=stp rfl) (hpl:=anp rfl))))) (fun _ _ _ _ _=>(pv 0))))),?_⟩
  obtain⟨dx,l,h1,h2⟩:=F0.ob
  have l100:=len100 g
  walk_at "RD"
  refine⟨_,_,_,h1,T.cl_Floor,T.n_Floor_signs,_,z364 _ _ _ _,_,rfl,by rw [z46];omega,by omega,by rw [z46];omega,?_⟩
  rw [z46,Int.toNat_natCast]
  refine z33 src_range (hasV sg) (fun v=>v) (fun y hy Q hh=>?_) (fun y hy _ Q hh=>?_) (by rw [List.length_map,List.length_range];omega) ?_
  ·obtain⟨i,hi,rfl⟩:=List.mem_map.mp hy
   walk_at "RD"
   exact⟨_,_,h1,f_no _ _ _ _ (by decide +kernel) (by decide +kernel) (by decide +kernel) (by decide +kernel),p,w,h,sg,_,rfl,F0,g,⟨_,.int _⟩,_,rfl,hh⟩
  ·walk_at "RD"
   exact hh
  ·intro D hD
   have e:((((List.range sg.length).map fun i=>V.int (0 + ((i:Nat):Int))).filter (hasV sg)).map fun v=>v)=(cellsOf sg).map V.int:=by
    rw [List.map_id',z503,places]
    have:((List.range sg.length).map fun i=>V.int (0 + ((i:Nat):Int)))=((List.range sg.length).map fun i=>((i:Nat):Int)).map V.int:=by
     rw [List.map_map]
     refine List.map_congr_left fun i _=>?_
     simp
    rw [this,List.filter_map]
    rfl
   rw [e]
   exact hq D _ hD (zz0 hD) upd_same
theorem sc_q7:FnScope ["self"] ["self"] (defScope s_q7):=⟨rfl,rfl,rfl,by decide +kernel,rfl,by decide +kernel,by decide +kernel⟩
set_option maxHeartbeats 4000000 in
theorem ok_q7 {fd:FuncData}(F:Fun K "chargers" "Floor.chargers" s_q7 ad.q7 fd) (T:Txt K mg ad):FnOk P w K mg base CX0 1 ad.q7 fd ["self"] (z275 ad.C_Floor):=by
 refine F.ok sc_q7 (fun vs H Q E h=>?_) (fun cdv A outer s H vs Q E HR h=>?_)
 ·obtain⟨p,w,h,sg,rfl,_⟩:=h
  rfl
 ·obtain⟨p,w,h,sg,rfl,F0,g,hq⟩:=h
  have ND:=sc_q7.nd
  have HU0:=HR.units0
  have HU:=HR.units
  have hA:=HR.hd
  have hz:(100000:Nat)≤sizeLine:=by rw [sizeLine_eq];decide
  obtain⟨u_CHARGER,c_CHARGER,r_CHARGER⟩:=T.c_CHARGER
  refine⟨_,(pss_one (ps_ret (z89 (z8.of (osc:=defScope s_q7) (tn:=["place"]) (cn:=["self"]) (caps:=[0]) rfl rfl (by decide +kernel) (by decide +kernel) (by decide +kernel) (by decide +kernel) rfl) (calm0 rfl)  (pi_range1 (gl_of z671) T.b_range (pa_cons (pe_callB call_len_str (gl_of z784) T.b_len PyProof.Rows.Boot.«len» (pa_cons (pe_fld (pe_var (i:=0) (x:="self") rfl (vis_of z710) d_self e_self) (by rfl)) pa_nil (stp rfl)) (hn:=n_len) (hdb:=d_len) (he:=stp rfl) (hpl:=anp rfl)) pa_nil (stp rfl)) (st1 rfl))
 (fun _ _ _ _ _=>(pg_name (i:=0) (show (["place","self"]:List Str).Nodup by decide +kernel) rfl (Or.inl rfl))) (fun _ _ _ _ _=>(z77 (pt_cmpR op_eq (pe_ix ix_str (z797 (K:=K) rfl (pv 1) (by rfl)) (pv 0) (fun _ _=>rfl)) (pe_glob (v:=V.str (Str.ofString "+")) (by rfl) c_CHARGER r_CHARGER (hd:=z712)) (nomark _)))) (fun _ _ _ _ _=>(pv 0))))),?_⟩
  obtain⟨dx,l,h1,h2⟩:=F0.ob
  have l100:=len100 g
  walk_at "RD"
  refine⟨_,_,_,h1,T.cl_Floor,T.n_Floor_signs,_,z364 _ _ _ _,_,rfl,by rw [z46];omega,by omega,by rw [z46];omega,?_⟩
  rw [z46,Int.toNat_natCast]
  refine z33 src_range (isCh sg) (fun v=>v) (fun y hy Q hh=>?_) (fun y hy _ Q hh=>?_) (by rw [List.length_map,List.length_range];omega) ?_
  ·obtain⟨i,hi,rfl⟩:=List.mem_map.mp hy
   have hi':=List.mem_range.mp hi
   walk_at "RD"
   refine⟨_,_,_,h1,T.cl_Floor,T.n_Floor_signs,_,z364 _ _ _ _,_,rfl,by rw [z46];omega,_,at_txt (by omega) (by omega),?_⟩
   have e:isCh sg (V.int (0 + ((i:Nat):Int)))=decide ((⟨#[at_ sg (0 + ((i:Nat):Int))]⟩:Str)=Str.ofString "+"):=decide_eq_decide.mpr (z790 _).symm
   rw [e] at hh
   exact hh
  ·walk_at "RD"
   exact hh
  ·intro D hD
   have e:((((List.range sg.length).map fun i=>V.int (0 + ((i:Nat):Int))).filter (isCh sg)).map fun v=>v)=(z19 sg).map V.int:=by
    rw [List.map_id',z19,places]
    have:((List.range sg.length).map fun i=>V.int (0 + ((i:Nat):Int)))=((List.range sg.length).map fun i=>((i:Nat):Int)).map V.int:=by
     rw [List.map_map]
     refine List.map_congr_left fun i _=>?_
     simp
    rw [this,List.filter_map]
    rfl
   rw [e]
   exact hq D _ hD (zz0 hD) upd_same
theorem sc_q11:FnScope ["self","full"] ["self","full"] (defScope s_q11):=⟨rfl,rfl,rfl,by decide +kernel,rfl,by decide +kernel,by decide +kernel⟩
set_option maxHeartbeats 4000000 in
theorem ok_q11 {fd:FuncData}(F:Fun K "__init__" "Carrier.__init__" s_q11 ad.q11 fd) (T:Txt K mg ad):FnOk P w K mg base CX0 1 ad.q11 fd ["self","full"] (z500 ad):=by
 refine F.ok sc_q11 (fun vs H Q E h=>?_) (fun cdv A outer s H vs Q E HR h=>?_)
 ·obtain⟨p,dx,n,i,rfl,_⟩:=h
  rfl
 ·obtain⟨p,dx,n,i,rfl,hp,hq⟩:=h
  have ND:=sc_q11.nd
  have HU0:=HR.units0
  have HU:=HR.units
  have hA:=HR.hd
  have hz:(100000:Nat)≤sizeLine:=by rw [sizeLine_eq];decide
  refine⟨_,(pss_one (ps_fld (pe_var (i:=0) (x:="self") rfl (vis_of z578) d_self e_self) (pe_var (i:=1) (x:="full") rfl (vis_of z658) d_full e_full) rfl)),?_⟩
  walk_at "RD"
  exact⟨_,_,_,hp,cls_of T i,nof_of T i,by simp,hq⟩
theorem sc_q12:FnScope ["self"] ["self"] (defScope s_q12):=⟨rfl,rfl,rfl,by decide +kernel,rfl,by decide +kernel,by decide +kernel⟩
set_option maxHeartbeats 4000000 in
theorem ok_q12 {fd:FuncData}(F:Fun K "kind" "Carrier.kind" s_q12 ad.q12 fd) (T:Txt K mg ad):FnOk P w K mg base CX0 1 ad.q12 fd ["self"] (spKind "carrier"):=by
 refine F.ok sc_q12 (fun vs H Q E h=>?_) (fun cdv A outer s H vs Q E HR h=>?_)
 ·obtain⟨x,rfl,_⟩:=h
  rfl
 ·obtain⟨x,rfl,hq⟩:=h
  have ND:=sc_q12.nd
  have HU0:=HR.units0
  have HU:=HR.units
  have hA:=HR.hd
  have hz:(100000:Nat)≤sizeLine:=by rw [sizeLine_eq];decide
  refine⟨_,(pss_one (ps_ret pe_str)),?_⟩
  walk_at "RD"
  exact hq
theorem sc_q33:FnScope ["self"] ["self"] (defScope s_q33):=⟨rfl,rfl,rfl,by decide +kernel,rfl,by decide +kernel,by decide +kernel⟩
set_option maxHeartbeats 4000000 in
theorem ok_q33 {fd:FuncData}(F:Fun K "kind" "Cart.kind" s_q33 ad.q33 fd) (T:Txt K mg ad):FnOk P w K mg base CX0 1 ad.q33 fd ["self"] (spKind "cart"):=by
 refine F.ok sc_q33 (fun vs H Q E h=>?_) (fun cdv A outer s H vs Q E HR h=>?_)
 ·obtain⟨x,rfl,_⟩:=h
  rfl
 ·obtain⟨x,rfl,hq⟩:=h
  have ND:=sc_q33.nd
  have HU0:=HR.units0
  have HU:=HR.units
  have hA:=HR.hd
  have hz:(100000:Nat)≤sizeLine:=by rw [sizeLine_eq];decide
  refine⟨_,(pss_one (ps_ret pe_str)),?_⟩
  walk_at "RD"
  exact hq
theorem sc_q14:FnScope ["self"] ["self"] (defScope s_q14):=⟨rfl,rfl,rfl,by decide +kernel,rfl,by decide +kernel,by decide +kernel⟩
set_option maxHeartbeats 4000000 in
theorem ok_q14 {fd:FuncData}(F:Fun K "kind" "Crawler.kind" s_q14 ad.q14 fd) (T:Txt K mg ad):FnOk P w K mg base CX0 1 ad.q14 fd ["self"] (spKind "crawler"):=by
 refine F.ok sc_q14 (fun vs H Q E h=>?_) (fun cdv A outer s H vs Q E HR h=>?_)
 ·obtain⟨x,rfl,_⟩:=h
  rfl
 ·obtain⟨x,rfl,hq⟩:=h
  have ND:=sc_q14.nd
  have HU0:=HR.units0
  have HU:=HR.units
  have hA:=HR.hd
  have hz:(100000:Nat)≤sizeLine:=by rw [sizeLine_eq];decide
  refine⟨_,(pss_one (ps_ret pe_str)),?_⟩
  walk_at "RD"
  exact hq
theorem sc_q18:FnScope ["self"] ["self"] (defScope s_q18):=⟨rfl,rfl,rfl,by decide +kernel,rfl,by decide +kernel,by decide +kernel⟩
set_option maxHeartbeats 4000000 in
theorem ok_q18 {fd:FuncData}(F:Fun K "kind" "Runner.kind" s_q18 ad.q18 fd) (T:Txt K mg ad):FnOk P w K mg base CX0 1 ad.q18 fd ["self"] (spKind "runner"):=by
 refine F.ok sc_q18 (fun vs H Q E h=>?_) (fun cdv A outer s H vs Q E HR h=>?_)
 ·obtain⟨x,rfl,_⟩:=h
  rfl
 ·obtain⟨x,rfl,hq⟩:=h
  have ND:=sc_q18.nd
  have HU0:=HR.units0
  have HU:=HR.units
  have hA:=HR.hd
  have hz:(100000:Nat)≤sizeLine:=by rw [sizeLine_eq];decide
  refine⟨_,(pss_one (ps_ret pe_str)),?_⟩
  walk_at "RD"
  exact hq
theorem sc_q2:FnScope ["self","sign"] ["self","sign"] (defScope s_q2):=⟨rfl,rfl,rfl,by decide +kernel,rfl,by decide +kernel,by decide +kernel⟩
set_option maxHeartbeats 4000000 in
theorem ok_q2 {fd:FuncData}(F:Fun K "may_stand" "Carrier.may_stand" s_q2 ad.q2 fd) (T:Txt K mg ad):FnOk P w K mg base CX0 1 ad.q2 fd ["self","sign"] (spMay 0):=by
 refine F.ok sc_q2 (fun vs H Q E h=>?_) (fun cdv A outer s H vs Q E HR h=>?_)
 ·obtain⟨x,c,rfl,_⟩:=h
  rfl
 ·obtain⟨x,c,rfl,hq⟩:=h
  have ND:=sc_q2.nd
  have HU0:=HR.units0
  have HU:=HR.units
  have hA:=HR.hd
  have hz:(100000:Nat)≤sizeLine:=by rw [sizeLine_eq];decide
  obtain⟨u_COMMON_SIGNS,c_COMMON_SIGNS,r_COMMON_SIGNS⟩:=T.c_COMMON_SIGNS
  refine⟨_,(pss_one (ps_ret (pe_cmpR op_in_seq (pe_var (i:=1) (x:="sign") rfl (vis_of z722) d_sign e_sign) (pe_glob (v:=.ref ad.K_COMMON_SIGNS) (gl_of z256) c_COMMON_SIGNS r_COMMON_SIGNS (hd:=z220)) (by with_unfolding_all rfl)))),?_⟩
  walk_at "RD"
  refine⟨_,.inr (T.kt_COMMON_SIGNS H),rfl,rfl,?_⟩
  rw [z490]
  have e:stands 0 c=common c:=by simp [stands]
  rw [← e]
  exact hq
theorem sc_q3:FnScope ["self","sign"] ["self","sign"] (defScope s_q3):=⟨rfl,rfl,rfl,by decide +kernel,rfl,by decide +kernel,by decide +kernel⟩
set_option maxHeartbeats 4000000 in
theorem ok_q3 {fd:FuncData}(F:Fun K "may_stand" "Crawler.may_stand" s_q3 ad.q3 fd) (T:Txt K mg ad):FnOk P w K mg base CX0 1 ad.q3 fd ["self","sign"] (spMay 1):=by
 refine F.ok sc_q3 (fun vs H Q E h=>?_) (fun cdv A outer s H vs Q E HR h=>?_)
 ·obtain⟨x,c,rfl,_⟩:=h
  rfl
 ·obtain⟨x,c,rfl,hq⟩:=h
  have ND:=sc_q3.nd
  have HU0:=HR.units0
  have HU:=HR.units
  have hA:=HR.hd
  have hz:(100000:Nat)≤sizeLine:=by rw [sizeLine_eq];decide
  obtain⟨u_ROUGH,c_ROUGH,r_ROUGH⟩:=T.c_ROUGH
  obtain⟨u_COMMON_SIGNS,c_COMMON_SIGNS,r_COMMON_SIGNS⟩:=T.c_COMMON_SIGNS
  refine⟨_,(pss_one (ps_ret (pe_or (pe_cmpR op_eq (pe_var (i:=1) (x:="sign") rfl (vis_of z501) d_sign e_sign) (pe_glob (v:=V.str (Str.ofString "~")) (gl_of z617) c_ROUGH r_ROUGH (hd:=z745)) (nomark _)) (pe_one (pe_cmpR op_in_seq (pe_var (i:=1) (x:="sign") rfl (vis_of z501) d_sign e_sign) (pe_glob (v:=.ref ad.K_COMMON_SIGNS) (gl_of z261) c_COMMON_SIGNS r_COMMON_SIGNS (hd:=z220)) (by with_unfolding_all rfl)))))),?_⟩
  walk_at "RD"
  refine⟨rfl,?_⟩
  by_cases e:c=126
  ·rw [if_pos (q126.mpr e)]
   have e2:stands 1 c=true:=by simp [stands,e]
   rw [← e2]
   exact hq
  ·rw [if_neg (fun z=>e (q126.mp z))]
   refine⟨_,.inr (T.kt_COMMON_SIGNS H),rfl,rfl,?_⟩
   rw [z490]
   have e2:stands 1 c=common c:=by simp [stands,e]
   rw [← e2]
   exact hq
theorem sc_q13:FnScope ["self","floor","cell","other"] ["self","floor","cell","other"] (defScope s_q13):=⟨rfl,rfl,rfl,by decide +kernel,rfl,by decide +kernel,by decide +kernel⟩
set_option maxHeartbeats 4000000 in
theorem ok_q13 {fd:FuncData}(F:Fun K "fare" "Carrier.fare" s_q13 ad.q13 fd) (T:Txt K mg ad):FnOk P w K mg base CX0 1 ad.q13 fd ["self","floor","cell","other"] (spFare ad.C_Floor 0):=by
 refine F.ok sc_q13 (fun vs H Q E h=>?_) (fun cdv A outer s H vs Q E HR h=>?_)
 ·obtain⟨x,fl,w,h,sg,cell,other,rfl,_⟩:=h
  rfl
 ·obtain⟨x,fl,w,h,sg,cell,other,rfl,F0,g,c01,o01,hq⟩:=h
  have ND:=sc_q13.nd
  have HU0:=HR.units0
  have HU:=HR.units
  have hA:=HR.hd
  have hz:(100000:Nat)≤sizeLine:=by rw [sizeLine_eq];decide
  refine⟨_,(pss_one (ps_ret pe_int)),?_⟩
  walk_at "RD"
  exact hq _ (Same.refl _)
theorem sc_q15:FnScope ["self","floor","cell","other"] ["self","floor","cell","other"] (defScope s_q15):=⟨rfl,rfl,rfl,by decide +kernel,rfl,by decide +kernel,by decide +kernel⟩
set_option maxHeartbeats 4000000 in
theorem ok_q15 {fd:FuncData}(F:Fun K "fare" "Crawler.fare" s_q15 ad.q15 fd) (T:Txt K mg ad){fd_q24:FuncData}(B_q24:Binds K fd_q24 ["self","cell"] []) (G_q24:FnOk P w K mg base CX0 1 ad.q24 fd_q24 ["self","cell"] (spSign ad.C_Floor)):FnOk P w K mg base CX0 2 ad.q15 fd ["self","floor","cell","other"] (spFare ad.C_Floor 1):=by
 refine F.ok sc_q15 (fun vs H Q E h=>?_) (fun cdv A outer s H vs Q E HR h=>?_)
 ·obtain⟨x,fl,w,h,sg,cell,other,rfl,_⟩:=h
  rfl
 ·obtain⟨x,fl,w,h,sg,cell,other,rfl,F0,g,c01,o01,hq⟩:=h
  have ND:=sc_q15.nd
  have HU0:=HR.units0
  have HU:=HR.units
  have hA:=HR.hd
  have hz:(100000:Nat)≤sizeLine:=by rw [sizeLine_eq];decide
  obtain⟨u_ROUGH,c_ROUGH,r_ROUGH⟩:=T.c_ROUGH
  refine⟨_,(pss_one (ps_ret (pe_ifExp (pt_cmpR op_eq (pe_meth (pe_var (i:=1) (x:="floor") rfl (vis_of z561) z53 z52) T.cl_Floor T.m_q24 G_q24 (HR.mono (by decide)) B_q24 .nil pass0 (pa_cons (pe_var (i:=3) (x:="other") rfl (vis_of z550) z202 z218) pa_nil (stp rfl)) (hst:=stp rfl) (hpl:=anp rfl)) (pe_glob (v:=V.str (Str.ofString "~")) (gl_of z530) c_ROUGH r_ROUGH (hd:=z745)) (nomark _)) pe_int pe_int))),?_⟩
  obtain⟨dx,l,h1,h2⟩:=id F0.ob
  walk_at "RD"
  refine⟨_,_,h1,nofl (by decide +kernel) (by decide +kernel) (by decide +kernel) (by decide +kernel),fl,w,h,sg,other,rfl,F0,g,o01.1,o01.2,rfl,?_⟩
  simp only [fareOf] at hq
  by_cases e:at_ sg other=126
  ·rw [if_pos (q126.mpr e)]
   rw [if_pos e] at hq
   exact hq _ (Same.refl _)
  ·rw [if_neg (fun z=>e (q126.mp z))]
   rw [if_neg e] at hq
   exact hq _ (Same.refl _)
theorem sc_q19:FnScope ["self","floor","cell","other"] ["self","floor","cell","other"] (defScope s_q19):=⟨rfl,rfl,rfl,by decide +kernel,rfl,by decide +kernel,by decide +kernel⟩
set_option maxHeartbeats 4000000 in
theorem ok_q19 {fd:FuncData}(F:Fun K "fare" "Runner.fare" s_q19 ad.q19 fd) (T:Txt K mg ad){fd_q32:FuncData}(B_q32:Binds K fd_q32 ["self","cell"] []) (G_q32:FnOk P w K mg base CX0 1 ad.q32 fd_q32 ["self","cell"] (z613 ad.C_Floor)){fd_q24:FuncData}(B_q24:Binds K fd_q24 ["self","cell"] []) (G_q24:FnOk P w K mg base CX0 1 ad.q24 fd_q24 ["self","cell"] (spSign ad.C_Floor)):FnOk P w K mg base CX0 2 ad.q19 fd ["self","floor","cell","other"] (spFare ad.C_Floor 2):=by
 refine F.ok sc_q19 (fun vs H Q E h=>?_) (fun cdv A outer s H vs Q E HR h=>?_)
 ·obtain⟨x,fl,w,h,sg,cell,other,rfl,_⟩:=h
  rfl
 ·obtain⟨x,fl,w,h,sg,cell,other,rfl,F0,g,c01,o01,hq⟩:=h
  have ND:=sc_q19.nd
  have HU0:=HR.units0
  have HU:=HR.units
  have hA:=HR.hd
  have hz:(100000:Nat)≤sizeLine:=by rw [sizeLine_eq];decide
  obtain⟨u_LANE,c_LANE,r_LANE⟩:=T.c_LANE
  refine⟨_,(pss_cons (ps_if (pt_cmpR op_eq (pe_meth (pe_var (i:=1) (x:="floor") rfl (vis_of z159) z53 z52) T.cl_Floor T.m_q32 G_q32 (HR.mono (by decide)) B_q32 .nil pass0 (pa_cons (pe_var (i:=2) (x:="cell") rfl (vis_of z434) d_cell e_cell) pa_nil (stp rfl)) (hst:=stp rfl) (hpl:=anp rfl)) (pe_meth (pe_var (i:=1) (x:="floor") rfl (vis_of z159) z53 z52) T.cl_Floor T.m_q32 G_q32 (HR.mono (by decide)) B_q32 .nil pass0 (pa_cons (pe_var (i:=3) (x:="other") rfl (vis_of z358) z202 z218) pa_nil (stp rfl)) (hst:=stp rfl) (hpl:=anp rfl)) (nomark _))
 (pss_one (ps_ret pe_int))
 pss_nil)
 (pss_cons (ps_if (pt_cmpR op_in_seq (pe_glob (v:=V.str (Str.ofString "|")) (gl_of z667) c_LANE r_LANE (hd:=d_LANE)) (pe_tup (pa_cons (pe_meth (pe_var (i:=1) (x:="floor") rfl (vis_of z159) z53 z52) T.cl_Floor T.m_q24 G_q24 (HR.mono (by decide)) B_q24 .nil pass0 (pa_cons (pe_var (i:=2) (x:="cell") rfl (vis_of z434) d_cell e_cell) pa_nil (stp rfl)) (hst:=stp rfl) (hpl:=anp rfl)) (pa_cons (pe_meth (pe_var (i:=1) (x:="floor") rfl (vis_of z159) z53 z52) T.cl_Floor T.m_q24 G_q24 (HR.mono (by decide)) B_q24 .nil pass0 (pa_cons (pe_var (i:=3) (x:="other") rfl (vis_of z358) z202 z218) pa_nil (stp rfl)) (hst:=stp rfl) (hpl:=anp rfl)) pa_nil (stp rfl)) (stp rfl))) (by with_unfolding_all rfl))
 (pss_one (ps_ret pe_int))
 pss_nil)
 (pss_one (ps_ret pe_non)))),?_⟩
  obtain⟨dx,l,h1,h2⟩:=id F0.ob
  have nr:(flds w h l sg).lookup ("row":Str)=none:=nofl (by decide +kernel) (by decide +kernel) (by decide +kernel) (by decide +kernel)
  have ns:(flds w h l sg).lookup ("sign":Str)=none:=nofl (by decide +kernel) (by decide +kernel) (by decide +kernel) (by decide +kernel)
  walk_at "RD"
  refine⟨_,_,h1,nr,fl,w,h,sg,cell,rfl,F0,g,_,_,h1,nr,fl,w,h,sg,other,rfl,F0,g,rfl,?_⟩
  simp only [fareOf] at hq
  by_cases e:cell / (w:Int)=other / (w:Int)
  ·rw [if_pos (congrArg V.int e)]
   rw [if_pos e] at hq
   exact hq _ (Same.refl _)
  ·rw [if_neg (fun z=>e (V.int.inj z))]
   rw [if_neg e] at hq
   refine⟨_,_,h1,ns,fl,w,h,sg,cell,rfl,F0,g,c01.1,c01.2,_,_,h1,ns,fl,w,h,sg,other,rfl,F0,g,o01.1,o01.2,?_⟩
   show 2≤sizeLine∧_
   refine⟨by omega,fun p hp=>⟨_,.inr (SqT.of upd_same),rfl,rfl,?_⟩⟩
   have e2:inV (V.str (Str.ofString "|")) [chr1 (at_ sg cell),chr1 (at_ sg other)]=decide (at_ sg cell=124∨at_ sg other=124):=by
    have q:∀ c:Nat,eqV (chr1 c) (V.str (Str.ofString "|"))=decide (c=124):=fun c=>by
     have e:eqV (chr1 c) (V.str (Str.ofString "|"))=((⟨#[c]⟩:Str) == Str.ofString "|"):=rfl
     rw [e,Bool.eq_iff_iff,beq_iff_eq,decide_eq_true_iff]
     exact⟨fun z=>q124.mp (congrArg V.str z),fun z=>V.str.inj (q124.mpr z)⟩
    simp only [inV,List.any_cons,List.any_nil,Bool.or_false]
    rw [q,q,Bool.decide_or]
   rw [e2]
   by_cases e3:at_ sg cell=124∨at_ sg other=124
   ·rw [if_pos (decide_eq_true e3)]
    rw [if_pos e3] at hq
    exact hq _ (zz0 hp)
   ·rw [if_neg (fun z=>e3 (of_decide_eq_true z))]
    rw [if_neg e3] at hq
    exact hq _ (zz0 hp)
theorem sc_q0:FnScope ["self","floor","cell","other"] ["self","floor","cell","other"] (defScope s_q0):=⟨rfl,rfl,rfl,by decide +kernel,rfl,by decide +kernel,by decide +kernel⟩
set_option maxHeartbeats 4000000 in
theorem ok_q0 {fd:FuncData}(F:Fun K "fare_if_standing" "Carrier.fare_if_standing" s_q0 ad.q0 fd) (T:Txt K mg ad){fd_q2:FuncData}(B_q2:Binds K fd_q2 ["self","sign"] []) (G_q2:FnOk P w K mg base CX0 1 ad.q2 fd_q2 ["self","sign"] (spMay 0)){fd_q3:FuncData}(B_q3:Binds K fd_q3 ["self","sign"] []) (G_q3:FnOk P w K mg base CX0 1 ad.q3 fd_q3 ["self","sign"] (spMay 1)){fd_q24:FuncData}(B_q24:Binds K fd_q24 ["self","cell"] []) (G_q24:FnOk P w K mg base CX0 1 ad.q24 fd_q24 ["self","cell"] (spSign ad.C_Floor)){fd_q13:FuncData}(B_q13:Binds K fd_q13 ["self","floor","cell","other"] []) (G_q13:FnOk P w K mg base CX0 1 ad.q13 fd_q13 ["self","floor","cell","other"] (spFare ad.C_Floor 0)){fd_q15:FuncData}(B_q15:Binds K fd_q15 ["self","floor","cell","other"] []) (G_q15:FnOk P w K mg base CX0 2 ad.q15 fd_q15 ["self","floor","cell","other"] (spFare ad.C_Floor 1)){fd_q19:FuncData}(B_q19:Binds K fd_q19 ["self","floor","cell","other"] []) (G_q19:FnOk P w K mg base CX0 2 ad.q19 fd_q19 ["self","floor","cell","other"] (spFare ad.C_Floor 2)):FnOk P w K mg base CX0 3 ad.q0 fd ["self","floor","cell","other"] (z388 ad):=by
 refine F.ok sc_q0 (fun vs H Q E h=>?_) (fun cdv A outer s H vs Q E HR h=>?_)
 ·obtain⟨p,fl,i,n,w,h,sg,cell,other,rfl,_⟩:=h
  rfl
 ·obtain⟨p,fl,i,n,w,h,sg,cell,other,rfl,hc,hi,F0,g,c01,o01,hq⟩:=h
  have ND:=sc_q0.nd
  have HU0:=HR.units0
  have HU:=HR.units
  have hA:=HR.hd
  have hz:(100000:Nat)≤sizeLine:=by rw [sizeLine_eq];decide
  refine⟨_,(pss_cons (ps_if (PW.pt (pw_and (pt_val (z132 (k:=1) (pe_var (i:=0) (x:="self") rfl (vis_of z379) d_self e_self) (z5 T.cl_Cart T.m_Cart_may_stand G_q2 (by decide) B_q2 (z5 T.cl_Crawler T.m_q3 G_q3 (by decide) B_q3 (z5 T.cl_Runner T.m_Runner_may_stand G_q2 (by decide) B_q2 (z5 T.cl_Carrier T.m_q2 G_q2 (by decide) B_q2 z111)))) (HR.mono (by decide)) (pa_cons (pe_meth (pe_var (i:=1) (x:="floor") rfl (vis_of z280) z53 z52) T.cl_Floor T.m_q24 G_q24 (HR.mono (by decide)) B_q24 .nil pass0 (pa_cons (pe_var (i:=2) (x:="cell") rfl (vis_of z498) d_cell e_cell) pa_nil (stp rfl)) (hst:=stp rfl) (hpl:=anp rfl)) pa_nil (stp rfl)) (hst:=stp rfl) (hpl:=anp rfl))) (pw_and1 (pt_val (z132 (k:=1) (pe_var (i:=0) (x:="self") rfl (vis_of z379) d_self e_self) (z5 T.cl_Cart T.m_Cart_may_stand G_q2 (by decide) B_q2 (z5 T.cl_Crawler T.m_q3 G_q3 (by decide) B_q3 (z5 T.cl_Runner T.m_Runner_may_stand G_q2 (by decide) B_q2 (z5 T.cl_Carrier T.m_q2 G_q2 (by decide) B_q2 z111)))) (HR.mono (by decide)) (pa_cons (pe_meth (pe_var (i:=1) (x:="floor") rfl (vis_of z280) z53 z52) T.cl_Floor T.m_q24 G_q24 (HR.mono (by decide)) B_q24 .nil pass0 (pa_cons (pe_var (i:=3) (x:="other") rfl (vis_of z442) z202 z218) pa_nil (stp rfl)) (hst:=stp rfl) (hpl:=anp rfl)) pa_nil (stp rfl)) (hst:=stp rfl) (hpl:=anp rfl))))))
 (pss_one (ps_ret (z132 (k:=2) (pe_var (i:=0) (x:="self") rfl (vis_of z379) d_self e_self) (z5 T.cl_Cart T.m_Cart_fare G_q13 (by decide) B_q13 (z5 T.cl_Crawler T.m_q15 G_q15 (by decide) B_q15 (z5 T.cl_Runner T.m_q19 G_q19 (by decide) B_q19 (z5 T.cl_Carrier T.m_q13 G_q13 (by decide) B_q13 z111)))) (HR.mono (by decide)) (pa_cons (pe_var (i:=1) (x:="floor") rfl (vis_of z280) z53 z52) (pa_cons (pe_var (i:=2) (x:="cell") rfl (vis_of z498) d_cell e_cell) (pa_cons (pe_var (i:=3) (x:="other") rfl (vis_of z442) z202 z218) pa_nil (stp rfl)) (stp rfl)) (stp rfl)) (hst:=stp rfl) (hpl:=anp rfl))))
 pss_nil)
 (pss_one (ps_ret pe_non))),?_⟩
  obtain⟨dx,l,h1,h2⟩:=id F0.ob
  obtain⟨dp,hp⟩:=id hc
  have ns:(flds w h l sg).lookup ("sign":Str)=none:=nofl (by decide +kernel) (by decide +kernel) (by decide +kernel) (by decide +kernel)
  obtain⟨j,hj,ej⟩:=e_may (ad:=ad) i hi
  obtain⟨k,hk,ek⟩:=e_fare (ad:=ad) (C:=ad.C_Floor) i hi
  have nm:(putF "full" (V.int n) []).lookup ("may_stand":Str)=none:=l_no n (by decide +kernel)
  have nf:(putF "full" (V.int n) []).lookup ("fare":Str)=none:=l_no n (by decide +kernel)
  have may:∀ (o:Int) (Q':VK),InF sg o→Q' (.bl (stands i (at_ sg o))) H→∃ a dx fs e,e∈[(ad.C_Cart,spMay 0),(ad.C_Crawler,spMay 1),(ad.C_Runner,spMay 0),(ad.C_Carrier,spMay 0)]∧p=a∧H a=some (HO.ins e.fst dx fs)∧List.lookup ("may_stand":Str) fs=none∧
    ∃ x x_1,H fl=some (HO.ins ad.C_Floor x x_1)∧List.lookup ("sign":Str) x_1=none∧spSign ad.C_Floor [V.ref fl,V.int o] H (fun x H1=>e.snd [V.ref p,x] H1 Q' E0) E0:=fun o Q' ho q=>
   ⟨p,dp,_,(clsOf ad i,spMay j),hj,rfl,hp,nm,_,_,h1,ns,fl,w,h,sg,o,rfl,F0,g,ho.1,ho.2,_,_,rfl,by rw [ej];exact q⟩
  unfold costOf at hq
  walk_at "RD"
  refine may cell _ c01 ⟨_,rfl,?_⟩
  by_cases e1:stands i (at_ sg cell)=true
  ·rw [if_pos e1]
   refine may other _ o01 ⟨_,rfl,?_⟩
   by_cases e2:stands i (at_ sg other)=true
   ·rw [if_pos e2]
    simp only [e1,e2,Bool.and_self,if_true] at hq
    refine⟨p,dp,_,(clsOf ad i,spFare ad.C_Floor k),hk,rfl,hp,nf,.ref p,fl,w,h,sg,cell,other,rfl,F0,g,c01,o01,?_⟩
    rw [ek]
    exact hq
   ·rw [if_neg e2]
    rw [Bool.not_eq_true] at e2
    rw [e2,Bool.and_false,if_neg (by decide)] at hq
    exact hq _ (Same.refl _)
  ·rw [if_neg e1]
   rw [Bool.not_eq_true] at e1
   rw [e1,Bool.false_and,if_neg (by decide)] at hq
   exact hq _ (Same.refl _)
theorem sc_q8:FnScope ["self","floor","cell","pairs"] ["self","floor","cell"] (defScope s_q8):=⟨rfl,rfl,rfl,by decide +kernel,rfl,by decide +kernel,by decide +kernel⟩
set_option maxHeartbeats 4000000 in
theorem ok_q8 {fd:FuncData}(F:Fun K "steps" "Carrier.steps" s_q8 ad.q8 fd) (T:Txt K mg ad){fd_q10:FuncData}(B_q10:Binds K fd_q10 ["self","cell"] []) (G_q10:FnOk P w K mg base CX0 4 ad.q10 fd_q10 ["self","cell"] (z459 ad.C_Floor)){fd_q0:FuncData}(B_q0:Binds K fd_q0 ["self","floor","cell","other"] []) (G_q0:FnOk P w K mg base CX0 3 ad.q0 fd_q0 ["self","floor","cell","other"] (z388 ad)):FnOk P w K mg base CX0 5 ad.q8 fd ["self","floor","cell"] (z361 ad):=by
 refine F.ok sc_q8 (fun vs H Q E h=>?_) (fun cdv A outer s H vs Q E HR h=>?_)
 ·obtain⟨p,fl,i,n,w,h,sg,cell,rfl,_⟩:=h
  rfl
 ·obtain⟨p,fl,i,n,w,h,sg,cell,rfl,hc,hi,F0,g,c01,hq⟩:=h
  have ND:=sc_q8.nd
  have HU0:=HR.units0
  have HU:=HR.units
  have hA:=HR.hd
  have hz:(100000:Nat)≤sizeLine:=by rw [sizeLine_eq];decide
  refine⟨_,(pss_cons (z373 (i:=3) (z8.of (osc:=defScope s_q8) (tn:=["other"]) (cn:=["floor","cell","self"]) (caps:=[1,2,0]) rfl rfl (by decide +kernel) (by decide +kernel) (by decide +kernel) (by decide +kernel) rfl) (calm0 rfl) ND rfl z426 (pi_list (pe_meth (pe_var (i:=1) (x:="floor") rfl (vis_of z647) z53 z52) T.cl_Floor T.m_q10 G_q10 (HR.mono (by decide)) B_q10 .nil pass0 (pa_cons (pe_var (i:=2) (x:="cell") rfl (vis_of z732) d_cell e_cell) pa_nil (stp rfl)) (hst:=stp rfl) (hpl:=anp rfl)))
 (fun _ _ _ _ _=>(pg_name (i:=0) (show (["other","floor","cell","self"]:List Str).Nodup by decide +kernel) rfl (Or.inl rfl))) (fun _ _ _ _ _=>z450) (fun _ _ _ _ _=>(pe_tup (pa_cons (pv 0) (pa_cons (z132 (k:=3) (pv 3) (z5 T.cl_Cart T.m_Cart_fare_if_standing G_q0 (by decide) B_q0 (z5 T.cl_Crawler T.m_q15_if_standing G_q0 (by decide) B_q0 (z5 T.cl_Runner T.m_q19_if_standing G_q0 (by decide) B_q0 (z5 T.cl_Carrier T.m_q0 G_q0 (by decide) B_q0 z111)))) (HR.mono (by decide)) (pa_cons (pv 1) (pa_cons (pv 2) (pa_cons (pv 0) pa_nil (stp rfl)) (stp rfl)) (stp rfl)) (hst:=stp rfl) (hpl:=anp rfl)) pa_nil (stp rfl)) (stp rfl)))) (hsw:=by rfl))
 (pss_one (ps_ret (z89 (z8.of (osc:=defScope s_q8) (tn:=["pair"]) (cn:=[]) (caps:=[]) rfl rfl (by decide +kernel) (by decide +kernel) (by decide +kernel) (by decide +kernel) rfl) (calm0 rfl)  (pi_list (pe_var (i:=3) (x:="pairs") rfl (vis_of z605) z806 z815))
 (fun _ _ _ _ _=>(pg_name (i:=0) (show (["pair"]:List Str).Nodup by decide +kernel) rfl (Or.inl rfl))) (fun _ _ _ _ _=>(z77 (pt_cmpR op_notN (pe_ix (z818 (K:=K) rfl) (pv 0) pe_int (fun _ _=>rfl)) pe_non (nomark _)))) (fun _ _ _ _ _=>(pv 0)))))),?_⟩
  obtain⟨dx,l,h1,h2⟩:=id F0.ob
  obtain⟨dp,hp⟩:=id hc
  have nb:(flds w h l sg).lookup ("beside":Str)=none:=nofl (by decide +kernel) (by decide +kernel) (by decide +kernel) (by decide +kernel)
  have nf:(putF "full" (V.int n) []).lookup ("fare_if_standing":Str)=none:=l_no n (by decide +kernel)
  have bl:=z278 (w:=w) (sg:=sg) (c:=cell)
  walk_at "RD"
  refine⟨_,_,h1,nb,fl,w,h,sg,cell,rfl,F0,g,fun r H1 hr s1 h3=>⟨r,rfl,⟨_,SqL.of h3⟩,z740 (K:=K) (a:=r) (xs:=(z24 w sg cell).map V.int) (fun j ys H'=>Same H1 H'∧∃ ts:List Addr,ys=ts.map V.ref∧Paired (PO (costOf i w sg cell) H') ts ((z24 w sg cell).take j)) ⟨Same.refl _,[],rfl,.nil⟩ ?_ ?_ ?_⟩⟩
  ·rintro j ys H' _ ⟨s2,_⟩
   exact SqL.of (s2 _ _ h3)
  ·rintro j x ys H' hx ⟨s2,ts,rfl,pr⟩
   rw [List.getElem?_map] at hx
   obtain⟨o,ho,rfl⟩:=Option.map_eq_some_iff.mp hx
   have hm:o∈z24 w sg cell:=List.mem_of_getElem? ho
   have lt:ts.length≤4:=by
    have:=Paired.length pr
    rw [List.length_take] at this
    omega
   walk_at "RD"
   refine⟨p,dp,_,(clsOf ad i,z388 ad),e_al4 i hi,rfl,s2 _ _ (s1 _ _ hp),nf,p,fl,i,n,w,h,sg,cell,o,rfl,⟨dp,s2 _ _ (s1 _ _ hp)⟩,hi,F0.same (s1.trans s2),g,c01,z499 g hm,fun H3 s3=>⟨by omega,fun t ht=>⟨by simp;omega,(s2.trans s3).trans (zz0 ht),ts++[t],by simp,?_⟩⟩⟩
   rw [List.take_add_one,ho]
   exact Paired.snoc (Paired.mapP pr fun _ _ z=>(zz0 ht) _ _ (s3 _ _ z)) upd_same
  ·rintro ys H' ⟨s2,ts,rfl,pr⟩
   rw [List.length_map,List.take_length] at pr
   have lt:ts.length≤4:=by
    have:=Paired.length pr
    omega
   refine⟨by simp;omega,fun q hq'=>⟨⟨_,SqL.of upd_same⟩,z33 (src_list (SqL.of upd_same)) (pvv (upd H' q (HO.lst (ts.map V.ref)))) (fun v=>v) (fun y hy Q h=>?_) (fun y hy _ Q h=>?_) (by simp;omega) (fun D hD=>?_)⟩⟩
   ·obtain⟨t,ht,rfl⟩:=List.mem_map.mp hy
    obtain⟨o,e⟩:=z427 pr ht
    have e:upd H' q (HO.lst (ts.map V.ref)) t=some (.tup [.int o,optV (costOf i w sg cell o)]):=(zz0 hq') _ _ e
    walk_at "RD"
    refine⟨_,SqT.of e,_,rfl,?_⟩
    simp only [pvv,e] at h
    exact h
   ·walk_at "RD"
    exact h
   ·obtain⟨us,e1,e2⟩:=z452 (Paired.mapP pr fun _ _ z=>(zz0 (o:=HO.lst (ts.map V.ref)) hq') _ _ z)
    rw [List.map_id',e1]
    exact hq D _ ((s1.trans s2).free ((zz0 hq').free hD)) ((s1.trans s2).trans ((zz0 hq').trans (zz0 hD))) ⟨us,upd_same,Paired.mapP e2 fun _ _ z=>(zz0 hD) _ _ z⟩
theorem sc_q25:FnScope ["kind","full"] ["kind","full"] (defScope s_q25):=⟨rfl,rfl,rfl,by decide +kernel,rfl,by decide +kernel,by decide +kernel⟩
set_option maxHeartbeats 4000000 in
theorem ok_q25 {fd:FuncData}{its:Array Value}(F:FunD K "carrier_of" "carrier_of" s_q25 ad.q25 fd its) (T:Txt K mg ad){fd_q39:FuncData}(B_q39:Binds K fd_q39 ["thing","least","most"] []) (G_q39:FnOk P w K mg base CX0 2 ad.q39 fd_q39 ["thing","least","most"] (z420 K)){fd_q11:FuncData}(B_q11:Binds K fd_q11 ["self","full"] []) (G_q11:FnOk P w K mg base CX0 1 ad.q11 fd_q11 ["self","full"] (z500 ad)):FnOk P w K mg base CX0 3 ad.q25 fd ["kind","full"] (spMake ad):=by
 refine F.ok sc_q25 (fun vs H Q E h=>?_) (fun cdv A outer s H vs Q E HR h=>?_)
 ·obtain⟨i,x,n,rfl,_⟩:=h
  rfl
 ·obtain⟨i,x,n,rfl,i3,hi,n0,n1,hq⟩:=h
  have ND:=sc_q25.nd
  have HU0:=HR.units0
  have HU:=HR.units
  have hA:=HR.hd
  have hz:(100000:Nat)≤sizeLine:=by rw [sizeLine_eq];decide
  obtain⟨u_KINDS,c_KINDS,r_KINDS⟩:=T.c_KINDS
  obtain⟨u_MOST_FULL,c_MOST_FULL,r_MOST_FULL⟩:=T.c_MOST_FULL
  refine⟨_,(pss_cons (ps_if (PW.pt (pw_or (pt_not (pt_val (pe_callB z36 (gl_of z273) T.b_isinstance PyProof.Rows.Boot.«isinstance» (pa_cons (pe_var (i:=0) (x:="kind") rfl (vis_of z200) d_kind e_kind) (pa_cons (pe_bltn (v:=.ty "str") (gl_of z737) T.b_str PyProof.Rows.Boot.«str» rfl (hn:=n_str) (hd:=d_str)) pa_nil (stp rfl)) (stp rfl)) (hn:=z23) (hdb:=z22) (he:=stp rfl) (hpl:=anp rfl)))) (pw_or1 (pt_cmpR op_notIn_seq (pe_var (i:=0) (x:="kind") rfl (vis_of z200) d_kind e_kind) (pe_glob (v:=.ref ad.K_KINDS) (gl_of z533) c_KINDS r_KINDS (hd:=z805)) (by with_unfolding_all rfl)))))
 pss_never
 pss_nil)
 (pss_cons (ps_if (pt_not (pt_val (pe_call G_q39 (HR.mono (by decide)) (gl_of z713) T.mg_q39 T.k_q39 B_q39 .nil pass0 (pa_cons (pe_var (i:=1) (x:="full") rfl (vis_of z212) d_full e_full) (pa_cons pe_int (pa_cons (pe_glob (v:=V.int 60) (gl_of z330) c_MOST_FULL r_MOST_FULL (hd:=z551)) pa_nil (stp rfl)) (stp rfl)) (stp rfl)) (hdb:=d_q39) (he:=stp rfl) (hpl:=anp rfl))))
 pss_never
 pss_nil)
 (pss_cons (ps_if (pt_cmpR op_eq (pe_var (i:=0) (x:="kind") rfl (vis_of z200) d_kind e_kind) pe_str (nomark _))
 (pss_one (ps_ret (pe_make T.mk_Cart G_q11 (HR.mono (by decide)) (gl_of z582) T.mg_Cart B_q11 .nil pass0 (pa_cons (pe_var (i:=1) (x:="full") rfl (vis_of z212) d_full e_full) pa_nil (stp rfl)) (hdb:=d_Cart) (he:=stp rfl) (hpl:=anp rfl))))
 pss_nil)
 (pss_cons (ps_if (pt_cmpR op_eq (pe_var (i:=0) (x:="kind") rfl (vis_of z200) d_kind e_kind) pe_str (nomark _))
 (pss_one (ps_ret (pe_make T.mk_Crawler G_q11 (HR.mono (by decide)) (gl_of z455) T.mg_Crawler B_q11 .nil pass0 (pa_cons (pe_var (i:=1) (x:="full") rfl (vis_of z212) d_full e_full) pa_nil (stp rfl)) (hdb:=z708) (he:=stp rfl) (hpl:=anp rfl))))
 pss_nil)
 (pss_one (ps_ret (pe_make T.mk_Runner G_q11 (HR.mono (by decide)) (gl_of z461) T.mg_Runner B_q11 .nil pass0 (pa_cons (pe_var (i:=1) (x:="full") rfl (vis_of z212) d_full e_full) pa_nil (stp rfl)) (hdb:=z774) (he:=stp rfl) (hpl:=anp rfl)))))))),?_⟩
  walk_at "RD"
  have hx:x∈kinds3:=by
   match i,hi,i3 with
   | 0,hi,_=>cases hi;decide +kernel
   | 1,hi,_=>cases hi;decide +kernel
   | 2,hi,_=>cases hi;decide +kernel
   | (i + 3),hi,i3=>omega
  refine⟨_,.str x,_,rfl,?_⟩
  rw [if_neg (by decide)]
  refine⟨_,.inr (T.kt_KINDS H),rfl,rfl,?_⟩
  rw [z775,decide_eq_true hx,if_neg (by decide)]
  refine⟨.int n,1,60,rfl,⟨_,.int n⟩,true,by simp [amg,n0,n1],?_⟩
  rw [if_neg (by decide)]
  have mk:∀ (p dx:Addr),H p=none→H dx=none→dx≠p→z500 ad [V.ref p,V.int n] (upd (upd H dx (HO.own p)) p (HO.ins (clsOf ad i) dx [])) (fun v H2=>v=V.non∧Q (V.ref p) H2) E0:=fun p dx np nd nn=>
   ⟨p,dx,n,i,rfl,upd_same,rfl,hq p _ (fun b o e=>by rw [upd_ne (ne_of_none e np),upd_ne (ne_of_none e np),upd_ne (ne_of_none e nd)];exact e) np ⟨dx,upd_same⟩⟩
  match i,hi,i3,mk with
  | 0,hi,_,mk=>cases hi;rw [if_pos rfl];exact mk
  | 1,hi,_,mk=>cases hi;rw [if_neg (by decide +kernel),if_pos rfl];exact mk
  | 2,hi,_,mk=>cases hi;rw [if_neg (by decide +kernel),if_neg (by decide +kernel)];exact mk
  | (i + 3),hi,i3,mk=>omega
theorem sc_Lat:FnScope ["_law_script","_law_k","_law_cell"] ["_law_script","_law_k"] (defScope s_Lat):=⟨rfl,rfl,rfl,by decide +kernel,rfl,by decide +kernel,by decide +kernel⟩
set_option maxHeartbeats 4000000 in
theorem ok_Lat {fd:FuncData}(F:Fun K "_law_at" "_law_at" s_Lat ad.Lat fd) (T:Txt K mg ad):FnOk P w K mg base CX0 1 ad.Lat fd ["_law_script","_law_k"] (spAt K):=by
 refine F.ok sc_Lat (fun vs H Q E h=>?_) (fun cdv A outer s H vs Q E HR h=>?_)
 ·obtain⟨a,ns,k,rfl,_⟩:=h
  rfl
 ·obtain⟨a,ns,k,rfl,hS,hl,h0,h1,hq⟩:=h
  have ND:=sc_Lat.nd
  have HU0:=HR.units0
  have HU:=HR.units
  have hA:=HR.hd
  have hz:(100000:Nat)≤sizeLine:=by rw [sizeLine_eq];decide
  refine⟨_,(pss_cons (ps_set (i:=2) ND rfl (loc_of (Or.inl z96)) pe_int)
 (pss_cons (ps_if (pt_cmpR op_lt (pe_var (i:=1) (x:="_law_k") rfl (vis_of z80) z79 z78) (pe_callB call_len_seq (gl_of z731) T.b_len PyProof.Rows.Boot.«len» (pa_cons (pe_var (i:=0) (x:="_law_script") rfl (vis_of z115) z21 z20) pa_nil (stp rfl)) (hn:=n_len) (hdb:=d_len) (he:=stp rfl) (hpl:=anp rfl)) (nomark _))
 (pss_one (ps_set (i:=2) ND rfl (loc_of (Or.inl z96)) (pe_ix ix_list (pe_var (i:=0) (x:="_law_script") rfl (vis_of z115) z21 z20) (pe_var (i:=1) (x:="_law_k") rfl (vis_of z80) z79 z78) (fun _ _=>rfl))))
 pss_nil)
 (pss_one (ps_ret (pe_op op_mod (pe_op op_mul (pe_op op_add (pe_op op_add (pe_op op_mod (pe_var (i:=2) (x:="_law_cell") rfl (vis_of z337) z6 z7) pe_int) (pe_op op_mul (pe_op op_mul pe_int (pe_var (i:=1) (x:="_law_k") rfl (vis_of z80) z79 z78)) (pe_var (i:=1) (x:="_law_k") rfl (vis_of z80) z79 z78))) pe_int) (pe_op op_add pe_int (pe_op op_mul pe_int (pe_var (i:=1) (x:="_law_k") rfl (vis_of z80) z79 z78)))) pe_int))))),?_⟩
  walk_at "RD"
  have fin:∀ i:Int,0 < (1000000007:Int)∧CMul 7919 k∧CMul (7919 * k) k∧CMul 2 k∧CMul (i % 1000000007 + 7919 * k * k + 31) (48271 + 2 * k)∧0 < (2147483647:Int)∧Q (V.int ((i % 1000000007 + 7919 * k * k + 31) * (48271 + 2 * k) % 2147483647)) H:=fun i=>
   ⟨by decide,(by first | (left;constructor <;> omega) | (right;constructor <;> omega)),(by first | (left;constructor <;> omega) | (right;constructor <;> omega)),(by first | (left;constructor <;> omega) | (right;constructor <;> omega)),(by first | (left;constructor <;> omega) | (right;constructor <;> omega)),by decide,hq _ (Int.emod_nonneg _ (by decide)) (Int.emod_lt_of_pos _ (by decide))⟩
  refine⟨ns.map V.int,.inl hS,?_⟩
  split
  ·rename_i hk
   have hk':k.toNat < ns.length:=by simp at hk;omega
   obtain⟨j,rfl⟩:=Int.eq_ofNat_of_zero_le h0
   have hj:j < ns.length:=by simpa using hk'
   exact⟨_,hS,.int ns[j],atI_nat (by simp [hj]),_,rfl,fin _⟩
  ·exact fin 0
theorem sc_q44:FnScope ["_law_cell","_law_k"] ["_law_cell","_law_k"] (defScope s_q44):=⟨rfl,rfl,rfl,by decide +kernel,rfl,by decide +kernel,by decide +kernel⟩
set_option maxHeartbeats 4000000 in
theorem ok_q44 {fd:FuncData}(F:Fun K "_law_mixed" "_law_mixed" s_q44 ad.q44 fd) (T:Txt K mg ad):FnOk P w K mg base CX0 1 ad.q44 fd ["_law_cell","_law_k"] (z591):=by
 refine F.ok sc_q44 (fun vs H Q E h=>?_) (fun cdv A outer s H vs Q E HR h=>?_)
 ·obtain⟨c,k,rfl,_⟩:=h
  rfl
 ·obtain⟨c,k,rfl,c0,c1,k0,k1,hq⟩:=h
  have ND:=sc_q44.nd
  have HU0:=HR.units0
  have HU:=HR.units
  have hA:=HR.hd
  have hz:(100000:Nat)≤sizeLine:=by rw [sizeLine_eq];decide
  refine⟨_,(pss_one (ps_ret (pe_op op_mod (pe_op op_mul (pe_op op_add (pe_op op_add (pe_op op_fdiv (pe_var (i:=0) (x:="_law_cell") rfl (vis_of z339) z6 z7) pe_int) (pe_op op_mul (pe_op op_mul pe_int (pe_var (i:=1) (x:="_law_k") rfl (vis_of z198) z79 z78)) (pe_var (i:=1) (x:="_law_k") rfl (vis_of z198) z79 z78))) pe_int) (pe_op op_add pe_int (pe_op op_mul pe_int (pe_var (i:=1) (x:="_law_k") rfl (vis_of z198) z79 z78)))) pe_int))),?_⟩
  walk_at "RD"
  exact⟨⟨by decide,by decide⟩,.inl ⟨by decide,by decide⟩,.inr ⟨by omega,by omega⟩,.inl ⟨by decide,by decide⟩,.inr ⟨by omega,by omega⟩,by decide,hq _ (Int.emod_nonneg _ (by decide)) (Int.emod_lt_of_pos _ (by decide))⟩
theorem sc_q45:FnScope ["_law_thing"] ["_law_thing"] (defScope s_q45):=⟨rfl,rfl,rfl,by decide +kernel,rfl,by decide +kernel,by decide +kernel⟩
set_option maxHeartbeats 4000000 in
theorem ok_q45 {fd:FuncData}(F:Fun K "_law_whole" "_law_whole" s_q45 ad.q45 fd) (T:Txt K mg ad):FnOk P w K mg base CX0 1 ad.q45 fd ["_law_thing"] (z367 K):=by
 refine F.ok sc_q45 (fun vs H Q E h=>?_) (fun cdv A outer s H vs Q E HR h=>?_)
 ·obtain⟨x,rfl,_⟩:=h
  rfl
 ·obtain⟨x,rfl,ty,hq⟩:=h
  have ND:=sc_q45.nd
  have HU0:=HR.units0
  have HU:=HR.units
  have hA:=HR.hd
  have hz:(100000:Nat)≤sizeLine:=by rw [sizeLine_eq];decide
  refine⟨_,(pss_one (ps_ret (pe_and (pe_callB z36 (gl_of z153) T.b_isinstance PyProof.Rows.Boot.«isinstance» (pa_cons (pe_var (i:=0) (x:="_law_thing") rfl (vis_of z140) z295 z296) (pa_cons (pe_bltn (v:=.ty "int") (gl_of z720) T.b_int PyProof.Rows.Boot.«int» rfl (hn:=n_int) (hd:=d_int)) pa_nil (stp rfl)) (stp rfl)) (hn:=z23) (hdb:=z22) (he:=stp rfl) (hpl:=anp rfl)) (pe_one (pe_not (pe_callB z36 (gl_of z153) T.b_isinstance PyProof.Rows.Boot.«isinstance» (pa_cons (pe_var (i:=0) (x:="_law_thing") rfl (vis_of z140) z295 z296) (pa_cons (pe_bltn (v:=.ty "bool") (gl_of z661) T.b_bool PyProof.Rows.Boot.«bool» rfl (hn:=n_bool) (hd:=d_bool)) pa_nil (stp rfl)) (stp rfl)) (hn:=z23) (hdb:=z22) (he:=stp rfl) (hpl:=anp rfl))))))),?_⟩
  obtain⟨n,ty⟩:=ty
  have e1:=z747 ty
  have e2:=z601 ty
  walk_at "RD"
  refine⟨_,ty,_,e1,?_⟩
  cases hb:isIB x with
  | true=>
   rw [if_pos rfl]
   refine⟨_,ty,_,e2,?_⟩
   cases x <;> simp_all [isI,isB,isIB]
  | false=>
   rw [if_neg (by decide)]
   cases x <;> simp_all [isI,isB,isIB]
theorem sc_q46:FnScope ["_law_script","_law_k","_law_most","_law_first","_law_wide","_law_high","_law_signs","_law_text","_law_j"] ["_law_script","_law_k","_law_most"] (defScope s_q46):=⟨rfl,rfl,rfl,by decide +kernel,rfl,by decide +kernel,by decide +kernel⟩
set_option maxHeartbeats 4000000 in
theorem ok_q46 {fd:FuncData}(F:Fun K "_law_lines" "_law_lines" s_q46 ad.q46 fd) (T:Txt K mg ad){fd_Lat:FuncData}(B_Lat:Binds K fd_Lat ["_law_script","_law_k"] []) (G_Lat:FnOk P w K mg base CX0 1 ad.Lat fd_Lat ["_law_script","_law_k"] (spAt K)){fd_q44:FuncData}(B_q44:Binds K fd_q44 ["_law_cell","_law_k"] []) (G_q44:FnOk P w K mg base CX0 1 ad.q44 fd_q44 ["_law_cell","_law_k"] (z591)):FnOk P w K mg base CX0 2 ad.q46 fd ["_law_script","_law_k","_law_most"] (z625 K):=by
 refine F.ok sc_q46 (fun vs H Q E h=>?_) (fun cdv A outer s H vs Q E HR h=>?_)
 ·obtain⟨a,ns,k,m,rfl,_⟩:=h
  rfl
 ·obtain⟨a,ns,k,m,rfl,hS,hl,k0,k1,m0,m1,hq⟩:=h
  have ND:=sc_q46.nd
  have HU0:=HR.units0
  have HU:=HR.units
  have hA:=HR.hd
  have hz:(100000:Nat)≤sizeLine:=by rw [sizeLine_eq];decide
  refine⟨_,(pss_cons (ps_set (i:=3) ND rfl (loc_of (Or.inl z148)) (pe_call G_Lat (HR.mono (by decide)) (gl_of z242) T.mg_Lat T.k_Lat B_Lat .nil pass0 (pa_cons (pe_var (i:=0) (x:="_law_script") rfl (vis_of z119) z21 z20) (pa_cons (pe_var (i:=1) (x:="_law_k") rfl (vis_of z308) z79 z78) pa_nil (stp rfl)) (stp rfl)) (hdb:=z161) (he:=stp rfl) (hpl:=anp rfl)))
 (pss_cons (ps_set (i:=4) ND rfl (loc_of (Or.inr z193)) (pe_op op_add pe_int (pe_op op_mod (pe_op op_fdiv (pe_var (i:=3) (x:="_law_first") rfl (vis_of z82) z199 z195) pe_int) (pe_var (i:=2) (x:="_law_most") rfl (vis_of z182) z372 z343))))
 (pss_cons (ps_set (i:=5) ND rfl (loc_of (Or.inl z173)) (pe_op op_add pe_int (pe_op op_mod (pe_op op_fdiv (pe_var (i:=3) (x:="_law_first") rfl (vis_of z82) z199 z195) pe_int) (pe_var (i:=2) (x:="_law_most") rfl (vis_of z182) z372 z343))))
 (pss_cons (ps_set (i:=6) ND rfl (loc_of (Or.inl z136)) (pe_ix ix_list (pe_lst (pa_cons pe_str (pa_cons pe_str (pa_cons pe_str (pa_cons pe_str (pa_cons pe_str pa_nil (stp rfl)) (stp rfl)) (stp rfl)) (stp rfl)) (stp rfl))) (pe_op op_mod (pe_op op_fdiv (pe_var (i:=3) (x:="_law_first") rfl (vis_of z82) z199 z195) pe_int) pe_int) (fun _ _=>rfl)))
 (pss_cons (ps_set (i:=7) ND rfl (loc_of (Or.inr z66)) pe_str)
 (pss_cons (ps_for PassesOwn.never (calm0 rfl) (pi_range1 (gl_of z362) T.b_range (pa_cons (pe_op op_mul (pe_var (i:=4) (x:="_law_wide") rfl (vis_of z314) z100 z106) (pe_var (i:=5) (x:="_law_high") rfl (vis_of z185) z365 z375)) pa_nil (stp rfl)) (st1 rfl)) (pg_name (i:=8) ND rfl (loc_of (Or.inl z304)))
 (pss_one (ps_set (i:=7) ND rfl (loc_of (Or.inr z66)) (pe_op op_add_str (pe_var (i:=7) (x:="_law_text") rfl (vis_of z63) z157 z160) (pe_ix ix_str (pe_var (i:=6) (x:="_law_signs") rfl (vis_of z149) z290 z276) (pe_op op_mod (pe_op op_fdiv (pe_call G_q44 (HR.mono (by decide)) (gl_of z294) T.mg_q44 T.k_q44 B_q44 .nil pass0 (pa_cons (pe_call G_Lat (HR.mono (by decide)) (gl_of z242) T.mg_Lat T.k_Lat B_Lat .nil pass0 (pa_cons (pe_var (i:=0) (x:="_law_script") rfl (vis_of z119) z21 z20) (pa_cons (pe_op op_add (pe_op op_add (pe_var (i:=1) (x:="_law_k") rfl (vis_of z308) z79 z78) pe_int) (pe_op op_mod (pe_var (i:=8) (x:="_law_j") rfl (vis_of z291) z677 z584) pe_int)) pa_nil (stp rfl)) (stp rfl)) (hdb:=z161) (he:=stp rfl) (hpl:=anp rfl)) (pa_cons (pe_var (i:=8) (x:="_law_j") rfl (vis_of z291) z677 z584) pa_nil (stp rfl)) (stp rfl)) (hdb:=z472) (he:=stp rfl) (hpl:=anp rfl)) pe_int) (pe_callB call_len_str (gl_of z506) T.b_len PyProof.Rows.Boot.«len» (pa_cons (pe_var (i:=6) (x:="_law_signs") rfl (vis_of z149) z290 z276) pa_nil (stp rfl)) (hn:=n_len) (hdb:=d_len) (he:=stp rfl) (hpl:=anp rfl))) (fun _ _=>rfl))))))
 (pss_cons (ps_if (pt_cmpR op_eq (pe_var (i:=7) (x:="_law_text") rfl (vis_of z63) z157 z160) (pe_op z588 pe_str (pe_callB call_len_str (gl_of z506) T.b_len PyProof.Rows.Boot.«len» (pa_cons (pe_var (i:=7) (x:="_law_text") rfl (vis_of z63) z157 z160) pa_nil (stp rfl)) (hn:=n_len) (hdb:=d_len) (he:=stp rfl) (hpl:=anp rfl))) (nomark _))
 (pss_one (ps_set (i:=7) ND rfl (loc_of (Or.inr z66)) (pe_op op_add_str pe_str (z514 (pe_var (i:=7) (x:="_law_text") rfl (vis_of z63) z157 z160) (po_some pe_int) po_none))))
 pss_nil)
 (pss_one (ps_ret (z89 (z8.of (osc:=defScope s_q46) (tn:=["_law_j"]) (cn:=["_law_text","_law_wide"]) (caps:=[7,4]) rfl rfl (by decide +kernel) (by decide +kernel) (by decide +kernel) (by decide +kernel) rfl) (calm0 rfl)  (pi_range1 (gl_of z362) T.b_range (pa_cons (pe_var (i:=5) (x:="_law_high") rfl (vis_of z185) z365 z375) pa_nil (stp rfl)) (st1 rfl))
 (fun _ _ _ _ _=>(pg_name (i:=0) (show (["_law_j","_law_text","_law_wide"]:List Str).Nodup by decide +kernel) rfl (Or.inl rfl))) (fun _ _ _ _ _=>z450) (fun _ _ _ _ _=>(z514 (pv 1) (po_some (pe_op op_mul (pv 2) (pv 0))) (po_some (pe_op op_add (pe_op op_mul (pv 2) (pv 0)) (pv 2))))))))))))))),?_⟩
  have tab:∀ i:Int,∃ z:Str,atI [V.str (Str.ofString ".....+#~|."),V.str (Str.ofString "..+#~|..#."),V.str (Str.ofString "+~|~.|~+.."),V.str (Str.ofString ".#.#.+.|.~"),V.str (Str.ofString "|+.#")] (i / 847 % 5)=some (V.str z)∧1≤z.length∧z.length≤10∧(∀ c∈z.cps.toList,sgOk c):=fun i=>by
   have h5:i / 847 % 5=0∨i / 847 % 5=1∨i / 847 % 5=2∨i / 847 % 5=3∨i / 847 % 5=4:=by omega
   unfold sgOk
   rcases h5 with h | h | h | h | h <;> rw [h] <;> exact⟨_,rfl,by decide +kernel,by decide +kernel,by decide +kernel⟩
  refine y3 (fun σ H'=>∃ c:Int,0≤c∧H'=H∧σ=[some (V.ref a),some (V.int k),some (V.int m),some (V.int c),none,none,none,none,none]) (fun nx hk=>?_) ?_
  ·walk_at "RD"
   exact⟨_,_,_,rfl,hS,hl,k0,by omega,fun r r0 r1=>hk _ _ ⟨r,r0,rfl,rfl⟩⟩
  rintro σ H1 ⟨c,c0,rfl,rfl⟩
  refine y3 (fun σ H'=>∃ w:Nat,1≤w∧(w≤10∧(w:Int)≤m)∧H'=H1∧σ=[some (V.ref a),some (V.int k),some (V.int m),some (V.int c),some (V.int (w:Int)),none,none,none,none]) (fun nx hk=>?_) ?_
  ·walk_at "RD"
   have e1:=Int.emod_nonneg (c / 7) (show m≠0 by omega)
   have e2:=Int.emod_lt_of_pos (c / 7) (show 0 < m by omega)
   exact⟨⟨by decide,by decide⟩,by omega,hk _ _ ⟨(1 + c / 7 % m).toNat,by omega,⟨by omega,by omega⟩,rfl,by rw [Int.toNat_of_nonneg (by omega)]⟩⟩
  rintro σ H2 ⟨w,w0,⟨w1,wm⟩,rfl,rfl⟩
  refine y3 (fun σ H'=>∃ h:Nat,1≤h∧(h≤10∧(h:Int)≤m)∧H'=H2∧σ=[some (V.ref a),some (V.int k),some (V.int m),some (V.int c),some (V.int (w:Int)),some (V.int (h:Int)),none,none,none]) (fun nx hk=>?_) ?_
  ·walk_at "RD"
   have e1:=Int.emod_nonneg (c / 77) (show m≠0 by omega)
   have e2:=Int.emod_lt_of_pos (c / 77) (show 0 < m by omega)
   exact⟨⟨by decide,by decide⟩,by omega,hk _ _ ⟨(1 + c / 77 % m).toNat,by omega,⟨by omega,by omega⟩,rfl,by rw [Int.toNat_of_nonneg (by omega)]⟩⟩
  rintro σ H3 ⟨h,h0,⟨h1,hm⟩,rfl,rfl⟩
  refine y3 (fun σ H'=>∃ z:Str,1≤z.length∧z.length≤10∧(∀ c∈z.cps.toList,sgOk c)∧Same H3 H'∧σ=[some (V.ref a),some (V.int k),some (V.int m),some (V.int c),some (V.int (w:Int)),some (V.int (h:Int)),some (V.str z),none,none]) (fun nx hk=>?_) ?_
  ·walk_at "RD"
   obtain⟨z,hz1,hz2,hz3,hz4⟩:=tab c
   exact⟨by omega,fun p np=>⟨⟨by decide,by decide⟩,by decide,_,SqL.of upd_same,_,hz1,hk _ _ ⟨z,hz2,hz3,hz4,zz0 np,rfl⟩⟩⟩
  rintro σ H4 ⟨z,z0,z1,zok,s4,rfl⟩
  have hS4:=s4.seq hS
  have hwh:w * h≤100:=Nat.mul_le_mul w1 h1
  have hwh1:1≤w * h:=Nat.mul_le_mul w0 h0
  have em:((w:Int) * (h:Int))=((w * h:Nat):Int):=by simp
  refine y3 (fun σ H'=>H'=H4∧σ=[some (V.ref a),some (V.int k),some (V.int m),some (V.int c),some (V.int (w:Int)),some (V.int (h:Int)),some (V.str z),some (V.str (txt [])),none]) (fun nx hk=>?_) ?_
  ·walk_at "RD"
   exact hk _ _ ⟨rfl,by rw [show Str.ofString ""=txt [] from z213 (by decide +kernel)]⟩
  rintro σ H5 ⟨rfl,rfl⟩
  refine y3 (fun σ H'=>∃ (cs:List Nat) (j:Option V),cs.length=w * h∧(∀ c∈cs,sgOk c)∧H'=H5∧σ=[some (V.ref a),some (V.int k),some (V.int m),some (V.int c),some (V.int (w:Int)),some (V.int (h:Int)),some (V.str z),some (V.str (txt cs)),j]) (fun nx hk=>?_) ?_
  ·walk_at "RD"
   refine⟨.inl ⟨by omega,by omega⟩,by rw [em];omega,by rw [em];omega,for_range (fun i σ H'=>∃ (cs:List Nat) (j:Option V),cs.length=i∧(∀ c∈cs,sgOk c)∧H'=H5∧σ=[some (V.ref a),some (V.int k),some (V.int m),some (V.int c),some (V.int (w:Int)),some (V.int (h:Int)),some (V.str z),some (V.str (txt cs)),j]) ⟨[],none,rfl,by simp,rfl,rfl⟩ ?_ ?_⟩
   ·rintro i σ H' hi ⟨cs,j,hcs,cok,rfl,rfl⟩
    have hi':i < w * h:=by rw [em] at hi;omega
    walk_at "RD"
    refine⟨by decide,_,_,_,rfl,hS4,hl,by omega,by omega,fun r r0 r1=>⟨_,_,rfl,r0,r1,by omega,by omega,fun q q0 q1=>⟨_,rfl,⟨by decide,by decide⟩,by omega,by omega,by omega,?_⟩⟩⟩
    have e1:=Int.emod_nonneg (q / 11) (show (z.length:Int)≠0 by omega)
    have e2:=Int.emod_lt_of_pos (q / 11) (show (0:Int) < z.length by omega)
    obtain⟨t,ht⟩:=Int.eq_ofNat_of_zero_le e1
    rw [ht] at e2 ⊢
    have ht2:t < z.cps.toList.length:=by rw [z109];omega
    refine⟨z.cps.toList[t],atI_nat (List.getElem?_eq_getElem ht2),?_,cs++[z.cps.toList[t]],by simp;omega,?_,rfl,?_,_,rfl⟩
    ·rw [z46]
     show cs.length + 1≤sizeLine
     omega
    ·intro c hc
     rcases List.mem_append.mp hc with y | y
     ·exact cok c y
     ·have:c=z.cps.toList[t]:=by simpa using y
      rw [this]
      exact zok _ (List.getElem_mem ht2)
    ·refine z213 ?_
     rw [z113,z71,z71]
   ·rintro σ H' ⟨cs,j,hcs,cok,rfl,rfl⟩
    exact hk _ _ ⟨cs,j,by rw [hcs,em,Int.toNat_natCast],cok,rfl,rfl⟩
  rintro σ H6 ⟨cs,j,hcs,cok,rfl,rfl⟩
  refine y3 (fun σ H'=>∃ (cs:List Nat),Good w h cs∧H'=H6∧σ=[some (V.ref a),some (V.int k),some (V.int m),some (V.int c),some (V.int (w:Int)),some (V.int (h:Int)),some (V.str z),some (V.str (txt cs)),j]) (fun nx hk=>?_) ?_
  ·walk_at "RD"
   have eq7:(Txt.mul (Str.ofString "#") (((txt cs).length:Nat):Int)).cps.toList=List.replicate cs.length 35:=by
    rw [mul_list,z46]
    have e:(Str.ofString "#").cps.toList=[35]:=by decide +kernel
    rw [e]
    generalize cs.length=n
    induction n with
    | zero=>rfl
    | succ n ih=>rw [List.replicate_succ,List.flatten_cons,ih,List.replicate_succ];rfl
   have l1:(Str.ofString "#").length=1:=by decide +kernel
   have lx:(txt cs).length=w * h:=by rw [z46,hcs]
   refine⟨by omega,mul_ok _ _ (by omega) (by rw [l1,Nat.one_mul];omega),?_⟩
   split
   ·have ld:(Str.ofString ".").length=1:=by decide +kernel
    have sl:=Txt.slice_le (txt cs) (some 1) none
    refine⟨by omega,by omega,hk _ _ ⟨46::cs.drop 1,⟨w0,w1,h0,h1,?_,?_,46,by simp,by decide⟩,rfl,?_⟩⟩
    ·rw [List.length_cons,List.length_drop];omega
    ·intro c hc
     rcases List.mem_cons.mp hc with y | y
     ·exact .inl y
     ·exact cok c (List.mem_of_mem_drop y)
    ·have:Str.ofString "."++Txt.slice (txt cs) (some 1) none=txt (46::cs.drop 1):=by
      refine z213 ?_
      rw [z113,z547,z71]
      have e:(Str.ofString ".").cps.toList=[46]:=by decide +kernel
      rw [e]
      rfl
     rw [this]
   ·rename_i hne
    refine hk _ _ ⟨cs,⟨w0,w1,h0,h1,hcs,cok,?_⟩,rfl,rfl⟩
    apply Classical.byContradiction
    intro hno
    refine hne (z213 ?_)
    rw [eq7,z71]
    refine List.eq_replicate_iff.mpr ⟨rfl,fun c hc=>?_⟩
    apply Classical.byContradiction
    intro h35
    exact hno ⟨c,hc,h35⟩
  rintro σ H7 ⟨sg,g,rfl,rfl⟩
  have l100:=len100 g
  walk_at "RD"
  refine⟨by omega,by omega,?_⟩
  rw [Int.toNat_natCast]
  refine z33 src_range (fun _=>true) (lineV w sg) (fun y hy Q hh=>hh) (fun y hy _ Q hh=>?_) (by rw [List.length_map,List.length_range];omega) ?_
  ·obtain⟨i,hi,rfl⟩:=List.mem_map.mp hy
   walk_at "RD"
   refine⟨.inl ⟨by omega,by omega⟩,.inl ⟨by omega,by omega⟩,by rw [z46];omega,hh⟩
  ·intro D hD
   have e:(((List.range h).map fun i=>V.int (0 + ((i:Nat):Int))).filter fun _=>true).map (lineV w sg)=(linesOf w h sg).map V.str:=by
    rw [List.filter_eq_self.mpr (fun _ _=>rfl),List.map_map,Fl.linesOf,List.map_map]
    refine List.map_congr_left fun i hi=>?_
    have hi':=List.mem_range.mp hi
    show V.str _=V.str _
    rw [← z607 g.len hi']
    congr 3
    ·simp
    ·simp
   rw [e]
   exact hq D _ w h sg (s4.free hD) (s4.trans (zz0 hD)) upd_same g wm hm
theorem z652:FnScope ["_law_lines_here","_law_cell"] ["_law_lines_here","_law_cell"] (defScope z139):=⟨rfl,rfl,rfl,by decide +kernel,rfl,by decide +kernel,by decide +kernel⟩
set_option maxHeartbeats 4000000 in
theorem z772 {fd:FuncData}(F:Fun K "_law_sign" "_law_sign" z139 ad.Lsign fd) (T:Txt K mg ad):FnOk P w K mg base CX0 1 ad.Lsign fd ["_law_lines_here","_law_cell"] (z443):=by
 refine F.ok z652 (fun vs H Q E h=>?_) (fun cdv A outer s H vs Q E HR h=>?_)
 ·obtain⟨l,w,h,sg,c,rfl,_⟩:=h
  rfl
 ·obtain⟨l,w,h,sg,c,rfl,hL,g,c0,c1,hq⟩:=h
  have ND:=z652.nd
  have HU0:=HR.units0
  have HU:=HR.units
  have hA:=HR.hd
  have hz:(100000:Nat)≤sizeLine:=by rw [sizeLine_eq];decide
  refine⟨_,(pss_one (ps_ret (pe_ix ix_str (pe_ix ix_list (pe_var (i:=0) (x:="_law_lines_here") rfl (vis_of z37) v2 zz1) (pe_op op_fdiv (pe_var (i:=1) (x:="_law_cell") rfl (vis_of z117) z6 z7) (pe_callB call_len_str (gl_of z348) T.b_len PyProof.Rows.Boot.«len» (pa_cons (pe_ix ix_list (pe_var (i:=0) (x:="_law_lines_here") rfl (vis_of z37) v2 zz1) pe_int (fun _ _=>rfl)) pa_nil (stp rfl)) (hn:=n_len) (hdb:=d_len) (he:=stp rfl) (hpl:=anp rfl))) (fun _ _=>rfl)) (pe_op op_mod (pe_var (i:=1) (x:="_law_cell") rfl (vis_of z117) z6 z7) (pe_callB call_len_str (gl_of z348) T.b_len PyProof.Rows.Boot.«len» (pa_cons (pe_ix ix_list (pe_var (i:=0) (x:="_law_lines_here") rfl (vis_of z37) v2 zz1) pe_int (fun _ _=>rfl)) pa_nil (stp rfl)) (hn:=n_len) (hdb:=d_len) (he:=stp rfl) (hpl:=anp rfl))) (fun _ _=>rfl)))),?_⟩
  have w0:=g.w0
  have w1:=g.w1
  have h0:=g.h0
  obtain⟨j1,d0,q0,q1,e⟩:=z615 g c0 c1
  have e0:atI ((linesOf w h sg).map V.str) 0=some (V.str (lineOf w sg 0)):=atI_nat (j:=0) (by rw [List.getElem?_map,z87 (by omega)];rfl)
  have eL:=z110 g (show 0 < h by omega)
  have eR:=z110 g j1
  have ec:atI ((linesOf w h sg).map V.str) (c / w)=some (V.str (lineOf w sg (c / w).toNat)):=by
   obtain⟨j,hj⟩:=Int.eq_ofNat_of_zero_le d0
   rw [hj] at j1 ⊢
   exact atI_nat (by rw [List.getElem?_map,z87 (by simpa using j1)];rfl)
  have er:atI (lineOf w sg (c / w).toNat).cps.toList (c % w)=some (at_ sg c):=by
   obtain⟨r,hr⟩:=Int.eq_ofNat_of_zero_le q0
   rw [hr] at e ⊢
   exact atI_nat (by simpa using e)
  walk_at "RD"
  refine⟨_,SqL.of hL,_,e0,_,rfl,by rw [eL];omega,?_⟩
  rw [eL]
  refine⟨⟨by omega,by omega⟩,_,SqL.of hL,_,ec,_,SqL.of hL,_,e0,_,rfl,by rw [eL];omega,?_⟩
  rw [eL]
  exact⟨by omega,_,rfl,by rw [eR];omega,_,er,hq⟩
theorem sc_q47:FnScope ["_law_lines_here"] ["_law_lines_here"] (defScope s_q47):=⟨rfl,rfl,rfl,by decide +kernel,rfl,by decide +kernel,by decide +kernel⟩
set_option maxHeartbeats 4000000 in
theorem ok_q47 {fd:FuncData}(F:Fun K "_law_cells" "_law_cells" s_q47 ad.q47 fd) (T:Txt K mg ad){fd_Lsign:FuncData}(B_Lsign:Binds K fd_Lsign ["_law_lines_here","_law_cell"] []) (G_Lsign:FnOk P w K mg base CX0 1 ad.Lsign fd_Lsign ["_law_lines_here","_law_cell"] (z443)):FnOk P w K mg base CX0 2 ad.q47 fd ["_law_lines_here"] (z381):=by
 refine F.ok sc_q47 (fun vs H Q E h=>?_) (fun cdv A outer s H vs Q E HR h=>?_)
 ·obtain⟨l,w,h,sg,rfl,_⟩:=h
  rfl
 ·obtain⟨l,w,h,sg,rfl,hL,g,hq⟩:=h
  have ND:=sc_q47.nd
  have HU0:=HR.units0
  have HU:=HR.units
  have hA:=HR.hd
  have hz:(100000:Nat)≤sizeLine:=by rw [sizeLine_eq];decide
  refine⟨_,(pss_one (ps_ret (z89 (z8.of (osc:=defScope s_q47) (tn:=["_law_cell"]) (cn:=["_law_lines_here"]) (caps:=[0]) rfl rfl (by decide +kernel) (by decide +kernel) (by decide +kernel) (by decide +kernel) rfl) (calm0 rfl)  (pi_range1 (gl_of z535) T.b_range (pa_cons (pe_op op_mul (pe_callB call_len_seq (gl_of z505) T.b_len PyProof.Rows.Boot.«len» (pa_cons (pe_var (i:=0) (x:="_law_lines_here") rfl (vis_of z76) v2 zz1) pa_nil (stp rfl)) (hn:=n_len) (hdb:=d_len) (he:=stp rfl) (hpl:=anp rfl)) (pe_callB call_len_str (gl_of z505) T.b_len PyProof.Rows.Boot.«len» (pa_cons (pe_ix ix_list (pe_var (i:=0) (x:="_law_lines_here") rfl (vis_of z76) v2 zz1) pe_int (fun _ _=>rfl)) pa_nil (stp rfl)) (hn:=n_len) (hdb:=d_len) (he:=stp rfl) (hpl:=anp rfl))) pa_nil (stp rfl)) (st1 rfl))
 (fun _ _ _ _ _=>(pg_name (i:=0) (show (["_law_cell","_law_lines_here"]:List Str).Nodup by decide +kernel) rfl (Or.inl rfl))) (fun _ _ _ _ _=>(z77 (pt_cmpR op_ne (pe_call G_Lsign (HR.mono (by decide)) (by rfl) T.mg_Lsign T.k_Lsign B_Lsign .nil pass0 (pa_cons (pv 1) (pa_cons (pv 0) pa_nil (stp rfl)) (stp rfl)) (hdb:=z59) (he:=stp rfl) (hpl:=anp rfl)) pe_str (nomark _)))) (fun _ _ _ _ _=>(pv 0))))),?_⟩
  have w0:=g.w0
  have w1:=g.w1
  have h0:=g.h0
  have h1:=g.h1
  have len:=g.len
  have l100:=len100 g
  have e0:atI ((linesOf w h sg).map V.str) 0=some (V.str (lineOf w sg 0)):=atI_nat (j:=0) (by rw [List.getElem?_map,z87 (by omega)];rfl)
  have eL:=z110 g (show 0 < h by omega)
  have em:((h:Int) * (w:Int))=((sg.length:Nat):Int):=by rw [len,Nat.mul_comm];simp
  walk_at "RD"
  refine⟨_,.inl (SqL.of hL),_,SqL.of hL,_,e0,_,rfl,by rw [eL];omega,?_⟩
  rw [eL,List.length_map,z262]
  refine⟨.inl ⟨by omega,by omega⟩,by rw [em];omega,by rw [em];omega,?_⟩
  rw [em,Int.toNat_natCast]
  refine z33 src_range (noWall sg) (fun v=>v) (fun y hy Q hh=>?_) (fun y hy _ Q hh=>?_) (by rw [List.length_map,List.length_range];omega) ?_
  ·obtain⟨i,hi,rfl⟩:=List.mem_map.mp hy
   have hi':=List.mem_range.mp hi
   walk_at "RD"
   refine⟨l,w,h,sg,_,rfl,hL,g,by omega,by omega,rfl,?_⟩
   have e:noWall sg (V.int (0 + ((i:Nat):Int)))=!decide (chr1 (at_ sg (0 + ((i:Nat):Int)))=V.str (Str.ofString "#")):=by
    show (!decide _)=_
    congr 1
    refine decide_eq_decide.mpr ⟨fun z=>?_,fun z=>?_⟩
    ·show V.str _=V.str _
     rw [(z489 _).mpr z]
    ·exact(z489 _).mp (V.str.inj z)
   rw [e] at hh
   exact hh
  ·walk_at "RD"
   exact hh
  ·intro D hD
   have e:((((List.range sg.length).map fun i=>V.int (0 + ((i:Nat):Int))).filter (noWall sg)).map fun v=>v)=(cellsOf sg).map V.int:=by
    rw [List.map_id',cellsOf,places]
    have:((List.range sg.length).map fun i=>V.int (0 + ((i:Nat):Int)))=((List.range sg.length).map fun i=>((i:Nat):Int)).map V.int:=by
     rw [List.map_map]
     refine List.map_congr_left fun i _=>?_
     simp
    rw [this,List.filter_map]
    rfl
   rw [e]
   exact hq D _ hD (zz0 hD) upd_same
theorem sc_q40:FnScope ["_law_lines_here","_law_cell","_law_wide","_law_found","_law_other","_law_down","_law_across"] ["_law_lines_here","_law_cell"] (defScope s_q40):=⟨rfl,rfl,rfl,by decide +kernel,rfl,by decide +kernel,by decide +kernel⟩
set_option maxHeartbeats 4000000 in
theorem ok_q40 {fd:FuncData}(F:Fun K "_law_beside" "_law_beside" s_q40 ad.q40 fd) (T:Txt K mg ad){fd_q47:FuncData}(B_q47:Binds K fd_q47 ["_law_lines_here"] []) (G_q47:FnOk P w K mg base CX0 2 ad.q47 fd_q47 ["_law_lines_here"] (z381)):FnOk P w K mg base CX0 3 ad.q40 fd ["_law_lines_here","_law_cell"] (z389):=by
 refine F.ok sc_q40 (fun vs H Q E h=>?_) (fun cdv A outer s H vs Q E HR h=>?_)
 ·obtain⟨l,w,h,sg,c,rfl,_⟩:=h
  rfl
 ·obtain⟨l,w,h,sg,c,rfl,hL,g,c0,c1,hq⟩:=h
  have ND:=sc_q40.nd
  have HU0:=HR.units0
  have HU:=HR.units
  have hA:=HR.hd
  have hz:(100000:Nat)≤sizeLine:=by rw [sizeLine_eq];decide
  refine⟨_,(pss_cons (ps_set (i:=2) ND rfl (loc_of (Or.inl z181)) (pe_callB call_len_str (gl_of z685) T.b_len PyProof.Rows.Boot.«len» (pa_cons (pe_ix ix_list (pe_var (i:=0) (x:="_law_lines_here") rfl (vis_of z75) v2 zz1) pe_int (fun _ _=>rfl)) pa_nil (stp rfl)) (hn:=n_len) (hdb:=d_len) (he:=stp rfl) (hpl:=anp rfl)))
 (pss_cons (ps_set (i:=3) ND rfl (loc_of (Or.inl z145)) (pe_lst pa_nil))
 (pss_cons (ps_for PassesOwn.never (calm0 rfl) (pi_list (pe_call G_q47 (HR.mono (by decide)) (gl_of z287) T.mg_q47 T.k_q47 B_q47 .nil pass0 (pa_cons (pe_var (i:=0) (x:="_law_lines_here") rfl (vis_of z75) v2 zz1) pa_nil (stp rfl)) (hdb:=z310) (he:=stp rfl) (hpl:=anp rfl))) (pg_name (i:=4) ND rfl (loc_of (Or.inl z134)))
 (pss_cons (ps_set (i:=5) ND rfl (loc_of (Or.inl z183)) (pe_op op_sub (pe_op op_fdiv (pe_var (i:=4) (x:="_law_other") rfl (vis_of z85) z29 z32) (pe_var (i:=2) (x:="_law_wide") rfl (vis_of z65) z100 z106)) (pe_op op_fdiv (pe_var (i:=1) (x:="_law_cell") rfl (vis_of z179) z6 z7) (pe_var (i:=2) (x:="_law_wide") rfl (vis_of z65) z100 z106))))
 (pss_cons (ps_set (i:=6) ND rfl (loc_of (Or.inl z120)) (pe_op op_sub (pe_op op_mod (pe_var (i:=4) (x:="_law_other") rfl (vis_of z85) z29 z32) (pe_var (i:=2) (x:="_law_wide") rfl (vis_of z65) z100 z106)) (pe_op op_mod (pe_var (i:=1) (x:="_law_cell") rfl (vis_of z179) z6 z7) (pe_var (i:=2) (x:="_law_wide") rfl (vis_of z65) z100 z106))))
 (pss_one (ps_if (pt_cmpR op_eq (pe_op op_add (pe_op op_mul (pe_var (i:=5) (x:="_law_down") rfl (vis_of z189) z369 z353) (pe_var (i:=5) (x:="_law_down") rfl (vis_of z189) z369 z353)) (pe_op op_mul (pe_var (i:=6) (x:="_law_across") rfl (vis_of z122) z247 z239) (pe_var (i:=6) (x:="_law_across") rfl (vis_of z122) z247 z239))) pe_int (nomark _))
 (pss_one (ps_expr (pe_bm PySem.F.plainAttrs_list PySem.F.slot_list_append PySem.F.type_list_append mt_append (pe_var (i:=3) (x:="_law_found") rfl (vis_of z151) z9 z10) (pa_cons (pe_var (i:=4) (x:="_law_other") rfl (vis_of z85) z29 z32) pa_nil (stp rfl)))))
 pss_nil)))))
 (pss_one (ps_ret (pe_var (i:=3) (x:="_law_found") rfl (vis_of z151) z9 z10)))))),?_⟩
  have w0:=g.w0
  have w1:=g.w1
  have h0:=g.h0
  have l100:=len100 g
  have e0:atI ((linesOf w h sg).map V.str) 0=some (V.str (lineOf w sg 0)):=atI_nat (j:=0) (by rw [List.getElem?_map,z87 (by omega)];rfl)
  have eL:=z110 g (show 0 < h by omega)
  have clen:(cellsOf sg).length≤100:=by
   unfold cellsOf places
   refine Nat.le_trans (List.length_filter_le _ _) ?_
   rw [List.length_map,List.length_range];omega
  walk_at "RD"
  refine⟨_,SqL.of hL,_,e0,_,rfl,by rw [eL];omega,Nat.zero_le _,fun f nf=>⟨l,w,h,sg,rfl,zz0 nf _ _ hL,g,fun r H1 nr s1 hr=>⟨_,rfl,⟨_,SqL.of hr⟩,?_⟩⟩⟩
  rw [eL]
  have sf:Same H (upd H f (HO.lst [])):=zz0 nf
  refine for_list (K:=K) (a:=r) (xs:=(cellsOf sg).map V.int) (fun i σ H'=>∃ x y z,Same H H'∧H' r=some (.lst ((cellsOf sg).map V.int))∧H' f=some (.lst ((((cellsOf sg).take i).filter fun o=>decide ((o / w - c / w) * (o / w - c / w) + (o % w - c % w) * (o % w - c % w)=1)).map V.int))∧σ=[some (V.ref l),some (V.int c),some (V.int (w:Int)),some (V.ref f),x,y,z])
   ⟨none,none,none,sf.trans s1,hr,s1 _ _ upd_same,rfl⟩ (fun i σ H' _ ⟨_,_,_,_,hr',_,_⟩=>SqL.of hr') ?_ ?_
  ·rintro i y σ H' hi ⟨x0,y0,z0,sm,hr',hf',rfl⟩
   rw [List.getElem?_map] at hi
   obtain⟨o,ho,rfl⟩:=Option.map_eq_some_iff.mp hi
   have ho':=z263.mp (List.mem_of_getElem? ho)
   have o0:0≤o∧o < sg.length:=by
    unfold hasI at ho'
    simp only [Bool.and_eq_true,decide_eq_true_eq] at ho'
    exact ho'.1
   walk_at "RD"
   obtain⟨a1,a2,a3,a4,_⟩:=z615 g o0.1 o0.2
   obtain⟨b1,b2,b3,b4,_⟩:=z615 g c0 c1
   have h1:=g.h1
   have nrf:r≠f:=fun z=>by
    rw [z,upd_same] at nr
    cases nr
   have tk:(cellsOf sg).take (i + 1)=(cellsOf sg).take i++[o]:=by rw [List.take_add_one,ho];rfl
   refine⟨⟨by omega,by omega⟩,⟨by omega,by omega⟩,by omega,by omega,.inl ⟨by omega,by omega⟩,.inl ⟨by omega,by omega⟩,?_⟩
   split
   ·rename_i hc
    refine⟨.inl ⟨rfl,_,SqL.of hf'⟩,_,hf',?_,z387 sm nf,?_,?_,_,rfl⟩
    ·rw [List.length_map]
     refine Nat.lt_of_le_of_lt (List.length_filter_le _ _) ?_
     rw [List.length_take];omega
    ·rw [upd_ne nrf];exact hr'
    ·rw [upd_same,tk,List.filter_append,List.map_append,List.filter_cons,if_pos (decide_eq_true hc)]
     rfl
   ·rename_i hc
    refine⟨sm,hr',?_,_,rfl⟩
    rw [hf',tk,List.filter_append,List.filter_cons,if_neg (by rw [decide_eq_true_eq];exact hc)]
    simp
  ·rintro σ H' ⟨x0,y0,z0,sm,hr',hf',rfl⟩
   walk_at "RD"
   refine hq f H' nf sm ?_
   rw [hf',List.length_map,List.take_length]
   rfl
theorem sc_q41:FnScope ["_law_kind","_law_sign_here"] ["_law_kind","_law_sign_here"] (defScope s_q41):=⟨rfl,rfl,rfl,by decide +kernel,rfl,by decide +kernel,by decide +kernel⟩
set_option maxHeartbeats 4000000 in
theorem ok_q41 {fd:FuncData}(F:Fun K "_law_stands" "_law_stands" s_q41 ad.q41 fd) (T:Txt K mg ad):FnOk P w K mg base CX0 1 ad.q41 fd ["_law_kind","_law_sign_here"] (z393):=by
 refine F.ok sc_q41 (fun vs H Q E h=>?_) (fun cdv A outer s H vs Q E HR h=>?_)
 ·obtain⟨i,c,x,rfl,_⟩:=h
  rfl
 ·obtain⟨i,c,x,rfl,hi,hq⟩:=h
  have ND:=sc_q41.nd
  have HU0:=HR.units0
  have HU:=HR.units
  have hA:=HR.hd
  have hz:(100000:Nat)≤sizeLine:=by rw [sizeLine_eq];decide
  refine⟨_,(pss_one (ps_ret (pe_or (pe_cmpR z510 (pe_var (i:=1) (x:="_law_sign_here") rfl (vis_of z81) z143 z137) pe_str (by with_unfolding_all rfl)) (pe_one (pe_and (pe_cmpR op_eq (pe_var (i:=0) (x:="_law_kind") rfl (vis_of z320) z44 z42) pe_str (nomark _)) (pe_one (pe_cmpR op_eq (pe_var (i:=1) (x:="_law_sign_here") rfl (vis_of z81) z143 z137) pe_str (nomark _)))))))),?_⟩
  obtain⟨k1,k2,k3⟩:=kx i x hi
  walk_at "RD"
  refine⟨c,rfl,?_⟩
  by_cases e:common c=true
  ·rw [if_pos (z404.mpr e)]
   have e2:stands i c=true:=by simp [stands,e]
   rw [← e2]
   exact hq
  ·rw [if_neg (fun z=>e (z404.mp z))]
   rw [Bool.not_eq_true] at e
   by_cases e1:i=1
   ·rw [if_pos (k1.mpr e1)]
    refine⟨rfl,?_⟩
    have e2:decide (chr1 c=V.str (Str.ofString "~"))=stands i c:=by
     simp only [stands,e,Bool.false_or,decide_eq_true e1,Bool.true_and]
     exact decide_eq_decide.mpr q126
    rw [e2]
    exact hq
   ·rw [if_neg (fun z=>e1 (k1.mp z))]
    have e2:stands i c=false:=by simp [stands,e,e1]
    rw [← e2]
    exact hq
theorem z665:FnScope ["_law_kind","_law_lines_here","_law_cell","_law_other"] ["_law_kind","_law_lines_here","_law_cell","_law_other"] (defScope z68):=⟨rfl,rfl,rfl,by decide +kernel,rfl,by decide +kernel,by decide +kernel⟩
set_option maxHeartbeats 4000000 in
theorem z785 {fd:FuncData}(F:Fun K "_law_cost" "_law_cost" z68 ad.Lcost fd) (T:Txt K mg ad){fd_q41:FuncData}(B_q41:Binds K fd_q41 ["_law_kind","_law_sign_here"] []) (G_q41:FnOk P w K mg base CX0 1 ad.q41 fd_q41 ["_law_kind","_law_sign_here"] (z393)){fd_Lsign:FuncData}(B_Lsign:Binds K fd_Lsign ["_law_lines_here","_law_cell"] []) (G_Lsign:FnOk P w K mg base CX0 1 ad.Lsign fd_Lsign ["_law_lines_here","_law_cell"] (z443)):FnOk P w K mg base CX0 2 ad.Lcost fd ["_law_kind","_law_lines_here","_law_cell","_law_other"] (z673):=by
 refine F.ok z665 (fun vs H Q E h=>?_) (fun cdv A outer s H vs Q E HR h=>?_)
 ·obtain⟨x,i,l,w,h,sg,cell,other,rfl,_⟩:=h
  rfl
 ·obtain⟨x,i,l,w,h,sg,cell,other,rfl,hi,hL,g,c01,o01,hq⟩:=h
  have ND:=z665.nd
  have HU0:=HR.units0
  have HU:=HR.units
  have hA:=HR.hd
  have hz:(100000:Nat)≤sizeLine:=by rw [sizeLine_eq];decide
  refine⟨_,(pss_cons (ps_if (pt_not (pt_val (pe_call G_q41 (HR.mono (by decide)) (gl_of z206) T.mg_q41 T.k_q41 B_q41 .nil pass0 (pa_cons (pe_var (i:=0) (x:="_law_kind") rfl (vis_of z70) z44 z42) (pa_cons (pe_call G_Lsign (HR.mono (by decide)) (gl_of z49) T.mg_Lsign T.k_Lsign B_Lsign .nil pass0 (pa_cons (pe_var (i:=1) (x:="_law_lines_here") rfl (vis_of z11) v2 zz1) (pa_cons (pe_var (i:=3) (x:="_law_other") rfl (vis_of z43) z29 z32) pa_nil (stp rfl)) (stp rfl)) (hdb:=z59) (he:=stp rfl) (hpl:=anp rfl)) pa_nil (stp rfl)) (stp rfl)) (hdb:=z243) (he:=stp rfl) (hpl:=anp rfl))))
 (pss_one (ps_ret pe_non))
 pss_nil)
 (pss_cons (ps_if (PW.pt (pw_and (pt_cmpR op_eq (pe_var (i:=0) (x:="_law_kind") rfl (vis_of z70) z44 z42) pe_str (nomark _)) (pw_and1 (pt_cmpR op_eq (pe_call G_Lsign (HR.mono (by decide)) (gl_of z49) T.mg_Lsign T.k_Lsign B_Lsign .nil pass0 (pa_cons (pe_var (i:=1) (x:="_law_lines_here") rfl (vis_of z11) v2 zz1) (pa_cons (pe_var (i:=3) (x:="_law_other") rfl (vis_of z43) z29 z32) pa_nil (stp rfl)) (stp rfl)) (hdb:=z59) (he:=stp rfl) (hpl:=anp rfl)) pe_str (nomark _)))))
 (pss_one (ps_ret pe_int))
 pss_nil)
 (pss_cons (ps_if (PW.pt (pw_or (pt_cmpR op_ne (pe_var (i:=0) (x:="_law_kind") rfl (vis_of z70) z44 z42) pe_str (nomark _)) (pw_or1 (pt_cmpR op_eq (pe_op op_fdiv (pe_var (i:=2) (x:="_law_cell") rfl (vis_of z116) z6 z7) (pe_callB call_len_str (gl_of z357) T.b_len PyProof.Rows.Boot.«len» (pa_cons (pe_ix ix_list (pe_var (i:=1) (x:="_law_lines_here") rfl (vis_of z11) v2 zz1) pe_int (fun _ _=>rfl)) pa_nil (stp rfl)) (hn:=n_len) (hdb:=d_len) (he:=stp rfl) (hpl:=anp rfl))) (pe_op op_fdiv (pe_var (i:=3) (x:="_law_other") rfl (vis_of z43) z29 z32) (pe_callB call_len_str (gl_of z357) T.b_len PyProof.Rows.Boot.«len» (pa_cons (pe_ix ix_list (pe_var (i:=1) (x:="_law_lines_here") rfl (vis_of z11) v2 zz1) pe_int (fun _ _=>rfl)) pa_nil (stp rfl)) (hn:=n_len) (hdb:=d_len) (he:=stp rfl) (hpl:=anp rfl))) (nomark _)))))
 (pss_one (ps_ret pe_int))
 pss_nil)
 (pss_cons (ps_if (PW.pt (pw_or (pt_cmpR op_eq (pe_call G_Lsign (HR.mono (by decide)) (gl_of z49) T.mg_Lsign T.k_Lsign B_Lsign .nil pass0 (pa_cons (pe_var (i:=1) (x:="_law_lines_here") rfl (vis_of z11) v2 zz1) (pa_cons (pe_var (i:=2) (x:="_law_cell") rfl (vis_of z116) z6 z7) pa_nil (stp rfl)) (stp rfl)) (hdb:=z59) (he:=stp rfl) (hpl:=anp rfl)) pe_str (nomark _)) (pw_or1 (pt_cmpR op_eq (pe_call G_Lsign (HR.mono (by decide)) (gl_of z49) T.mg_Lsign T.k_Lsign B_Lsign .nil pass0 (pa_cons (pe_var (i:=1) (x:="_law_lines_here") rfl (vis_of z11) v2 zz1) (pa_cons (pe_var (i:=3) (x:="_law_other") rfl (vis_of z43) z29 z32) pa_nil (stp rfl)) (stp rfl)) (hdb:=z59) (he:=stp rfl) (hpl:=anp rfl)) pe_str (nomark _)))))
 (pss_one (ps_ret pe_int))
 pss_nil)
 (pss_one (ps_ret pe_non)))))),?_⟩
  obtain⟨k1,k2,k3⟩:=kx i x hi
  have w0:=g.w0
  walk_at "RD"
  refine⟨l,w,h,sg,other,rfl,hL,g,o01.1,o01.2,i,_,x,rfl,hi,_,rfl,?_⟩
  unfold z86 at hq
  by_cases e:stands i (at_ sg other)=true
  ·rw [if_neg (by rw [e];decide)]
   rw [if_pos e] at hq
   have h0:=g.h0
   have e0:atI ((linesOf w h sg).map V.str) 0=some (V.str (lineOf w sg 0)):=atI_nat (j:=0) (by rw [List.getElem?_map,z87 (by omega)];rfl)
   have eL:=z110 g (show 0 < h by omega)
   have w1:=g.w1
   by_cases e1:i=1
   ·rw [if_pos (k1.mpr e1)]
    refine⟨l,w,h,sg,other,rfl,hL,g,o01.1,o01.2,rfl,?_⟩
    subst e1
    simp only [fareOf] at hq
    by_cases e3:at_ sg other=126
    ·rw [if_pos (q126.mpr e3)]
     rw [if_pos e3] at hq
     exact hq
    ·rw [if_neg (fun z=>e3 (q126.mp z)),if_pos (fun z=>by have:=k2.mp z;omega)]
     rw [if_neg e3] at hq
     exact hq
   ·rw [if_neg (fun z=>e1 (k1.mp z))]
    by_cases e2:i=2
    ·rw [if_neg (fun z=>z (k2.mpr e2))]
     refine⟨_,SqL.of hL,_,e0,_,rfl,by rw [eL];omega,by rw [eL];exact⟨by omega,by omega⟩,_,SqL.of hL,_,e0,_,rfl,by rw [eL];omega,by rw [eL];exact⟨by omega,by omega⟩,?_⟩
     rw [eL]
     subst e2
     simp only [fareOf] at hq
     by_cases e3:cell / (w:Int)=other / (w:Int)
     ·rw [if_pos e3] at hq ⊢
      exact hq
     ·rw [if_neg e3] at hq ⊢
      refine⟨l,w,h,sg,cell,rfl,hL,g,c01.1,c01.2,rfl,?_⟩
      by_cases e4:at_ sg cell=124
      ·rw [if_pos (q124.mpr e4)]
       rw [if_pos (.inl e4)] at hq
       exact hq
      ·rw [if_neg (fun z=>e4 (q124.mp z))]
       refine⟨l,w,h,sg,other,rfl,hL,g,o01.1,o01.2,rfl,?_⟩
       by_cases e5:at_ sg other=124
       ·rw [if_pos (q124.mpr e5)]
        rw [if_pos (.inr e5)] at hq
        exact hq
       ·rw [if_neg (fun z=>e5 (q124.mp z))]
        rw [if_neg (by rintro(z | z);exact e4 z;exact e5 z)] at hq
        exact hq
    ·rw [if_pos (fun z=>e2 (k2.mp z))]
     have ef:fareOf i w sg cell other=some 1:=by
      match i,e1,e2 with
      | 0,_,_=>rfl
      | 1,a,_=>exact absurd rfl a
      | 2,_,b=>exact absurd rfl b
      | (i + 3),_,_=>rfl
     rw [ef] at hq
     exact hq
  ·rw [Bool.not_eq_true] at e
   rw [if_pos e]
   rw [if_neg (by rw [e];decide)] at hq
   exact hq
theorem sc_q48:FnScope ["_law_kind","_law_lines_here","_law_cell","_law_found","_law_other","_law_taken"] ["_law_kind","_law_lines_here","_law_cell"] (defScope s_q48):=⟨rfl,rfl,rfl,by decide +kernel,rfl,by decide +kernel,by decide +kernel⟩
set_option maxHeartbeats 4000000 in
theorem ok_q48 {fd:FuncData}(F:Fun K "_law_steps" "_law_steps" s_q48 ad.q48 fd) (T:Txt K mg ad){fd_q40:FuncData}(B_q40:Binds K fd_q40 ["_law_lines_here","_law_cell"] []) (G_q40:FnOk P w K mg base CX0 3 ad.q40 fd_q40 ["_law_lines_here","_law_cell"] (z389)){fd_Lcost:FuncData}(B_Lcost:Binds K fd_Lcost ["_law_kind","_law_lines_here","_law_cell","_law_other"] []) (G_Lcost:FnOk P w K mg base CX0 2 ad.Lcost fd_Lcost ["_law_kind","_law_lines_here","_law_cell","_law_other"] (z673)):FnOk P w K mg base CX0 4 ad.q48 fd ["_law_kind","_law_lines_here","_law_cell"] (z377):=by
 refine F.ok sc_q48 (fun vs H Q E h=>?_) (fun cdv A outer s H vs Q E HR h=>?_)
 ·obtain⟨x,i,l,w,h,sg,cell,rfl,_⟩:=h
  rfl
 ·obtain⟨x,i,l,w,h,sg,cell,rfl,hi,hL,g,c01,hq⟩:=h
  have ND:=sc_q48.nd
  have HU0:=HR.units0
  have HU:=HR.units
  have hA:=HR.hd
  have hz:(100000:Nat)≤sizeLine:=by rw [sizeLine_eq];decide
  refine⟨_,(pss_cons (ps_set (i:=3) ND rfl (loc_of (Or.inl z156)) (pe_lst pa_nil))
 (pss_cons (ps_for PassesOwn.never (calm0 rfl) (pi_list (pe_call G_q40 (HR.mono (by decide)) (gl_of z252) T.mg_q40 T.k_q40 B_q40 .nil pass0 (pa_cons (pe_var (i:=1) (x:="_law_lines_here") rfl (vis_of z72) v2 zz1) (pa_cons (pe_var (i:=2) (x:="_law_cell") rfl (vis_of z176) z6 z7) pa_nil (stp rfl)) (stp rfl)) (hdb:=z428) (he:=stp rfl) (hpl:=anp rfl))) (pg_name (i:=4) ND rfl (loc_of (Or.inl z152)))
 (pss_cons (ps_set (i:=5) ND rfl (loc_of (Or.inl z147)) (pe_call G_Lcost (HR.mono (by decide)) (gl_of z323) T.mg_Lcost T.k_Lcost B_Lcost .nil pass0 (pa_cons (pe_var (i:=0) (x:="_law_kind") rfl (vis_of z315) z44 z42) (pa_cons (pe_var (i:=1) (x:="_law_lines_here") rfl (vis_of z72) v2 zz1) (pa_cons (pe_var (i:=2) (x:="_law_cell") rfl (vis_of z176) z6 z7) (pa_cons (pe_var (i:=4) (x:="_law_other") rfl (vis_of z154) z29 z32) pa_nil (stp rfl)) (stp rfl)) (stp rfl)) (stp rfl)) (hdb:=z563) (he:=stp rfl) (hpl:=anp rfl)))
 (pss_one (ps_if (pt_cmpR op_notN (pe_var (i:=5) (x:="_law_taken") rfl (vis_of z133) z286 z302) pe_non (nomark _))
 (pss_one (ps_expr (pe_bm PySem.F.plainAttrs_list PySem.F.slot_list_append PySem.F.type_list_append mt_append (pe_var (i:=3) (x:="_law_found") rfl (vis_of z138) z9 z10) (pa_cons (pe_tup (pa_cons (pe_var (i:=4) (x:="_law_other") rfl (vis_of z154) z29 z32) (pa_cons (pe_var (i:=5) (x:="_law_taken") rfl (vis_of z133) z286 z302) pa_nil (stp rfl)) (stp rfl))) pa_nil (stp rfl)))))
 pss_nil))))
 (pss_one (ps_ret (pe_var (i:=3) (x:="_law_found") rfl (vis_of z138) z9 z10))))),?_⟩
  have be:=z384 g c01.1 c01.2
  rw [← be] at hq
  have bl:=z278 (w:=w) (sg:=sg) (c:=cell)
  walk_at "RD"
  refine⟨by omega,fun p hp=>⟨l,w,h,sg,cell,rfl,(zz0 hp) _ _ hL,g,c01.1,c01.2,fun r H1 hr s1 h3=>?_⟩⟩
  rw [← be] at h3
  have nrp:r≠p:=fun z=>by rw [z,upd_same] at hr;cases hr
  have nlp:l≠p:=ne_of_none hL hp
  refine⟨r,rfl,⟨_,SqL.of h3⟩,for_list (K:=K) (a:=r) (xs:=(z24 w sg cell).map V.int) (fun j σ H'=>∃ x4 x5 ts,H' p=some (.lst (ts.map V.ref))∧Paired (PairAt H') ts (pairsOf (z86 i w sg cell) ((z24 w sg cell).take j))∧(∀ b o,H1 b=some o→b≠p→H' b=some o)∧σ=[some (.str x),some (.ref l),some (.int cell),some (.ref p),x4,x5]) ⟨none,none,[],s1 _ _ upd_same,.nil,fun _ _ z _=>z,rfl⟩ ?_ ?_ ?_⟩
  ·rintro j σ H' _ ⟨_,_,_,_,_,fr,_⟩
   exact SqL.of (fr _ _ h3 nrp)
  ·rintro j v σ H' hv ⟨x4,x5,ts,hp',pr,fr,rfl⟩
   rw [List.getElem?_map] at hv
   obtain⟨o,ho,rfl⟩:=Option.map_eq_some_iff.mp hv
   have hm:o∈z24 w sg cell:=List.mem_of_getElem? ho
   have lt:ts.length≤4:=by
    have h1:=Paired.length pr
    have h2:=List.length_filterMap_le (fun o=>(z86 i w sg cell o).map fun k=>(o,k)) ((z24 w sg cell).take j)
    rw [List.length_take] at h2
    unfold pairsOf at h1
    omega
   have hL':z67 H' l w h sg:=fr _ _ (s1 _ _ ((zz0 hp) _ _ hL)) nlp
   walk_at "RD"
   refine⟨x,i,l,w,h,sg,cell,o,rfl,hi,hL',g,c01,z499 g hm,?_⟩
   have tk:pairsOf (z86 i w sg cell) ((z24 w sg cell).take (j + 1))=pairsOf (z86 i w sg cell) ((z24 w sg cell).take j)++((z86 i w sg cell o).map fun k=>(o,k)).toList:=by
    rw [List.take_add_one,ho]
    unfold pairsOf
    rw [Option.toList_some,List.filterMap_append,List.filterMap_cons]
    cases z86 i w sg cell o <;> rfl
   rw [tk]
   cases z:z86 i w sg cell o with
   | none=>
    show if ¬ V.non=V.non then _ else _
    rw [if_neg (fun z=>z rfl)]
    refine⟨_,_,ts,hp',?_,fr,rfl,rfl⟩
    simpa using pr
   | some n=>
    show if ¬ V.int n=V.non then _ else _
    rw [if_pos (by simp)]
    refine⟨.inl ⟨rfl,_,SqL.of hp'⟩,by omega,fun t ht=>⟨_,(zz0 ht) _ _ hp',by simp;omega,?_⟩⟩
    have ntp:t≠p:=fun e=>by rw [e,hp'] at ht;cases ht
    refine⟨_,_,ts++[t],by rw [upd_same];simp,?_,fun b u e nb=>by rw [upd_ne nb];exact(zz0 ht) _ _ (fr _ _ e nb),rfl,rfl⟩
    refine Paired.snoc (Paired.mapP pr fun a q e=>?_) ?_
    ·have ne:a≠p:=fun e2=>by rw [e2] at e;exact absurd (hp'.symm.trans e) (by simp)
     show upd _ _ _ a=_
     rw [upd_ne ne]
     exact(zz0 ht) _ _ e
    ·show upd _ _ _ t=_
     rw [upd_ne ntp,upd_same]
     rfl
  ·rintro σ H' ⟨x4,x5,ts,hp',pr,fr,rfl⟩
   rw [List.length_map,List.take_length] at pr
   walk_at "RD"
   refine hq p _ hp (fun b u e=>?_) ⟨ts,hp',pr⟩
   exact fr _ _ (s1 _ _ ((zz0 hp) _ _ e)) (ne_of_none e hp)
theorem sc_q26:FnScope ["self"] ["self"] (defScope s_q26):=⟨rfl,rfl,rfl,by decide +kernel,rfl,by decide +kernel,by decide +kernel⟩
set_option maxHeartbeats 4000000 in
theorem ok_q26 {fd:FuncData}(F:Fun K "__init__" "Heap.__init__" s_q26 ad.q26 fd) (T:Txt K mg ad):FnOk P w K mg base CX0 1 ad.q26 fd ["self"] (z593 ad):=by
 refine F.ok sc_q26 (fun vs H Q E h=>?_) (fun cdv A outer s H vs Q E HR h=>?_)
 ·obtain⟨p,dx,rfl,_⟩:=h
  rfl
 ·obtain⟨p,dx,rfl,hp,hq⟩:=h
  have ND:=sc_q26.nd
  have HU0:=HR.units0
  have HU:=HR.units
  have hA:=HR.hd
  have hz:(100000:Nat)≤sizeLine:=by rw [sizeLine_eq];decide
  refine⟨_,(pss_one (ps_fld (pe_var (i:=0) (x:="self") rfl (vis_of z640) d_self e_self) (pe_lst pa_nil) rfl)),?_⟩
  walk_at "RD"
  refine⟨Nat.zero_le _,fun l nl=>⟨_,_,_,(zz0 nl) _ _ hp,T.cl_Heap,T.n_Heap_things,by show 0 < 1000;decide,hq l nl⟩⟩
theorem sc_q29:FnScope ["self","place","other","kept"] ["self","place","other"] (defScope s_q29):=⟨rfl,rfl,rfl,by decide +kernel,rfl,by decide +kernel,by decide +kernel⟩
set_option maxHeartbeats 4000000 in
theorem ok_q29 {fd:FuncData}(F:Fun K "swap" "Heap.swap" s_q29 ad.q29 fd) (T:Txt K mg ad):FnOk P w K mg base CX0 1 ad.q29 fd ["self","place","other"] (spSwap ad):=by
 refine F.ok sc_q29 (fun vs H Q E h=>?_) (fun cdv A outer s H vs Q E HR h=>?_)
 ·obtain⟨hp,l,ts,p,a,x,y,rfl,_⟩:=h
  rfl
 ·obtain⟨hp,l,ts,p,a,x,y,rfl,hh,hx,hy,hq⟩:=h
  have ND:=sc_q29.nd
  have HU0:=HR.units0
  have HU:=HR.units
  have hA:=HR.hd
  have hz:(100000:Nat)≤sizeLine:=by rw [sizeLine_eq];decide
  refine⟨_,(pss_cons (ps_set (i:=3) ND rfl (loc_of (Or.inl z408)) (pe_ix ix_list (pe_fld (pe_var (i:=0) (x:="self") rfl (vis_of z207) d_self e_self) (by rfl)) (pe_var (i:=1) (x:="place") rfl (vis_of z350) z125 z114) (fun _ _=>rfl)))
 (pss_cons (ps_asg (pe_ix ix_list (pe_fld (pe_var (i:=0) (x:="self") rfl (vis_of z207) d_self e_self) (by rfl)) (pe_var (i:=2) (x:="other") rfl (vis_of z371) z202 z218) (fun _ _=>rfl)) (pg_sub (pe_fld (pe_var (i:=0) (x:="self") rfl (vis_of z207) d_self e_self) (by rfl)) (pe_var (i:=1) (x:="place") rfl (vis_of z350) z125 z114) set_list))
 (pss_one (ps_asg (pe_var (i:=3) (x:="kept") rfl (vis_of z644) d_kept e_kept) (pg_sub (pe_fld (pe_var (i:=0) (x:="self") rfl (vis_of z207) d_self e_self) (by rfl)) (pe_var (i:=2) (x:="other") rfl (vis_of z371) z202 z218) set_list))))),?_⟩
  obtain⟨⟨dx,e1⟩,e2⟩:=id hh
  have lx:=z41 hx
  have ly:=z41 hy
  have lm:(ts.map V.ref).length=ts.length:=List.length_map _
  refine y3 (fun σ H'=>H'=H∧σ=[some (V.ref hp),some (V.int (p:Int)),some (V.int (a:Int)),some (V.ref x)]) (fun nx hk=>?_) ?_
  ·walk_at "RD"
   exact⟨_,_,_,e1,T.cl_Heap,T.n_Heap_things,_,z26 l,l,rfl,_,SqL.of e2,_,at_ref hx,hk _ _ ⟨rfl,rfl⟩⟩
  rintro σ H1 ⟨rfl,rfl⟩
  have ne:hp≠l:=ne_of e1 e2 (fun z=>by cases z)
  refine y3 (fun σ H'=>H'=upd H1 l (.lst ((ts.map V.ref).set p (V.ref y)))∧σ=[some (V.ref hp),some (V.int (p:Int)),some (V.int (a:Int)),some (V.ref x)]) (fun nx hk=>?_) ?_
  ·walk_at "RD"
   exact⟨_,_,_,e1,T.cl_Heap,T.n_Heap_things,_,z26 l,l,rfl,_,SqL.of e2,_,at_ref hy,_,_,_,e1,T.cl_Heap,T.n_Heap_things,_,z26 l,l,rfl,_,e2,_,by rw [lm];exact z757 lx,hk _ _ ⟨rfl,rfl⟩⟩
  rintro σ H2 ⟨rfl,rfl⟩
  walk_at "RD"
  refine⟨_,_,_,by rw [upd_ne ne];exact e1,T.cl_Heap,T.n_Heap_things,_,z26 l,l,rfl,_,upd_same,_,by rw [List.length_set,lm];exact z757 ly,?_⟩
  rw [upd_upd,z800]
  exact hq
theorem sc_q1:FnScope ["self","place","below"] ["self","place"] (defScope s_q1):=⟨rfl,rfl,rfl,by decide +kernel,rfl,by decide +kernel,by decide +kernel⟩
set_option maxHeartbeats 4000000 in
theorem ok_q1 {fd:FuncData}(F:Fun K "lesser_below" "Heap.lesser_below" s_q1 ad.q1 fd) (T:Txt K mg ad):FnOk P w K mg base CX0 1 ad.q1 fd ["self","place"] (z468 ad):=by
 refine F.ok sc_q1 (fun vs H Q E h=>?_) (fun cdv A outer s H vs Q E HR h=>?_)
 ·obtain⟨hp,l,ts,k,p,rfl,_⟩:=h
  rfl
 ·obtain⟨hp,l,ts,k,p,rfl,hh,hk,tl,pl,hn,hq⟩:=h
  have ND:=sc_q1.nd
  have HU0:=HR.units0
  have HU:=HR.units
  have hA:=HR.hd
  have hz:(100000:Nat)≤sizeLine:=by rw [sizeLine_eq];decide
  refine⟨_,(pss_cons (ps_set (i:=2) ND rfl (loc_of (Or.inl z441)) (pe_op op_add (pe_op op_mul pe_int (pe_var (i:=1) (x:="place") rfl (vis_of z599) z125 z114)) pe_int))
 (pss_cons (ps_if (pt_cmpR op_ge (pe_var (i:=2) (x:="below") rfl (vis_of z99) z184 z187) (pe_callB call_len_seq (gl_of z580) T.b_len PyProof.Rows.Boot.«len» (pa_cons (pe_fld (pe_var (i:=0) (x:="self") rfl (vis_of z266) d_self e_self) (by rfl)) pa_nil (stp rfl)) (hn:=n_len) (hdb:=d_len) (he:=stp rfl) (hpl:=anp rfl)) (nomark _))
 (pss_one (ps_ret pe_non))
 pss_nil)
 (pss_cons (ps_if (PW.pt (pw_and (pt_cmpR op_lt (pe_op op_add (pe_var (i:=2) (x:="below") rfl (vis_of z99) z184 z187) pe_int) (pe_callB call_len_seq (gl_of z580) T.b_len PyProof.Rows.Boot.«len» (pa_cons (pe_fld (pe_var (i:=0) (x:="self") rfl (vis_of z266) d_self e_self) (by rfl)) pa_nil (stp rfl)) (hn:=n_len) (hdb:=d_len) (he:=stp rfl) (hpl:=anp rfl)) (nomark _)) (pw_and1 (pt_cmpR (op_ltT HU0) (pe_ix ix_list (pe_fld (pe_var (i:=0) (x:="self") rfl (vis_of z266) d_self e_self) (by rfl)) (pe_op op_add (pe_var (i:=2) (x:="below") rfl (vis_of z99) z184 z187) pe_int) (fun _ _=>rfl)) (pe_ix ix_list (pe_fld (pe_var (i:=0) (x:="self") rfl (vis_of z266) d_self e_self) (by rfl)) (pe_var (i:=2) (x:="below") rfl (vis_of z99) z184 z187) (fun _ _=>rfl)) (nomark _)))))
 (pss_one (ps_ret (pe_op op_add (pe_var (i:=2) (x:="below") rfl (vis_of z99) z184 z187) pe_int)))
 pss_nil)
 (pss_one (ps_ret (pe_var (i:=2) (x:="below") rfl (vis_of z99) z184 z187)))))),?_⟩
  obtain⟨⟨dx,e1⟩,e2⟩:=id hh
  have lm:(ts.map V.ref).length=ts.length:=List.length_map _
  have key:∀ {i:Nat}{x:Addr},ts[i]?=some x→H x=some (.tup ((k x).map V.int)):=fun h=>hk _ (List.mem_of_getElem? h)
  walk_at "RD"
  refine⟨.inl ⟨by decide,by decide⟩,_,_,_,e1,T.cl_Heap,T.n_Heap_things,_,z26 l,l,rfl,_,.inl (SqL.of e2),?_⟩
  rw [lm]
  by_cases b1:((ts.length:Nat):Int)≤2 * (p:Int) + 1
  ·rw [if_pos b1]
   exact hn fun i i0 ip=>List.getElem?_eq_none (by omega)
  ·rw [if_neg b1]
   refine⟨_,_,_,e1,T.cl_Heap,T.n_Heap_things,_,z26 l,l,rfl,_,.inl (SqL.of e2),?_⟩
   rw [lm]
   have c1:2 * (p:Int) + 1=((2 * p + 1:Nat):Int):=by omega
   have c2:2 * (p:Int) + 1 + 1=((2 * p + 2:Nat):Int):=by omega
   obtain⟨x,hx⟩:∃ x,ts[2 * p + 1]?=some x:=⟨_,List.getElem?_eq_getElem (by omega)⟩
   by_cases b2:2 * (p:Int) + 1 + 1 < ((ts.length:Nat):Int)
   ·rw [if_pos b2]
    obtain⟨y,hy⟩:∃ y,ts[2 * p + 2]?=some y:=⟨_,List.getElem?_eq_getElem (by omega)⟩
    refine⟨_,_,_,e1,T.cl_Heap,T.n_Heap_things,_,z26 l,l,rfl,_,SqL.of e2,_,by rw [c2];exact at_ref hy,_,_,_,e1,T.cl_Heap,T.n_Heap_things,_,z26 l,l,rfl,_,SqL.of e2,_,by rw [c1];exact at_ref hx,y,rfl,x,rfl,_,SqT.of (key hy),_,SqT.of (key hx),?_⟩
    have two:∀ i:Nat,0 < i→(i - 1) / 2=p→i=2 * p + 1∨i=2 * p + 2:=fun i i0 ip=>by omega
    by_cases b3:HT.lexLt (k y) (k x)=true
    ·rw [if_pos b3,c2]
     refine hq _ (by omega) ⟨by omega,by omega,fun i u v i0 ip hu hv=>?_⟩
     rw [hy] at hv
     cases hv
     rcases two i i0 ip with e | e
     ·rw [e,hx] at hu
      cases hu
      exact Le.of b3
     ·rw [e,hy] at hu
      cases hu
      exact Le.refl _
    ·rw [if_neg b3,c1]
     refine hq _ (by omega) ⟨by omega,by omega,fun i u v i0 ip hu hv=>?_⟩
     rw [hx] at hv
     cases hv
     rcases two i i0 ip with e | e
     ·rw [e,hx] at hu
      cases hu
      exact Le.refl _
     ·rw [e,hy] at hu
      cases hu
      exact(by simpa using b3:HT.lexLt (k y) (k x)=false)
   ·rw [if_neg b2,c1]
    refine hq _ (by omega) ⟨by omega,by omega,fun i u v i0 ip hu hv=>?_⟩
    have li:=z41 hu
    have e:i=2 * p + 1:=by omega
    rw [e] at hu
    rw [hu] at hv
    cases hv
    exact Le.refl _
theorem sc_q5:FnScope ["self","place","above"] ["self"] (defScope s_q5):=⟨rfl,rfl,rfl,by decide +kernel,rfl,by decide +kernel,by decide +kernel⟩
set_option maxHeartbeats 4000000 in
theorem ok_q5 {fd:FuncData}(F:Fun K "lift_last" "Heap.lift_last" s_q5 ad.q5 fd) (T:Txt K mg ad){fd_q29:FuncData}(B_q29:Binds K fd_q29 ["self","place","other"] []) (G_q29:FnOk P w K mg base CX0 1 ad.q29 fd_q29 ["self","place","other"] (spSwap ad)):FnOk P w K mg base CX0 2 ad.q5 fd ["self"] (spLift ad):=by
 refine F.ok sc_q5 (fun vs H Q E h=>?_) (fun cdv A outer s H vs Q E HR h=>?_)
 ·obtain⟨hp,l,ts,k,n,rfl,_⟩:=h
  rfl
 ·obtain⟨hp,l,ts,k,n,rfl,hh,hk,tl,nl,hL,hq⟩:=h
  have ND:=sc_q5.nd
  have HU0:=HR.units0
  have HU:=HR.units
  have hA:=HR.hd
  have hz:(100000:Nat)≤sizeLine:=by rw [sizeLine_eq];decide
  refine⟨_,(pss_cons (ps_set (i:=1) ND rfl (loc_of (Or.inl z274)) (pe_op op_sub (pe_callB call_len_seq (gl_of z762) T.b_len PyProof.Rows.Boot.«len» (pa_cons (pe_fld (pe_var (i:=0) (x:="self") rfl (vis_of z267) d_self e_self) (by rfl)) pa_nil (stp rfl)) (hn:=n_len) (hdb:=d_len) (he:=stp rfl) (hpl:=anp rfl)) pe_int))
 (pss_cons (ps_set (i:=2) ND rfl (loc_of (Or.inl z306)) (pe_op op_fdiv (pe_op op_sub (pe_var (i:=1) (x:="place") rfl (vis_of z141) z125 z114) pe_int) pe_int))
 (pss_one (ps_while PassesOwn.never (PW.pt (pw_and (pt_cmpR op_gt (pe_var (i:=1) (x:="place") rfl (vis_of z141) z125 z114) pe_int (nomark _)) (pw_and1 (pt_cmpR (op_ltT HU0) (pe_ix ix_list (pe_fld (pe_var (i:=0) (x:="self") rfl (vis_of z267) d_self e_self) (by rfl)) (pe_var (i:=1) (x:="place") rfl (vis_of z141) z125 z114) (fun _ _=>rfl)) (pe_ix ix_list (pe_fld (pe_var (i:=0) (x:="self") rfl (vis_of z267) d_self e_self) (by rfl)) (pe_var (i:=2) (x:="above") rfl (vis_of z299) z624 z622) (fun _ _=>rfl)) (nomark _)))))
 (pss_cons (ps_expr (pe_meth (pe_var (i:=0) (x:="self") rfl (vis_of z267) d_self e_self) T.cl_Heap T.m_q29 G_q29 (HR.mono (by decide)) B_q29 .nil pass0 (pa_cons (pe_var (i:=1) (x:="place") rfl (vis_of z141) z125 z114) (pa_cons (pe_var (i:=2) (x:="above") rfl (vis_of z299) z624 z622) pa_nil (stp rfl)) (stp rfl)) (hst:=stp rfl) (hpl:=anp rfl)))
 (pss_cons (ps_set (i:=1) ND rfl (loc_of (Or.inl z274)) (pe_var (i:=2) (x:="above") rfl (vis_of z299) z624 z622))
 (pss_one (ps_set (i:=2) ND rfl (loc_of (Or.inl z306)) (pe_op op_fdiv (pe_op op_sub (pe_var (i:=1) (x:="place") rfl (vis_of z141) z125 z114) pe_int) pe_int))))))))),?_⟩
  obtain⟨⟨dx,e1⟩,e2⟩:=id hh
  have lm:∀ us:List Addr,(us.map V.ref).length=us.length:=fun us=>List.length_map _
  refine y3 (fun σ H'=>H'=H∧σ=[some (V.ref hp),some (V.int (n:Int)),none]) (fun nx hk=>?_) ?_
  ·walk_at "RD"
   refine⟨_,_,_,e1,T.cl_Heap,T.n_Heap_things,_,z26 l,l,rfl,_,.inl (SqL.of e2),hk _ _ ⟨rfl,?_⟩⟩
   rw [lm,tl]
   simp
  rintro σ H1 ⟨rfl,rfl⟩
  refine y3 (fun σ H'=>H'=H1∧σ=[some (V.ref hp),some (V.int (n:Int)),some (V.int (((n:Int) - 1) / 2))]) (fun nx hk=>?_) ?_
  ·walk_at "RD"
   exact⟨⟨by decide,by decide⟩,hk _ _ ⟨rfl,rfl⟩⟩
  rintro σ H2 ⟨rfl,rfl⟩
  walk_at "RD"
  refine⟨fun m σ H'=>∃ (p:Nat) (us:List Addr),m=p∧p≤n∧us.Perm ts∧Lift k us p∧H'=upd H2 l (.lst (us.map V.ref))∧σ=[some (V.ref hp),some (V.int (p:Int)),some (V.int (((p:Int) - 1) / 2))],⟨n,n,ts,rfl,Nat.le_refl _,.refl _,hL,(upd_id e2).symm,rfl⟩,?_⟩
  rintro p σ H' ⟨_,us,rfl,pn,pm,hL',rfl,rfl⟩
  have lu:=pm.length_eq
  have hh':HeapAt ad (upd H2 l (.lst (us.map V.ref))) hp l us:=hh.put
  obtain⟨⟨dx',f1⟩,f2⟩:=id hh'
  have hk':KeysAt (upd H2 l (.lst (us.map V.ref))) k us:=hk.put e2 fun t ht=>pm.mem_iff.mp ht
  have key:∀ {i:Nat}{x:Addr},us[i]?=some x→upd H2 l (.lst (us.map V.ref)) x=some (.tup ((k x).map V.int)):=fun h=>hk' _ (List.mem_of_getElem? h)
  walk_at "RD"
  by_cases p0:0 < (p:Int)
  ·rw [if_pos p0]
   have ca:((p:Int) - 1) / 2=(((p - 1) / 2:Nat):Int):=by omega
   obtain⟨x,hx⟩:∃ x,us[p]?=some x:=⟨_,List.getElem?_eq_getElem (by omega)⟩
   obtain⟨y,hy⟩:∃ y,us[(p - 1) / 2]?=some y:=⟨_,List.getElem?_eq_getElem (by omega)⟩
   rw [ca]
   refine⟨_,_,_,f1,T.cl_Heap,T.n_Heap_things,_,z26 l,l,rfl,_,SqL.of f2,_,at_ref hx,_,_,_,f1,T.cl_Heap,T.n_Heap_things,_,z26 l,l,rfl,_,SqL.of f2,_,at_ref hy,x,rfl,y,rfl,_,SqT.of (key hx),_,SqT.of (key hy),?_⟩
   by_cases b:HT.lexLt (k x) (k y)=true
   ·rw [if_pos b]
    refine⟨fun σ' H''=>H''=upd H2 l (.lst ((swp us p ((p - 1) / 2) x y).map V.ref))∧σ'=[some (V.ref hp),some (V.int (((p - 1) / 2:Nat):Int)),some (V.int (((((p - 1) / 2:Nat):Int) - 1) / 2))],fun σ' H'' ⟨h1,h2⟩=>⟨(p - 1) / 2,by omega,by omega,swp us p ((p - 1) / 2) x y,(z623 hx hy (by omega)).trans pm,hL'.step (by omega) hx hy b,h1,h2⟩,?_⟩
    refine⟨_,_,f1,h_no l (by decide +kernel),hp,l,us,p,(p - 1) / 2,x,y,rfl,hh',hx,hy,⟨by decide,by decide⟩,?_⟩
    rw [upd_upd]
    exact⟨rfl,rfl⟩
   ·rw [if_neg b]
    exact hq us pm (hL'.done (.inr ⟨x,y,hx,hy,by simpa using b⟩))
  ·rw [if_neg p0]
   exact hq us pm (hL'.done (.inl (by omega)))
theorem sc_q4:FnScope ["self","place","below"] ["self"] (defScope s_q4):=⟨rfl,rfl,rfl,by decide +kernel,rfl,by decide +kernel,by decide +kernel⟩
set_option maxHeartbeats 4000000 in
theorem ok_q4 {fd:FuncData}(F:Fun K "sink_first" "Heap.sink_first" s_q4 ad.q4 fd) (T:Txt K mg ad){fd_q29:FuncData}(B_q29:Binds K fd_q29 ["self","place","other"] []) (G_q29:FnOk P w K mg base CX0 1 ad.q29 fd_q29 ["self","place","other"] (spSwap ad)){fd_q1:FuncData}(B_q1:Binds K fd_q1 ["self","place"] []) (G_q1:FnOk P w K mg base CX0 1 ad.q1 fd_q1 ["self","place"] (z468 ad)):FnOk P w K mg base CX0 2 ad.q4 fd ["self"] (spSink ad):=by
 refine F.ok sc_q4 (fun vs H Q E h=>?_) (fun cdv A outer s H vs Q E HR h=>?_)
 ·obtain⟨hp,l,ts,k,rfl,_⟩:=h
  rfl
 ·obtain⟨hp,l,ts,k,rfl,hh,hk,t0,tl,hS,hq⟩:=h
  have ND:=sc_q4.nd
  have HU0:=HR.units0
  have HU:=HR.units
  have hA:=HR.hd
  have hz:(100000:Nat)≤sizeLine:=by rw [sizeLine_eq];decide
  refine⟨_,(pss_cons (ps_set (i:=1) ND rfl (loc_of (Or.inl z303)) pe_int)
 (pss_cons (ps_set (i:=2) ND rfl (loc_of (Or.inl z281)) (pe_meth (pe_var (i:=0) (x:="self") rfl (vis_of z208) d_self e_self) T.cl_Heap T.m_q1 G_q1 (HR.mono (by decide)) B_q1 .nil pass0 (pa_cons (pe_var (i:=1) (x:="place") rfl (vis_of z221) z125 z114) pa_nil (stp rfl)) (hst:=stp rfl) (hpl:=anp rfl)))
 (pss_one (ps_while PassesOwn.never (PW.pt (pw_and (pt_cmpR op_notN (pe_var (i:=2) (x:="below") rfl (vis_of z209) z184 z187) pe_non (nomark _)) (pw_and1 (pt_cmpR (op_ltT HU0) (pe_ix ix_list (pe_fld (pe_var (i:=0) (x:="self") rfl (vis_of z208) d_self e_self) (by rfl)) (pe_var (i:=2) (x:="below") rfl (vis_of z209) z184 z187) (fun _ _=>rfl)) (pe_ix ix_list (pe_fld (pe_var (i:=0) (x:="self") rfl (vis_of z208) d_self e_self) (by rfl)) (pe_var (i:=1) (x:="place") rfl (vis_of z221) z125 z114) (fun _ _=>rfl)) (nomark _)))))
 (pss_cons (ps_expr (pe_meth (pe_var (i:=0) (x:="self") rfl (vis_of z208) d_self e_self) T.cl_Heap T.m_q29 G_q29 (HR.mono (by decide)) B_q29 .nil pass0 (pa_cons (pe_var (i:=1) (x:="place") rfl (vis_of z221) z125 z114) (pa_cons (pe_var (i:=2) (x:="below") rfl (vis_of z209) z184 z187) pa_nil (stp rfl)) (stp rfl)) (hst:=stp rfl) (hpl:=anp rfl)))
 (pss_cons (ps_set (i:=1) ND rfl (loc_of (Or.inl z303)) (pe_var (i:=2) (x:="below") rfl (vis_of z209) z184 z187))
 (pss_one (ps_set (i:=2) ND rfl (loc_of (Or.inl z281)) (pe_meth (pe_var (i:=0) (x:="self") rfl (vis_of z208) d_self e_self) T.cl_Heap T.m_q1 G_q1 (HR.mono (by decide)) B_q1 .nil pass0 (pa_cons (pe_var (i:=1) (x:="place") rfl (vis_of z221) z125 z114) pa_nil (stp rfl)) (hst:=stp rfl) (hpl:=anp rfl)))))))))),?_⟩
  obtain⟨⟨dx,e1⟩,e2⟩:=id hh
  have lm:∀ us:List Addr,(us.map V.ref).length=us.length:=fun us=>List.length_map _
  have n0:0 < ts.length:=List.length_pos_iff.mpr t0
  refine y3 (fun σ H'=>H'=H∧σ=[some (V.ref hp),some (V.int ((0:Nat):Int)),none]) (fun nx hk=>?_) ?_
  ·walk_at "RD"
   exact hk _ _ ⟨rfl,rfl⟩
  rintro σ H1 ⟨rfl,rfl⟩
  refine y3 (fun σ H'=>∃ v,H'=H1∧((v=V.non∧∀ i,0 < i→(i - 1) / 2=0→ts[i]?=none)∨∃ b:Nat,v=V.int (b:Int)∧b < ts.length∧Lesser k ts 0 b)∧σ=[some (V.ref hp),some (V.int ((0:Nat):Int)),some v]) (fun nx hk'=>?_) ?_
  ·walk_at "RD"
   exact⟨_,_,e1,h_no l (by decide +kernel),hp,l,ts,k,0,rfl,hh,hk,tl,by omega,fun h=>hk' _ _ ⟨_,rfl,.inl ⟨rfl,h⟩,rfl⟩,fun b hb B=>hk' _ _ ⟨_,rfl,.inr ⟨b,rfl,hb,B⟩,rfl⟩⟩
  rintro σ H2 ⟨v0,rfl,hv0,rfl⟩
  walk_at "RD"
  refine⟨fun m σ H'=>∃ (p:Nat) (us:List Addr) (v:V),m + p=ts.length∧us.Perm ts∧Sink k us p∧p < ts.length∧((v=V.non∧∀ i,0 < i→(i - 1) / 2=p→us[i]?=none)∨∃ b:Nat,v=V.int (b:Int)∧b < us.length∧Lesser k us p b)∧H'=upd H2 l (.lst (us.map V.ref))∧σ=[some (V.ref hp),some (V.int (p:Int)),some v],⟨ts.length,0,ts,v0,rfl,.refl _,hS,n0,hv0,(upd_id e2).symm,rfl⟩,?_⟩
  rintro m σ H' ⟨p,us,v,mp,pm,hS',pl,hv,rfl,rfl⟩
  have lu:=pm.length_eq
  have hh':HeapAt ad (upd H2 l (.lst (us.map V.ref))) hp l us:=hh.put
  obtain⟨⟨dx',f1⟩,f2⟩:=id hh'
  have hk':KeysAt (upd H2 l (.lst (us.map V.ref))) k us:=hk.put e2 fun t ht=>pm.mem_iff.mp ht
  have key:∀ {i:Nat}{x:Addr},us[i]?=some x→upd H2 l (.lst (us.map V.ref)) x=some (.tup ((k x).map V.int)):=fun h=>hk' _ (List.mem_of_getElem? h)
  walk_at "RD"
  rcases hv with ⟨rfl,hno⟩ | ⟨b,rfl,bl,B⟩
  ·rw [if_neg (by simp)]
   exact hq us pm (hS'.done (.inl hno))
  ·rw [if_pos (by simp)]
   have b0:=B.b0
   have bp:=B.bp
   obtain⟨x,hx⟩:∃ x,us[b]?=some x:=⟨_,List.getElem?_eq_getElem bl⟩
   obtain⟨y,hy⟩:∃ y,us[p]?=some y:=⟨_,List.getElem?_eq_getElem (by omega)⟩
   refine⟨_,_,_,f1,T.cl_Heap,T.n_Heap_things,_,z26 l,l,rfl,_,_,rfl,SqL.of f2,_,at_ref hx,_,_,_,f1,T.cl_Heap,T.n_Heap_things,_,z26 l,l,rfl,_,SqL.of f2,_,at_ref hy,x,rfl,y,rfl,_,SqT.of (key hx),_,SqT.of (key hy),?_⟩
   by_cases bb:HT.lexLt (k x) (k y)=true
   ·rw [if_pos bb]
    have S2:=hS'.step B hx hy bb
    have pm2:=(z623 hy hx (by omega)).trans pm
    refine⟨fun σ' H''=>∃ v,H''=upd H2 l (.lst ((swp us p b y x).map V.ref))∧((v=V.non∧∀ i,0 < i→(i - 1) / 2=b→(swp us p b y x)[i]?=none)∨∃ c:Nat,v=V.int (c:Int)∧c < (swp us p b y x).length∧Lesser k (swp us p b y x) b c)∧σ'=[some (V.ref hp),some (V.int (b:Int)),some v],fun σ' H'' ⟨v,h1,h3,h2⟩=>⟨ts.length - b,by omega,b,by omega,swp us p b y x,pm2,S2,by omega,v,h3,h1,h2⟩,?_⟩
    refine⟨_,_,f1,h_no l (by decide +kernel),hp,l,us,p,b,y,x,rfl,hh',hy,hx,?_⟩
    rw [upd_upd]
    have hh2:HeapAt ad (upd H2 l (.lst ((swp us p b y x).map V.ref))) hp l (swp us p b y x):=hh.put
    obtain⟨⟨dx2,g1⟩,g2⟩:=id hh2
    exact⟨_,_,g1,h_no l (by decide +kernel),hp,l,_,k,b,rfl,hh2,hk.put e2 fun t ht=>pm2.mem_iff.mp ht,by rw [z801];omega,by omega,fun h=>⟨_,rfl,.inl ⟨rfl,h⟩,rfl⟩,fun c hc C=>⟨_,rfl,.inr ⟨c,rfl,hc,C⟩,rfl⟩⟩
   ·rw [if_neg bb]
    exact hq us pm (hS'.done (.inr ⟨b,x,y,B,hx,hy,by simpa using bb⟩))
theorem sc_q20:FnScope ["self"] ["self"] (defScope s_q20):=⟨rfl,rfl,rfl,by decide +kernel,rfl,by decide +kernel,by decide +kernel⟩
set_option maxHeartbeats 4000000 in
theorem ok_q20 {fd:FuncData}(F:Fun K "least" "Heap.least" s_q20 ad.q20 fd) (T:Txt K mg ad):FnOk P w K mg base CX0 1 ad.q20 fd ["self"] (z602 ad):=by
 refine F.ok sc_q20 (fun vs H Q E h=>?_) (fun cdv A outer s H vs Q E HR h=>?_)
 ·obtain⟨hp,l,r,ts,rfl,_⟩:=h
  rfl
 ·obtain⟨hp,l,r,ts,rfl,hh,hq⟩:=h
  have ND:=sc_q20.nd
  have HU0:=HR.units0
  have HU:=HR.units
  have hA:=HR.hd
  have hz:(100000:Nat)≤sizeLine:=by rw [sizeLine_eq];decide
  refine⟨_,(pss_cons (ps_if (pt_not (pt_truth (pe_fld (pe_var (i:=0) (x:="self") rfl (vis_of z411) d_self e_self) (by rfl)) (fun _=>rfl)))
 pss_never
 pss_nil)
 (pss_one (ps_ret (pe_ix ix_list (pe_fld (pe_var (i:=0) (x:="self") rfl (vis_of z411) d_self e_self) (by rfl)) pe_int (fun _ _=>rfl))))),?_⟩
  obtain⟨⟨dx,e1⟩,e2⟩:=id hh
  walk_at "RD"
  refine⟨_,_,_,e1,T.cl_Heap,T.n_Heap_things,_,z26 l,_,.inl ⟨_,SqL.of e2,rfl⟩,?_⟩
  rw [if_neg (by simp)]
  exact⟨_,_,_,e1,T.cl_Heap,T.n_Heap_things,_,z26 l,l,rfl,_,SqL.of e2,_,at_ref (p:=0) rfl,hq⟩
theorem sc_q34:FnScope ["self","thing"] ["self","thing"] (defScope s_q34):=⟨rfl,rfl,rfl,by decide +kernel,rfl,by decide +kernel,by decide +kernel⟩
set_option maxHeartbeats 4000000 in
theorem ok_q34 {fd:FuncData}(F:Fun K "put" "Heap.put" s_q34 ad.q34 fd) (T:Txt K mg ad){fd_q5:FuncData}(B_q5:Binds K fd_q5 ["self"] []) (G_q5:FnOk P w K mg base CX0 2 ad.q5 fd_q5 ["self"] (spLift ad)):FnOk P w K mg base CX0 3 ad.q34 fd ["self","thing"] (spHPut ad):=by
 refine F.ok sc_q34 (fun vs H Q E h=>?_) (fun cdv A outer s H vs Q E HR h=>?_)
 ·obtain⟨hp,l,t,ts,k,rfl,_⟩:=h
  rfl
 ·obtain⟨hp,l,t,ts,k,rfl,hh,hk,tl,hok,hq⟩:=h
  have ND:=sc_q34.nd
  have HU0:=HR.units0
  have HU:=HR.units
  have hA:=HR.hd
  have hz:(100000:Nat)≤sizeLine:=by rw [sizeLine_eq];decide
  refine⟨_,(pss_cons (ps_expr (pe_bm PySem.F.plainAttrs_list PySem.F.slot_list_append PySem.F.type_list_append mt_append (pe_fld (pe_var (i:=0) (x:="self") rfl (vis_of z398) d_self e_self) (by rfl)) (pa_cons (pe_var (i:=1) (x:="thing") rfl (vis_of z534) z446 z438) pa_nil (stp rfl))))
 (pss_one (ps_expr (pe_meth0 (pe_var (i:=0) (x:="self") rfl (vis_of z398) d_self e_self) T.cl_Heap T.m_q5 G_q5 (HR.mono (by decide)) B_q5 .nil pass0)))),?_⟩
  obtain⟨⟨dx,e1⟩,e2⟩:=id hh
  have lm:(ts.map V.ref).length=ts.length:=List.length_map _
  have et:(ts.map V.ref)++[V.ref t]=(ts++[t]).map V.ref:=by simp
  walk_at "RD"
  refine⟨_,_,_,e1,T.cl_Heap,T.n_Heap_things,_,z26 l,.inl ⟨rfl,_,SqL.of e2⟩,l,rfl,_,e2,by rw [lm];omega,?_⟩
  rw [et]
  have hh':HeapAt ad (upd H l (.lst ((ts++[t]).map V.ref))) hp l (ts++[t]):=hh.put
  obtain⟨⟨dx',f1⟩,f2⟩:=id hh'
  have pt:(ts++[t]).Perm (t::ts):=List.perm_append_comm
  refine⟨_,_,f1,h_no l (by decide +kernel),hp,l,ts++[t],k,ts.length,rfl,hh',hk.put e2 fun u hu=>pt.mem_iff.mp hu,by simp,by omega,Lift.start hok,fun us pu ho=>?_⟩
  rw [upd_upd]
  exact hq us (pu.trans pt) ho
theorem sc_q27:FnScope ["self","first","last"] ["self"] (defScope s_q27):=⟨rfl,rfl,rfl,by decide +kernel,rfl,by decide +kernel,by decide +kernel⟩
set_option maxHeartbeats 4000000 in
theorem ok_q27 {fd:FuncData}(F:Fun K "take" "Heap.take" s_q27 ad.q27 fd) (T:Txt K mg ad){fd_q20:FuncData}(B_q20:Binds K fd_q20 ["self"] []) (G_q20:FnOk P w K mg base CX0 1 ad.q20 fd_q20 ["self"] (z602 ad)){fd_q4:FuncData}(B_q4:Binds K fd_q4 ["self"] []) (G_q4:FnOk P w K mg base CX0 2 ad.q4 fd_q4 ["self"] (spSink ad)):FnOk P w K mg base CX0 3 ad.q27 fd ["self"] (spTake ad):=by
 refine F.ok sc_q27 (fun vs H Q E h=>?_) (fun cdv A outer s H vs Q E HR h=>?_)
 ·obtain⟨hp,l,ts,k,rfl,_⟩:=h
  rfl
 ·obtain⟨hp,l,ts,k,rfl,hh,hk,t0,tl,hok,hq⟩:=h
  have ND:=sc_q27.nd
  have HU0:=HR.units0
  have HU:=HR.units
  have hA:=HR.hd
  have hz:(100000:Nat)≤sizeLine:=by rw [sizeLine_eq];decide
  refine⟨_,(pss_cons (ps_set (i:=1) ND rfl (loc_of (Or.inl z344)) (pe_meth0 (pe_var (i:=0) (x:="self") rfl (vis_of z155) d_self e_self) T.cl_Heap T.m_q20 G_q20 (HR.mono (by decide)) B_q20 .nil pass0))
 (pss_cons (ps_set (i:=2) ND rfl (loc_of (Or.inl z424)) (pe_bm0 PySem.F.plainAttrs_list PySem.F.slot_list_pop PySem.F.type_list_pop mt_pop (pe_fld (pe_var (i:=0) (x:="self") rfl (vis_of z155) d_self e_self) (by rfl))))
 (pss_cons (ps_if (pt_truth (pe_fld (pe_var (i:=0) (x:="self") rfl (vis_of z155) d_self e_self) (by rfl)) (fun _=>rfl))
 (pss_cons (ps_asg (pe_var (i:=2) (x:="last") rfl (vis_of z596) d_last e_last) (pg_sub (pe_fld (pe_var (i:=0) (x:="self") rfl (vis_of z155) d_self e_self) (by rfl)) pe_int set_list))
 (pss_one (ps_expr (pe_meth0 (pe_var (i:=0) (x:="self") rfl (vis_of z155) d_self e_self) T.cl_Heap T.m_q4 G_q4 (HR.mono (by decide)) B_q4 .nil pass0))))
 pss_nil)
 (pss_one (ps_ret (pe_var (i:=1) (x:="first") rfl (vis_of z558) z793 z799)))))),?_⟩
  obtain⟨r,rs,rfl⟩:∃ r rs,ts=r::rs:=by cases ts with | nil=>exact absurd rfl t0 | cons r rs=>exact⟨r,rs,rfl⟩
  obtain⟨⟨dx,e1⟩,e2⟩:=id hh
  have lm:∀ us:List Addr,(us.map V.ref).length=us.length:=fun us=>List.length_map _
  refine y3 (fun σ H'=>H'=H∧σ=[some (V.ref hp),some (V.ref r),none]) (fun nx hk=>?_) ?_
  ·walk_at "RD"
   exact⟨_,_,e1,h_no l (by decide +kernel),hp,l,r,rs,rfl,hh,hk _ _ ⟨rfl,rfl⟩⟩
  rintro σ H1 ⟨rfl,rfl⟩
  have ls:∀ t∈r::rs,Le (k r) (k t):=fun t ht=>by
   obtain⟨i,hi⟩:=List.getElem?_of_mem ht
   exact hok.least (r:=r) rfl i t hi
  obtain⟨us,z,ez⟩:∃ us z,r::rs=us++[z]:=⟨(r::rs).dropLast,(r::rs).getLast (by simp),(List.dropLast_concat_getLast _).symm⟩
  have hu:Hok k us:=Hok.init (t:=z) (by rw [← ez];exact hok)
  have lz:(r::rs).length=us.length + 1:=by rw [ez];simp
  refine y3 (fun σ H'=>H'=upd H1 l (.lst (us.map V.ref))∧σ=[some (V.ref hp),some (V.ref r),some (V.ref z)]) (fun nx hk'=>?_) ?_
  ·walk_at "RD"
   refine⟨_,_,_,e1,T.cl_Heap,T.n_Heap_things,_,z26 l,.inl ⟨rfl,_,SqL.of e2⟩,l,rfl,_,e2,V.ref z,?_,hk' _ _ ⟨?_,rfl⟩⟩
   ·rw [ez,List.map_append,List.length_append]
    simp
   ·rw [ez,List.map_append]
    simp
  rintro σ H2 ⟨rfl,rfl⟩
  have hh':HeapAt ad (upd H1 l (.lst (us.map V.ref))) hp l us:=hh.put
  obtain⟨⟨dx',f1⟩,f2⟩:=id hh'
  walk_at "RD"
  refine⟨_,_,_,f1,T.cl_Heap,T.n_Heap_things,_,z26 l,_,.inl ⟨_,SqL.of f2,rfl⟩,?_⟩
  cases us with
  | nil=>
   rw [if_neg (by simp)]
   cases ez
   exact hq r [] (.refl _) ls hu
  | cons u0 us=>
   rw [if_pos (by simp)]
   obtain⟨rfl,rfl⟩:r=u0∧rs=us++[z]:=by simpa using ez
   have es:((r::us).map V.ref).set 0 (V.ref z)=((r::us).set 0 z).map V.ref:=rfl
   have hm:∀ t∈(r::us).set 0 z,t∈r::(us++[z]):=fun t ht=>by
    rcases List.mem_cons.mp ht with e | e
    ·rw [e];simp
    ·simp [show t∈us from e]
   refine⟨_,_,_,f1,T.cl_Heap,T.n_Heap_things,_,z26 l,l,rfl,_,f2,0,by simp [ixN],?_⟩
   rw [es,upd_upd]
   have hh2:HeapAt ad (upd H1 l (.lst (((r::us).set 0 z).map V.ref))) hp l ((r::us).set 0 z):=hh.put
   obtain⟨⟨dx2,g1⟩,g2⟩:=id hh2
   refine⟨_,_,g1,h_no l (by decide +kernel),hp,l,_,k,rfl,hh2,hk.put e2 hm,by simp,by simp only [List.length_set];simp at tl lz ⊢;omega,Sink.start hu,fun vs pv ho=>?_⟩
   rw [upd_upd]
   refine hq r vs ?_ ls ho
   refine List.Perm.cons r (pv.trans ?_)
   show (z::us).Perm (us++[z])
   exact List.perm_append_comm (l₁:=[z])
theorem sc_q28:FnScope ["self"] ["self"] (defScope s_q28):=⟨rfl,rfl,rfl,by decide +kernel,rfl,by decide +kernel,by decide +kernel⟩
set_option maxHeartbeats 4000000 in
theorem ok_q28 {fd:FuncData}(F:Fun K "size" "Heap.size" s_q28 ad.q28 fd) (T:Txt K mg ad):FnOk P w K mg base CX0 1 ad.q28 fd ["self"] (spSize ad):=by
 refine F.ok sc_q28 (fun vs H Q E h=>?_) (fun cdv A outer s H vs Q E HR h=>?_)
 ·obtain⟨hp,l,ts,rfl,_⟩:=h
  rfl
 ·obtain⟨hp,l,ts,rfl,hh,hq⟩:=h
  have ND:=sc_q28.nd
  have HU0:=HR.units0
  have HU:=HR.units
  have hA:=HR.hd
  have hz:(100000:Nat)≤sizeLine:=by rw [sizeLine_eq];decide
  refine⟨_,(pss_one (ps_ret (pe_callB call_len_seq (gl_of z726) T.b_len PyProof.Rows.Boot.«len» (pa_cons (pe_fld (pe_var (i:=0) (x:="self") rfl (vis_of z642) d_self e_self) (by rfl)) pa_nil (stp rfl)) (hn:=n_len) (hdb:=d_len) (he:=stp rfl) (hpl:=anp rfl)))),?_⟩
  obtain⟨⟨dx,e1⟩,e2⟩:=id hh
  walk_at "RD"
  refine⟨_,_,_,e1,T.cl_Heap,T.n_Heap_things,_,z26 l,l,rfl,_,.inl (SqL.of e2),?_⟩
  rw [List.length_map]
  exact hq
theorem sc_q6:FnScope ["floor","carrier"] ["floor","carrier"] (defScope s_q6):=⟨rfl,rfl,rfl,by decide +kernel,rfl,by decide +kernel,by decide +kernel⟩
set_option maxHeartbeats 4000000 in
theorem ok_q6 {fd:FuncData}(F:Fun K "standing_cells" "standing_cells" s_q6 ad.q6 fd) (T:Txt K mg ad){fd_q17:FuncData}(B_q17:Binds K fd_q17 ["self"] []) (G_q17:FnOk P w K mg base CX0 4 ad.q17 fd_q17 ["self"] (z504 ad.C_Floor)){fd_q24:FuncData}(B_q24:Binds K fd_q24 ["self","cell"] []) (G_q24:FnOk P w K mg base CX0 1 ad.q24 fd_q24 ["self","cell"] (spSign ad.C_Floor)){fd_q2:FuncData}(B_q2:Binds K fd_q2 ["self","sign"] []) (G_q2:FnOk P w K mg base CX0 1 ad.q2 fd_q2 ["self","sign"] (spMay 0)){fd_q3:FuncData}(B_q3:Binds K fd_q3 ["self","sign"] []) (G_q3:FnOk P w K mg base CX0 1 ad.q3 fd_q3 ["self","sign"] (spMay 1)):FnOk P w K mg base CX0 5 ad.q6 fd ["floor","carrier"] (z458 ad):=by
 refine F.ok sc_q6 (fun vs H Q E h=>?_) (fun cdv A outer s H vs Q E HR h=>?_)
 ·obtain⟨p,fl,i,n,w,h,sg,rfl,_⟩:=h
  rfl
 ·obtain⟨p,fl,i,n,w,h,sg,rfl,hc,hi,F0,g,hq⟩:=h
  have ND:=sc_q6.nd
  have HU0:=HR.units0
  have HU:=HR.units
  have hA:=HR.hd
  have hz:(100000:Nat)≤sizeLine:=by rw [sizeLine_eq];decide
  refine⟨_,(pss_one (ps_ret (z89 (z8.of (osc:=defScope s_q6) (tn:=["cell"]) (cn:=["carrier","floor"]) (caps:=[1,0]) rfl rfl (by decide +kernel) (by decide +kernel) (by decide +kernel) (by decide +kernel) rfl) (calm0 rfl)  (pi_list (pe_meth0 (pe_var (i:=0) (x:="floor") rfl (vis_of z585) z53 z52) T.cl_Floor T.m_q17 G_q17 (HR.mono (by decide)) B_q17 .nil pass0))
 (fun _ _ _ _ _=>(pg_name (i:=0) (show (["cell","carrier","floor"]:List Str).Nodup by decide +kernel) rfl (Or.inl rfl))) (fun _ _ _ _ _=>(z77 (pt_val (z132 (k:=1) (pv 1) (z5 T.cl_Cart T.m_Cart_may_stand G_q2 (by decide) B_q2 (z5 T.cl_Crawler T.m_q3 G_q3 (by decide) B_q3 (z5 T.cl_Runner T.m_Runner_may_stand G_q2 (by decide) B_q2 (z5 T.cl_Carrier T.m_q2 G_q2 (by decide) B_q2 z111)))) (HR.mono (by decide)) (pa_cons (pe_meth (pv 2) T.cl_Floor T.m_q24 G_q24 (HR.mono (by decide)) B_q24 .nil pass0 (pa_cons (pv 0) pa_nil (stp rfl)) (hst:=stp rfl) (hpl:=anp rfl)) pa_nil (stp rfl)) (hst:=stp rfl) (hpl:=anp rfl))))) (fun _ _ _ _ _=>(pv 0))))),?_⟩
  obtain⟨dx,l0,h1,h2⟩:=id F0.ob
  obtain⟨dp,hp⟩:=id hc
  obtain⟨jm,hjm,ejm⟩:=e_may (ad:=ad) i hi
  have nm:(putF "full" (V.int n) []).lookup ("may_stand":Str)=none:=l_no n (by decide +kernel)
  have nst:(putF "full" (V.int n) []).lookup ("steps":Str)=none:=l_no n (by decide +kernel)
  have ns:(flds w h l0 sg).lookup ("sign":Str)=none:=nofl (by decide +kernel) (by decide +kernel) (by decide +kernel) (by decide +kernel)
  have nce:(flds w h l0 sg).lookup ("cells":Str)=none:=nofl (by decide +kernel) (by decide +kernel) (by decide +kernel) (by decide +kernel)
  have nch:(flds w h l0 sg).lookup ("chargers":Str)=none:=nofl (by decide +kernel) (by decide +kernel) (by decide +kernel) (by decide +kernel)
  walk_at "RD"
  refine⟨_,_,h1,nce,fl,w,h,sg,rfl,F0,g,fun r H1 nr s1 hr=>?_⟩
  refine⟨r,rfl,⟨_,SqL.of hr⟩,z33 (src_list (SqL.of hr)) (stV i sg) (fun v=>v) (fun y hy Q' hh=>?_) (fun y hy _ Q' hh=>by walk_at "RD";exact hh) (by rw [List.length_map];have:=z264 g;omega) (fun D nD=>?_)⟩
  ·obtain⟨c,hcm,rfl⟩:=List.mem_map.mp hy
   have cF:=z196 hcm
   walk_at "RD"
   refine⟨p,dp,_,(clsOf ad i,spMay jm),hjm,rfl,s1 _ _ hp,nm,_,_,s1 _ _ h1,ns,fl,w,h,sg,c,rfl,F0.same s1,g,cF.1,cF.2,_,_,rfl,_,rfl,?_⟩
   rw [ejm]
   exact hh
  ·rw [z288]
   exact hq D _ (s1.free nD) (s1.trans (zz0 nD)) upd_same
theorem sc_q21:FnScope ["floor","carrier","into","cell","other","cost"] ["floor","carrier"] (defScope s_q21):=⟨rfl,rfl,rfl,by decide +kernel,rfl,by decide +kernel,by decide +kernel⟩
set_option maxHeartbeats 4000000 in
theorem ok_q21 {fd:FuncData}(F:Fun K "steps_into" "steps_into" s_q21 ad.q21 fd) (T:Txt K mg ad){fd_q17:FuncData}(B_q17:Binds K fd_q17 ["self"] []) (G_q17:FnOk P w K mg base CX0 4 ad.q17 fd_q17 ["self"] (z504 ad.C_Floor)){fd_q6:FuncData}(B_q6:Binds K fd_q6 ["floor","carrier"] []) (G_q6:FnOk P w K mg base CX0 5 ad.q6 fd_q6 ["floor","carrier"] (z458 ad)){fd_q8:FuncData}(B_q8:Binds K fd_q8 ["self","floor","cell"] []) (G_q8:FnOk P w K mg base CX0 5 ad.q8 fd_q8 ["self","floor","cell"] (z361 ad)):FnOk P w K mg base CX0 6 ad.q21 fd ["floor","carrier"] (spInto ad):=by
 refine F.ok sc_q21 (fun vs H Q E h=>?_) (fun cdv A outer s H vs Q E HR h=>?_)
 ·obtain⟨p,fl,i,n,w,h,sg,rfl,_⟩:=h
  rfl
 ·obtain⟨p,fl,i,n,w,h,sg,rfl,hc,hi,F0,g,hq⟩:=h
  have ND:=sc_q21.nd
  have HU0:=HR.units0
  have HU:=HR.units
  have hA:=HR.hd
  have hz:(100000:Nat)≤sizeLine:=by rw [sizeLine_eq];decide
  refine⟨_,(pss_cons (ps_set (i:=2) ND rfl (loc_of (Or.inl z399)) pe_dnewK)
 (pss_cons (ps_for PassesOwn.never (calm0 rfl) (pi_list (pe_meth0 (pe_var (i:=0) (x:="floor") rfl (vis_of z235) z53 z52) T.cl_Floor T.m_q17 G_q17 (HR.mono (by decide)) B_q17 .nil pass0)) (pg_name (i:=3) ND rfl (loc_of (Or.inl z312)))
 (pss_one (ps_dput (hu1 HU) (pe_var (i:=2) (x:="into") rfl (vis_of z271) d_into e_into) (pe_var (i:=3) (x:="cell") rfl (vis_of z289) d_cell e_cell) (pe_lst pa_nil) rfl)))
 (pss_cons (ps_for PassesOwn.never (calm0 rfl) (pi_list (pe_call G_q6 (HR.mono (by decide)) (gl_of z767) T.mg_q6 T.k_q6 B_q6 .nil pass0 (pa_cons (pe_var (i:=0) (x:="floor") rfl (vis_of z235) z53 z52) (pa_cons (pe_var (i:=1) (x:="carrier") rfl (vis_of z245) z112 z107) pa_nil (stp rfl)) (stp rfl)) (hdb:=d_q6) (he:=stp rfl) (hpl:=anp rfl))) (pg_name (i:=3) ND rfl (loc_of (Or.inl z312)))
 (pss_one (ps_for PassesOwn.never (calm0 rfl) (pi_list (z132 (k:=5) (pe_var (i:=1) (x:="carrier") rfl (vis_of z245) z112 z107) (z5 T.cl_Cart T.m_Cart_steps G_q8 (by decide) B_q8 (z5 T.cl_Crawler T.m_Crawler_steps G_q8 (by decide) B_q8 (z5 T.cl_Runner T.m_Runner_steps G_q8 (by decide) B_q8 (z5 T.cl_Carrier T.m_q8 G_q8 (by decide) B_q8 z111)))) (HR.mono (by decide)) (pa_cons (pe_var (i:=0) (x:="floor") rfl (vis_of z235) z53 z52) (pa_cons (pe_var (i:=3) (x:="cell") rfl (vis_of z289) d_cell e_cell) pa_nil (stp rfl)) (stp rfl)) (hst:=stp rfl) (hpl:=anp rfl))) (pg_tup (n:=2) (calm0 rfl) (pgs_cons (pg_name (i:=4) ND rfl (loc_of (Or.inl z340))) (pgs_cons (pg_name (i:=5) ND rfl (loc_of (Or.inl z430))) pgs_nil)))
 (pss_one (ps_expr (pe_bm PySem.F.plainAttrs_list PySem.F.slot_list_append PySem.F.type_list_append mt_append (pe_dget (hu1 HU) (pe_var (i:=2) (x:="into") rfl (vis_of z271) d_into e_into) (pe_var (i:=4) (x:="other") rfl (vis_of z542) z202 z218) (fun _ _=>rfl)) (pa_cons (pe_tup (pa_cons (pe_var (i:=3) (x:="cell") rfl (vis_of z289) d_cell e_cell) (pa_cons (pe_var (i:=5) (x:="cost") rfl (vis_of z664) d_cost e_cost) pa_nil (stp rfl)) (stp rfl))) pa_nil (stp rfl))))))))
 (pss_one (ps_ret (pe_var (i:=2) (x:="into") rfl (vis_of z271) d_into e_into)))))),?_⟩
  obtain⟨dx,l0,h1,h2⟩:=id F0.ob
  obtain⟨dp,hp⟩:=id hc
  obtain⟨jm,hjm,ejm⟩:=e_may (ad:=ad) i hi
  have nm:(putF "full" (V.int n) []).lookup ("may_stand":Str)=none:=l_no n (by decide +kernel)
  have nst:(putF "full" (V.int n) []).lookup ("steps":Str)=none:=l_no n (by decide +kernel)
  have ns:(flds w h l0 sg).lookup ("sign":Str)=none:=nofl (by decide +kernel) (by decide +kernel) (by decide +kernel) (by decide +kernel)
  have nce:(flds w h l0 sg).lookup ("cells":Str)=none:=nofl (by decide +kernel) (by decide +kernel) (by decide +kernel) (by decide +kernel)
  have nch:(flds w h l0 sg).lookup ("chargers":Str)=none:=nofl (by decide +kernel) (by decide +kernel) (by decide +kernel) (by decide +kernel)
  have lc:=z264 g
  refine y3 (fun σ H'=>∃ d,H d=none∧Same H H'∧H' d=some (.dK [])∧σ=[some (V.ref fl),some (V.ref p),some (V.ref d),none,none,none]) (fun nx hk=>?_) ?_
  ·walk_at "RD"
   exact fun d nd=>hk _ _ ⟨d,nd,zz0 nd,upd_same,rfl⟩
  rintro σ H1 ⟨d,nd,s1,hd,rfl⟩
  refine y3 (fun σ H'=>∃ (ls:List (Int × Addr)) (x3:Option V),Same H H'∧IntoAt H' d sg ls (fun _=>[])∧(∀ q∈ls,H q.2=none)∧σ=[some (V.ref fl),some (V.ref p),some (V.ref d),x3,none,none]) (fun nx hk=>?_) ?_
  ·walk_at "RD"
   refine⟨_,_,s1 _ _ h1,nce,fl,w,h,sg,rfl,F0.same s1,g,fun r H2 nr s2 hr=>⟨r,rfl,⟨_,SqL.of hr⟩,for_list (K:=K) (a:=r) (xs:=(cellsOf sg).map V.int) (fun j σ H'=>∃ (ls:List (Int × Addr)) (x3:Option V),Same H H'∧H' r=some (.lst ((cellsOf sg).map V.int))∧H' d=some (.dK (ls.map fun q=>((Sum.inl q.1:Key),V.ref q.2)))∧ls.map (·.1)=(cellsOf sg).take j∧(ls.map (·.2)).Nodup∧(∀ q∈ls,H' q.2=some (.lst []))∧(∀ q∈ls,H q.2=none)∧σ=[some (V.ref fl),some (V.ref p),some (V.ref d),x3,none,none]) ⟨[],none,s1.trans s2,hr,s2 _ _ hd,rfl,List.nodup_nil,by simp,by simp,rfl⟩ ?_ ?_ ?_⟩⟩
   ·rintro j σ H' _ ⟨ls,x3,_,hr',_⟩
    exact SqL.of hr'
   ·rintro j y σ H' hy ⟨ls,x3,s3,hr3,hd3,kl,nl,el,fl',rfl⟩
    rw [List.getElem?_map] at hy
    obtain⟨c,hcj,rfl⟩:=Option.map_eq_some_iff.mp hy
    walk_at "RD"
    refine⟨Nat.zero_le _,fun a na=>?_⟩
    have rd:r≠d:=ne_of hr3 hd3 (fun z=>by cases z)
    have ra:r≠a:=ne_of_none hr3 na
    have da:d≠a:=ne_of_none hd3 na
    have cn:¬ c∈ls.map (·.1):=by rw [kl];exact z460 (z203 sg) hcj
    have ll:ls.length≤100:=by
     have:=congrArg List.length kl
     rw [List.length_map,List.length_take] at this
     omega
    have vn:valV (ls.map fun q=>((Sum.inl q.1:Key),V.ref q.2)) (.inl c)=none:=by
     cases e:valV (ls.map fun q=>((Sum.inl q.1:Key),V.ref q.2)) (.inl c) with
     | none=>rfl
     | some v=>
      have:=valV_in e
      rw [List.map_map] at this
      obtain⟨q,hq1,hq2⟩:=List.mem_map.mp this
      exact absurd (List.mem_map.mpr ⟨q,hq1,Sum.inl.inj hq2⟩) cn
    have qa:∀ q∈ls,q.2≠a:=fun q hq' z=>by have:=el q hq';rw [z,na] at this;cases this
    have qd:∀ q∈ls,q.2≠d:=fun q hq'=>ne_of (el q hq') hd3 (fun z=>by cases z)
    have hd4:upd H' a (HO.lst []) d=some (.dK (ls.map fun q=>((Sum.inl q.1:Key),V.ref q.2))):=by rw [upd_ne da];exact hd3
    refine⟨_,DPut.k (k:=.inl c) hd4 (by rw [List.length_map];omega),fun b o e=>?_,?_,ls++[(c,a)],?_,?_,?_,fun q hq'=>?_,fun q hq'=>?_,_,rfl⟩
    ·rw [upd_ne (ne_of_none e nd),upd_ne (ne_of_none (s3 _ _ e) na)]
     exact s3 _ _ e
    ·rw [upd_ne rd,upd_ne ra]
     exact hr3
    ·rw [upd_same,putK_new _ vn,List.map_append]
     rfl
    ·rw [List.map_append,kl,List.take_add_one,hcj]
     rfl
    ·rw [List.map_append]
     exact nd_snoc nl fun z=>by
      obtain⟨q,hq1,hq2⟩:=List.mem_map.mp z
      exact qa q hq1 hq2
    ·rcases List.mem_append.mp hq' with z | z
     ·rw [upd_ne (qd q z),upd_ne (qa q z)]
      exact el q z
     ·rw [List.mem_singleton.mp z,upd_ne da.symm,upd_same]
    ·rcases List.mem_append.mp hq' with z | z
     ·exact fl' q z
     ·rw [List.mem_singleton.mp z]
      exact s3.free na
   ·rintro σ H' ⟨ls,x3,s3,hr3,hd3,kl,nl,el,fl',rfl⟩
    rw [List.length_map,List.take_length] at kl
    exact hk _ _ ⟨ls,x3,s3,⟨hd3,kl,nl,fun q hq'=>⟨[],el q hq',.nil⟩⟩,fl',rfl⟩
  rintro σ H2 ⟨ls,x3,s2,hI,fls,rfl⟩
  have stl:=z163 g i
  have qrs:∀ r,H2 r=none→∀ q∈ls,q.2≠r:=fun r nr q hq' z=>by
   obtain⟨us,e,_⟩:=hI.lists q hq'
   rw [z,nr] at e
   cases e
  refine y3 (fun σ H'=>∃ (x3 x4 x5:Option V),Same H H'∧IntoAt H' d sg ls (intoL i w sg (z4 i sg))∧σ=[some (V.ref fl),some (V.ref p),some (V.ref d),x3,x4,x5]) (fun nx hk=>?_) ?_
  ·walk_at "RD"
   refine⟨p,fl,i,n,w,h,sg,rfl,hc.same s2,hi,F0.same s2,g,fun r H3 nr s3 hr=>⟨r,rfl,⟨_,SqL.of hr⟩,for_list (K:=K) (a:=r) (xs:=(z4 i sg).map V.int) (fun j σ H'=>∃ (x3 x4 x5:Option V),Same H H'∧H' r=some (.lst ((z4 i sg).map V.int))∧IntoAt H' d sg ls (intoL i w sg ((z4 i sg).take j))∧σ=[some (V.ref fl),some (V.ref p),some (V.ref d),x3,x4,x5]) ⟨x3,none,none,s2.trans s3,hr,⟨s3 _ _ hI.at_,hI.keys,hI.nd,fun q hq'=>z233 s3 (hI.lists q hq')⟩,rfl⟩ ?_ ?_ ?_⟩⟩
   ·rintro j σ H' _ ⟨_,_,_,_,hr',_⟩
    exact SqL.of hr'
   ·rintro j y σ H' hy ⟨x3,x4,x5,s4,hr4,hI4,rfl⟩
    rw [List.getElem?_map] at hy
    obtain⟨c,hcj,rfl⟩:=Option.map_eq_some_iff.mp hy
    have qr:=qrs r nr
    have hcm:c∈z4 i sg:=List.mem_of_getElem? hcj
    have cF:=z196 (List.mem_filter.mp hcm).1
    have sl:=z222 (i:=i) (w:=w) (sg:=sg) (c:=c)
    walk_at "RD"
    refine⟨p,dp,_,(clsOf ad i,z361 ad),e_al4 i hi,rfl,s4 _ _ hp,nst,p,fl,i,n,w,h,sg,c,rfl,hc.same s4,hi,F0.same s4,g,cF,fun r2 H5 nr2 s5 ⟨ts,hts,pr⟩=>⟨r2,rfl,⟨_,SqL.of hts⟩,?_⟩⟩
    have lts:=Paired.length pr
    refine for_list (K:=K) (a:=r2) (xs:=ts.map V.ref) (fun j2 σ H'=>∃ (x4 x5:Option V),Same H H'∧H' r=some (.lst ((z4 i sg).map V.int))∧H' r2=some (.lst (ts.map V.ref))∧Paired (PairAt H') ts (z13 i w sg c)∧IntoAt H' d sg ls (fun o=>intoL i w sg ((z4 i sg).take j) o++into1 i w sg o c ((z13 i w sg c).take j2))∧(∀ q∈ls,q.2≠r2)∧σ=[some (V.ref fl),some (V.ref p),some (V.ref d),some (V.int c),x4,x5]) ⟨x4,x5,s4.trans s5,s5 _ _ hr4,hts,pr,⟨s5 _ _ hI4.at_,hI4.keys,hI4.nd,fun q hq'=>?_⟩,fun q hq' z=>?_,rfl⟩ ?_ ?_ ?_
    ·have:=z233 s5 (hI4.lists q hq')
     simpa [into1] using this
    ·obtain⟨us,e,_⟩:=hI4.lists q hq'
     rw [z,nr2] at e
     cases e
    ·rintro j2 σ H6 _ ⟨_,_,_,_,h6,_⟩
     exact SqL.of h6
    ·rintro j2 y σ H6 hy2 ⟨x4,x5,s6,hr6,hts6,pr6,hI6,qr2,rfl⟩
     rw [List.getElem?_map] at hy2
     obtain⟨t,ht,rfl⟩:=Option.map_eq_some_iff.mp hy2
     obtain⟨⟨o,kc⟩,hok,hto⟩:=Paired.at1 pr6 ht
     have hto:H6 t=some (.tup [.int o,.int kc]):=hto
     have om:o∈cellsOf sg:=z526 (List.mem_of_getElem? hok)
     obtain⟨ao,hao,hval⟩:=ls_get (o:=o) (ls:=ls) (by rw [hI6.keys];exact om)
     obtain⟨us,hus,pu⟩:=hI6.lists _ hao
     have lu:=Paired.length pu
     have b1:=z382 (i:=i) (w:=w) (sg:=sg) ((z4 i sg).take j) o
     have b2:=z492 (i:=i) (w:=w) (sg:=sg) (o:=o) (c:=c) ((z13 i w sg c).take j2)
     rw [List.length_take] at b1 b2
     simp only [List.length_append] at lu
     walk_at "RD"
     refine⟨_,SqT.of hto,rfl,_,_,rfl,_,_,rfl,rfl,V.ref ao,?_,.inl ⟨rfl,_,SqL.of hus⟩,by omega,fun t' nt'=>?_⟩
     ·have:=DGet.k (k:=.inl o) hI6.at_
      rw [hval] at this
      exact this
     ·have S:=zz0 (o:=HO.tup [V.int c,V.int kc]) nt'
      have hus':=S _ _ hus
      have tk:∀ {x:Addr}{ys:List V},H6 x=some (.tup ys)→upd (upd H6 t' (HO.tup [V.int c,V.int kc])) ao (HO.lst (us.map V.ref++[V.ref t'])) x=some (.tup ys):=fun{x} {ys} e=>by
       rw [upd_ne (ne_of (S _ _ e) hus' (fun z=>by cases z))]
       exact S _ _ e
      refine⟨ao,rfl,_,hus',by rw [List.length_map];omega,fun b u e=>?_,?_,?_,Paired.mapP pr6 fun _ _ z=>tk z,⟨?_,hI6.keys,hI6.nd,fun q hq'=>?_⟩,qr2,_,rfl⟩
      ·rw [upd_ne (ne_of_none e (fls _ hao))]
       exact S _ _ (s6 _ _ e)
      ·rw [upd_ne (qr _ hao).symm]
       exact S _ _ hr6
      ·rw [upd_ne (qr2 _ hao).symm]
       exact S _ _ hts6
      ·rw [upd_ne (ne_of (S _ _ hI6.at_) hus' (fun z=>by cases z))]
       exact S _ _ hI6.at_
      ·by_cases qa:q.2=ao
       ·have e:=nd_inj (f:=fun q:Int × Addr=>q.2) hI6.nd hq' hao qa
        subst e
        refine⟨us++[t'],by rw [upd_same,List.map_append];rfl,?_⟩
        show Paired _ _ (_++into1 i w sg o c _)
        rw [z400 hok,if_pos rfl,← List.append_assoc]
        refine Paired.snoc (Paired.mapP pu fun _ _ z=>tk z) ?_
        show upd _ ao _ t'=_
        rw [upd_ne (fun z=>by rw [z,hus] at nt';cases nt'),upd_same]
       ·have qo:q.1≠o:=fun z=>qa (by
         have e:=nd_inj (f:=fun q:Int × Addr=>q.1) (by rw [hI6.keys];exact(z203 sg).imp fun h=>by omega) hq' hao z
         rw [e])
        obtain⟨vs,hvs,pv⟩:=hI6.lists q hq'
        refine⟨vs,by rw [upd_ne qa];exact S _ _ hvs,?_⟩
        show Paired _ _ (_++into1 i w sg q.1 c _)
        rw [z400 hok,if_neg (fun z=>qo z.symm),List.append_nil]
        exact Paired.mapP pv fun _ _ z=>tk z
    ·rintro σ H6 ⟨x4,x5,s6,hr6,hts6,pr6,hI6,qr2,rfl⟩
     refine⟨s6,hr6,⟨hI6.at_,hI6.keys,hI6.nd,fun q hq'=>?_⟩,_,_,_,rfl⟩
     have:=hI6.lists q hq'
     rw [List.length_map,lts,List.take_length] at this
     rw [z614 hcj]
     exact this
   ·rintro σ H' ⟨x3,x4,x5,s4,hr4,hI4,rfl⟩
    rw [List.length_map,List.take_length] at hI4
    exact hk _ _ ⟨x3,x4,x5,s4,hI4,rfl⟩
  rintro σ H3 ⟨x3,x4,x5,s3,hI3,rfl⟩
  walk_at "RD"
  exact hq d ls H3 nd s3 hI3
theorem sc_q35:FnScope ["floor","carrier","goals","into","costs","heap","goal","taken","cell","other","cost"] ["floor","carrier","goals"] (defScope s_q35):=⟨rfl,rfl,rfl,by decide +kernel,rfl,by decide +kernel,by decide +kernel⟩
set_option maxHeartbeats 4000000 in
local macro_rules | `(tactic| walk_at "RDS")=>`(tactic| simp only [tNever,z753,iRng1,gTup,gCons,gNil,rJoin,tMethV,tYes,tDGet,tDIn,tDNotIn,tDNewK,sDPut,rLtT,tThawE,iDictK,rEqK,z485,iZip,tAsg,tOp,tUn,tVar,tC,rI0,rI,rU,tTest,tIfS,tNext,tRet,tDrop,gName,tCB,tCons,tNil,tAndV,tOrV,tNotV,tAnd,tOr,tNot,tB,tIf,tChain,tCall,tBM,tBM0,tLst,tTup,tNoPart,tPart,tSlS,tSl,rSlL,rIn,rIxL,rIxT,rIxS,rEq,rNe,scal,rAppend,rPop,tFld,sFld,tMeth,tMake,tDNewK,gSub,rSetL,tComp,sComp,capσ,iStr,iList,rEqD,cxK,cxA,cxKc,cxAc,L2.start,List.map_cons,List.map_nil,List.length_cons,List.length_nil,List.replicate_succ,List.replicate_zero,List.cons_append,List.nil_append,List.append_nil,Nat.reduceAdd,Nat.reduceSub,List.set_cons_zero,List.set_cons_succ,List.getElem?_cons_zero,List.getElem?_cons_succ,Option.getD_some,Option.getD_none,Option.some.injEq,V.int.injEq,V.ref.injEq,V.bl.injEq,V.str.injEq,V.ty.injEq,exists_eq_left',exists_eq_left,exists_and_left,and_assoc,List.cons.injEq,and_true,true_and,decide_eq_true_eq,Bool.not_eq_true',decide_eq_false_iff_not,Bool.false_eq_true,if_false,if_true,reduceIte,Bool.not_true,Bool.not_false,beq_self_eq_true])
theorem ok_q35 {fd:FuncData}(F:Fun K "costs_to" "costs_to" s_q35 ad.q35 fd) (T:Txt K mg ad){fd_q21:FuncData}(B_q21:Binds K fd_q21 ["floor","carrier"] []) (G_q21:FnOk P w K mg base CX0 6 ad.q21 fd_q21 ["floor","carrier"] (spInto ad)){fd_q26:FuncData}(B_q26:Binds K fd_q26 ["self"] []) (G_q26:FnOk P w K mg base CX0 1 ad.q26 fd_q26 ["self"] (z593 ad)){fd_q34:FuncData}(B_q34:Binds K fd_q34 ["self","thing"] []) (G_q34:FnOk P w K mg base CX0 3 ad.q34 fd_q34 ["self","thing"] (spHPut ad)){fd_q28:FuncData}(B_q28:Binds K fd_q28 ["self"] []) (G_q28:FnOk P w K mg base CX0 1 ad.q28 fd_q28 ["self"] (spSize ad)){fd_q27:FuncData}(B_q27:Binds K fd_q27 ["self"] []) (G_q27:FnOk P w K mg base CX0 3 ad.q27 fd_q27 ["self"] (spTake ad)):FnOk P w K mg base CX0 7 ad.q35 fd ["floor","carrier","goals"] (z415 ad):=by
 refine F.ok sc_q35 (fun vs H Q E h=>?_) (fun cdv A outer s H vs Q E HR h=>?_)
 ·obtain⟨p,fl,l,i,n,w,h,sg,gs,rfl,_⟩:=h
  rfl
 ·obtain⟨p,fl,l,i,n,w,h,sg,gs,rfl,hc,hi,F0,g,hL,gl,gst,hq⟩:=h
  have ND:=sc_q35.nd
  have HU0:=HR.units0
  have HU:=HR.units
  have hA:=HR.hd
  have hz:(100000:Nat)≤sizeLine:=by rw [sizeLine_eq];decide
  refine⟨_,(pss_cons (ps_set (i:=3) ND rfl (loc_of (Or.inl z407)) (pe_call G_q21 (HR.mono (by decide)) (gl_of z706) T.mg_q21 T.k_q21 B_q21 .nil pass0 (pa_cons (pe_var (i:=0) (x:="floor") rfl (vis_of z541) z53 z52) (pa_cons (pe_var (i:=1) (x:="carrier") rfl (vis_of z402) z112 z107) pa_nil (stp rfl)) (stp rfl)) (hdb:=d_q21) (he:=stp rfl) (hpl:=anp rfl)))
 (pss_cons (ps_set (i:=4) ND rfl (loc_of (Or.inl z342)) pe_dnewK)
 (pss_cons (ps_set (i:=5) ND rfl (loc_of (Or.inl z410)) (pe_make0 T.mk_Heap G_q26 (HR.mono (by decide)) (gl_of z651) T.mg_Heap B_q26 .nil pass0 (hdb:=d_Heap)))
 (pss_cons (ps_for PassesOwn.never (calm0 rfl) (pi_list (pe_var (i:=2) (x:="goals") rfl (vis_of z543) z743 z754)) (pg_name (i:=6) ND rfl (loc_of (Or.inl z425)))
 (pss_one (ps_expr (pe_meth (pe_var (i:=5) (x:="heap") rfl (vis_of z204) d_heap e_heap) T.cl_Heap T.m_q34 G_q34 (HR.mono (by decide)) B_q34 .nil pass0 (pa_cons (pe_tup (pa_cons pe_int (pa_cons (pe_var (i:=6) (x:="goal") rfl (vis_of z657) d_goal e_goal) pa_nil (stp rfl)) (stp rfl))) pa_nil (stp rfl)) (hst:=stp rfl) (hpl:=anp rfl)))))
 (pss_cons (ps_while PassesOwn.never (pt_cmpR op_gt (pe_meth0 (pe_var (i:=5) (x:="heap") rfl (vis_of z204) d_heap e_heap) T.cl_Heap T.m_q28 G_q28 (HR.mono (by decide)) B_q28 .nil pass0) pe_int (nomark _))
 (pss_cons (ps_set (i:=7) ND rfl (loc_of (Or.inl z366)) (pe_meth0 (pe_var (i:=5) (x:="heap") rfl (vis_of z204) d_heap e_heap) T.cl_Heap T.m_q27 G_q27 (HR.mono (by decide)) B_q27 .nil pass0))
 (pss_cons (ps_set (i:=8) ND rfl (loc_of (Or.inl z403)) (pe_ix ix_tup (pe_var (i:=7) (x:="taken") rfl (vis_of z227) z570 z629) pe_int (fun _ _=>rfl)))
 (pss_one (ps_if (pt_cmp (pc_dnotin (hu1 HU) (pe_var (i:=8) (x:="cell") rfl (vis_of z301) d_cell e_cell) (pe_var (i:=4) (x:="costs") rfl (vis_of z237) z360 z374)) (by with_unfolding_all rfl))
 (pss_cons (ps_dput (hu1 HU) (pe_var (i:=4) (x:="costs") rfl (vis_of z237) z360 z374) (pe_var (i:=8) (x:="cell") rfl (vis_of z301) d_cell e_cell) (pe_ix ix_tup (pe_var (i:=7) (x:="taken") rfl (vis_of z227) z570 z629) pe_int (fun _ _=>rfl)) rfl)
 (pss_one (ps_for PassesOwn.never (calm0 rfl) (pi_list (pe_dget (hu1 HU) (pe_var (i:=3) (x:="into") rfl (vis_of z668) d_into e_into) (pe_var (i:=8) (x:="cell") rfl (vis_of z301) d_cell e_cell) (fun _ _=>rfl))) (pg_tup (n:=2) (calm0 rfl) (pgs_cons (pg_name (i:=9) ND rfl (loc_of (Or.inl z347))) (pgs_cons (pg_name (i:=10) ND rfl (loc_of (Or.inl z449))) pgs_nil)))
 (pss_one (ps_expr (pe_meth (pe_var (i:=5) (x:="heap") rfl (vis_of z204) d_heap e_heap) T.cl_Heap T.m_q34 G_q34 (HR.mono (by decide)) B_q34 .nil pass0 (pa_cons (pe_tup (pa_cons (pe_op op_add (pe_ix ix_tup (pe_var (i:=7) (x:="taken") rfl (vis_of z227) z570 z629) pe_int (fun _ _=>rfl)) (pe_var (i:=10) (x:="cost") rfl (vis_of z646) d_cost e_cost)) (pa_cons (pe_var (i:=9) (x:="other") rfl (vis_of z536) z202 z218) pa_nil (stp rfl)) (stp rfl))) pa_nil (stp rfl)) (hst:=stp rfl) (hpl:=anp rfl)))))))
 pss_nil)))))
 (pss_one (ps_ret (pe_var (i:=4) (x:="costs") rfl (vis_of z237) z360 z374)))))))),?_⟩
  have stl:=z163 g i
  refine y3 (fun σ H'=>∃ (d:Addr) (ls:List (Int × Addr)),H d=none∧Same H H'∧IntoAt H' d sg ls (intoL i w sg (z4 i sg))∧σ=[some (V.ref fl),some (V.ref p),some (V.ref l),some (V.ref d),none,none,none,none,none,none,none]) (fun nx hk=>?_) ?_
  ·walk_at "RD"
   exact⟨p,fl,i,n,w,h,sg,rfl,hc,hi,F0,g,fun r ls H' nr s hI=>hk _ _ ⟨r,ls,nr,s,hI,rfl⟩⟩
  rintro σ H1 ⟨d,ls,nd,s1,hI,rfl⟩
  refine y3 (fun σ H'=>∃ cd,H1 cd=none∧H'=upd H1 cd (.dK [])∧σ=[some (V.ref fl),some (V.ref p),some (V.ref l),some (V.ref d),some (V.ref cd),none,none,none,none,none,none]) (fun nx hk=>?_) ?_
  ·walk_at "RD"
   exact fun cd ncd=>hk _ _ ⟨cd,ncd,rfl,rfl⟩
  rintro σ H2 ⟨cd,ncd,rfl,rfl⟩
  have s2:Same H1 (upd H1 cd (.dK [])):=zz0 ncd
  refine y3 (fun σ H'=>∃ hp hl,upd H1 cd (.dK []) hp=none∧upd H1 cd (.dK []) hl=none∧Same (upd H1 cd (.dK [])) H'∧HeapAt ad H' hp hl []∧σ=[some (V.ref fl),some (V.ref p),some (V.ref l),some (V.ref d),some (V.ref cd),some (V.ref hp),none,none,none,none,none]) (fun nx hk=>?_) ?_
  ·walk_at "RD"
   intro x dx nx' ndx ne
   refine⟨x,dx,rfl,upd_same,fun hl nl=>⟨rfl,?_⟩⟩
   have lx:hl≠x:=fun z=>by rw [z,upd_same] at nl;cases nl
   have ld:hl≠dx:=fun z=>by rw [upd_ne lx,z,upd_same] at nl;cases nl
   have nl0:upd H1 cd (.dK []) hl=none:=by rw [upd_ne lx,upd_ne ld] at nl;exact nl
   refine hk _ _ ⟨x,hl,nx',nl0,fun b o e=>?_,⟨⟨dx,upd_same⟩,?_⟩,rfl⟩
   ·rw [upd_ne (ne_of_none e nx'),upd_ne (ne_of_none e nl0),upd_ne (ne_of_none e nx'),upd_ne (ne_of_none e ndx)]
    exact e
   ·rw [upd_ne lx,upd_same]
    rfl
  rintro σ H3 ⟨hp,hl,nhp,nhl,s3,hA,rfl⟩
  have s13:Same H1 H3:=s2.trans s3
  have s03:Same H H3:=s1.trans s13
  have cd3:H3 cd=some (.dK []):=s3 _ _ upd_same
  have nhl1:H1 hl=none:=s2.free nhl
  have ncd0:H cd=none:=s1.free ncd
  have nhl0:H hl=none:=s1.free nhl1
  have dcd:d≠cd:=ne_of_none hI.at_ ncd
  have dhl:d≠hl:=ne_of_none hI.at_ nhl1
  have qne:∀ q∈ls,q.2≠hl∧q.2≠cd:=fun q hq'=>by
   obtain⟨us,e,_⟩:=hI.lists q hq'
   exact⟨ne_of_none e nhl1,ne_of_none e ncd⟩
  have tne:∀ x ys,H3 x=some (.tup ys)→x≠hl∧x≠cd:=fun x ys e=>⟨ne_of e hA.2 (fun z=>by cases z),ne_of e cd3 (fun z=>by cases z)⟩
  have hI3:IntoAt H3 d sg ls (intoL i w sg (z4 i sg)):=⟨s13 _ _ hI.at_,hI.keys,hI.nd,fun q hq'=>z233 s13 (hI.lists q hq')⟩
  have into_:∀ H',SameC hl cd H3 H'→IntoAt H' d sg ls (intoL i w sg (z4 i sg)):=fun H' s=>hI3.keep s (fun _ _ _ _=>trivial) dhl dcd qne tne
  have lhl:l≠hl:=ne_of_none hL nhl0
  have lcd:l≠cd:=ne_of_none hL ncd0
  have gl3:∀ H',SameC hl cd H3 H'→H' l=some (.lst (gs.map V.int)):=fun H' s=>s _ _ (s03 _ _ hL) lhl lcd
  refine y3 (fun σ H'=>∃ (ts:List Addr) (k:Addr→List Int) (x6:Option V),SameC hl cd H3 H'∧H' cd=some (.dK [])∧HS ad H' hp hl ts k∧ts.length≤200∧(∀ n c,Itm k ts n c↔n=0∧c∈gs)∧σ=[some (V.ref fl),some (V.ref p),some (V.ref l),some (V.ref d),some (V.ref cd),some (V.ref hp),x6,none,none,none,none]) (fun nx hk=>?_) ?_
  ·walk_at "RD"
   refine⟨⟨_,SqL.of (s03 _ _ hL)⟩,for_list (K:=K) (a:=l) (xs:=gs.map V.int) (fun j σ H'=>∃ (ts:List Addr) (k:Addr→List Int) (x6:Option V),SameC hl cd H3 H'∧H' cd=some (.dK [])∧HS ad H' hp hl ts k∧ts.length=j∧(∀ n c,Itm k ts n c↔n=0∧c∈gs.take j)∧σ=[some (V.ref fl),some (V.ref p),some (V.ref l),some (V.ref d),some (V.ref cd),some (V.ref hp),x6,none,none,none,none]) ⟨[],fun _=>[],none,fun _ _ e _ _=>e,cd3,⟨hA,(fun t ht=>by cases ht),(fun i x y _ hx _=>by simp at hx),(fun t ht=>by cases ht)⟩,rfl,fun n c=>⟨(fun⟨t,ht,_⟩=>by cases ht),(fun h=>by simp at h)⟩,rfl⟩ ?_ ?_ ?_⟩
   ·rintro j σ H' _ ⟨ts,k,x6,s,_⟩
    exact SqL.of (gl3 H' s)
   ·rintro j y σ H' hy ⟨ts,k,x6,sC,hcd,S,lt,it,rfl⟩
    rw [List.getElem?_map] at hy
    obtain⟨c,hcj,rfl⟩:=Option.map_eq_some_iff.mp hy
    have lj:=(List.getElem?_eq_some_iff.mp hcj).1
    obtain⟨⟨dx,e1⟩,e2⟩:=S.hh
    walk_at "RD"
    refine⟨_,_,e1,h_no hl (by decide +kernel),by omega,fun t nt=>?_⟩
    obtain⟨p1,p2,p3⟩:=S.prep nt 0 c
    refine⟨hp,hl,t,ts,kput k t 0 c,rfl,p1,p2,by omega,p3,fun us pu ho=>?_⟩
    have S2:=S.put nt pu ho
    have lu:=pu.length_eq
    have chl:cd≠hl:=ne_of hcd e2 (fun z=>by cases z)
    refine⟨fun b o e n1 n2=>?_,?_,us,kput k t 0 c,S2,by rw [lu,List.length_cons,lt],fun n' c'=>?_,_,rfl⟩
    ·have:=sC _ _ e n1 n2
     rw [upd_ne n1]
     exact(zz0 nt) _ _ this
    ·rw [upd_ne chl]
     exact(zz0 nt) _ _ hcd
    ·rw [z759 S nt pu,it,List.take_add_one,hcj]
     simp only [Option.toList_some,List.mem_append,List.mem_singleton]
     constructor
     ·rintro(⟨h1,h2⟩ | ⟨h1,h2⟩)
      ·exact⟨h1,.inl h2⟩
      ·exact⟨h1,.inr h2⟩
     ·rintro⟨h1,h2 | h2⟩
      ·exact .inl ⟨h1,h2⟩
      ·exact .inr ⟨h1,h2⟩
   ·rintro σ H' ⟨ts,k,x6,sC,hcd,S,lt,it,rfl⟩
    rw [List.length_map] at lt it
    rw [List.take_length] at it
    exact hk _ _ ⟨ts,k,x6,sC,hcd,S,by omega,it,rfl⟩
  rintro σ H4 ⟨ts0,k0,x6,sC4,hcd4,S4,lt4,it4,rfl⟩
  refine y3 (fun σ H'=>∃ (k:Addr→List Int) (kvs:List (Int × Int)) (x6 x7 x8 x9 x10:Option V),CS ad i w sg gs H3 H' cd hp hl [] k kvs∧σ=[some (V.ref fl),some (V.ref p),some (V.ref l),some (V.ref d),some (V.ref cd),some (V.ref hp),x6,x7,x8,x9,x10]) (fun nx hk=>?_) ?_
  ·refine⟨fun m σ H'=>CW ad i w sg gs H3 fl p l d cd hp hl m σ H',⟨_,ts0,k0,[],x6,none,none,none,none,rfl,⟨sC4,hcd4,S4,List.nodup_nil,by rw [z746];simp,by rw [z746];omega,⟨(fun c n e=>by cases e),fun n c hi=>?_,fun gg hg=>.inr ((it4 0 gg).mpr ⟨rfl,hg⟩),(fun o n c w e=>by cases e)⟩,fun m c hi=>gst c ((it4 m c).mp hi).2⟩,rfl⟩,?_⟩
   ·obtain⟨rfl,hg⟩:=(it4 n c).mp hi
    exact .goal hg
   rintro m σ H' ⟨ts,k,kvs,x6,x7,x8,x9,x10,rfl,cs,rfl⟩
   obtain⟨⟨dx,e1⟩,e2⟩:=cs.hs.hh
   walk_at "RDS"
   refine⟨_,_,e1,h_no hl (by decide +kernel),hp,hl,ts,rfl,cs.hs.hh,?_⟩
   by_cases b:0 < ((ts.length:Nat):Int)
   ·refine⟨_,rfl,?_⟩
    rw [if_pos b]
    refine⟨fun σ' H''=>∃ m',m' < ts.length + 401 * rem (z4 i sg) kvs∧CW ad i w sg gs H3 fl p l d cd hp hl m' σ' H'',fun _ _ y=>y,?_⟩
    have room:=cs.room
    have cnt:=cs.cnt
    have sC:=cs.same
    have chl:cd≠hl:=ne_of cs.cd_ e2 (fun z=>by unfold costsD at z;cases z)
    refine y3 (fun σ H''=>∃ (r:Addr) (us:List Addr),(r::us).Perm ts∧(∀ t∈ts,Le (k r) (k t))∧Hok k us∧H''=upd H' hl (.lst (us.map V.ref))∧σ=[some (V.ref fl),some (V.ref p),some (V.ref l),some (V.ref d),some (V.ref cd),some (V.ref hp),x6,some (V.ref r),x8,x9,x10]) (fun nx' hk'=>?_) ?_
    ·walk_at "RD"
     exact⟨_,_,e1,h_no hl (by decide +kernel),hp,hl,ts,k,rfl,cs.hs.hh,cs.hs.hk,(fun z=>by rw [z] at b;simp at b),by omega,cs.hs.ho,fun r us pu hm ho=>hk' _ _ ⟨r,us,pu,hm,ho,rfl,rfl⟩⟩
    rintro σ H6 ⟨r,us,pu,hmin,ho,rfl,rfl⟩
    have rm:r∈ts:=pu.mem_iff.mp List.mem_cons_self
    have lu:=pu.length_eq
    rw [List.length_cons] at lu
    obtain⟨nr,c,hkr⟩:=cs.hs.two r rm
    have hr:=cs.hs.hk r rm
    rw [hkr] at hr
    have S6:=cs.hs.take pu ho
    have hr6:upd H' hl (.lst (us.map V.ref)) r=some (.tup [.int nr,.int c]):=by rw [upd_ne (ne_of hr e2 (fun z=>by cases z))];exact hr
    have cd6:upd H' hl (.lst (us.map V.ref)) cd=some (costsD kvs):=by rw [upd_ne chl];exact cs.cd_
    have sC6:SameC hl cd H3 (upd H' hl (.lst (us.map V.ref))):=fun b o e n1 n2=>by rw [upd_ne n1];exact sC _ _ e n1 n2
    have itr:Itm k ts nr c:=⟨r,rm,hkr⟩
    have cC:c∈z4 i sg:=cs.inC nr c itr
    have hmn:∀ m x,Itm k ts m x→nr≤m:=fun m x ⟨t,ht,e⟩=>by
     have:=hmin t ht
     rw [hkr,e] at this
     exact z814 this
    have i1:∀ m x,Itm k us m x→Itm k ts m x:=fun m x ⟨t,ht,e⟩=>⟨t,pu.mem_iff.mp (List.mem_cons_of_mem _ ht),e⟩
    have i2:∀ m x,Itm k ts m x→Itm k us m x∨x=c:=fun m x ⟨t,ht,e⟩=>by
     rcases List.mem_cons.mp (pu.mem_iff.mpr ht) with z | z
     ·rw [z,hkr] at e
      cases e
      exact .inr rfl
     ·exact .inl ⟨t,z,e⟩
    refine y3 (fun σ H''=>H''=upd H' hl (.lst (us.map V.ref))∧σ=[some (V.ref fl),some (V.ref p),some (V.ref l),some (V.ref d),some (V.ref cd),some (V.ref hp),x6,some (V.ref r),some (V.int c),x9,x10]) (fun nx' hk'=>?_) ?_
    ·walk_at "RD"
     exact⟨_,SqT.of hr6,_,rfl,hk' _ _ ⟨rfl,rfl⟩⟩
    rintro σ H7 ⟨rfl,rfl⟩
    walk_at "RDS"
    have dg:=DGet.k (k:=.inl c) (show upd H' hl (.lst (us.map V.ref)) cd=some (.dK (kvs.map fun q=>((Sum.inl q.1:Key),V.int q.2))) from cd6)
    rw [val_cv] at dg
    refine⟨_,dg,?_⟩
    cases ec:cvOf kvs c with
    | some n0=>
     rw [if_neg (by simp)]
     exact⟨us.length + 401 * rem (z4 i sg) kvs,by omega,us,k,kvs,_,_,_,_,_,rfl,⟨sC6,cd6,S6,cs.nd,cnt,by omega,cs.inv.drop (c:=c) (by rw [ec];rfl) i1 i2,fun m x hi=>cs.inC m x (i1 m x hi)⟩,rfl⟩
    | none=>
     rw [if_pos (by simp)]
     have cn:=z752.mp ec
     have ra:=z750 (n:=nr) (z761 i sg) cC cn
     have lk:kvs.length≤100:=by omega
     have vn:valV (kvs.map fun q=>((Sum.inl q.1:Key),V.int q.2)) (.inl c)=none:=by rw [val_cv,ec];rfl
     have hd6:=(into_ _ sC6)
     have ocell:c∈cellsOf sg:=(List.mem_filter.mp cC).1
     obtain⟨ao,hao,hval⟩:=ls_get (o:=c) (ls:=ls) (by rw [hI.keys];exact ocell)
     have aohl:=(qne _ hao).1
     have aocd:=(qne _ hao).2
     refine y3 (fun σ H''=>H''=upd (upd H' hl (.lst (us.map V.ref))) cd (costsD (kvs++[(c,nr)]))∧σ=[some (V.ref fl),some (V.ref p),some (V.ref l),some (V.ref d),some (V.ref cd),some (V.ref hp),x6,some (V.ref r),some (V.int c),x9,x10]) (fun nx' hk'=>?_) ?_
     ·walk_at "RD"
      refine⟨_,SqT.of hr6,_,rfl,_,DPut.k (k:=.inl c) (show upd H' hl (.lst (us.map V.ref)) cd=some (.dK (kvs.map fun q=>((Sum.inl q.1:Key),V.int q.2))) from cd6) (by rw [List.length_map];omega),hk' _ _ ⟨?_,rfl⟩⟩
      rw [putK_new _ vn]
      unfold costsD
      rw [List.map_append]
      rfl
     rintro σ H8 ⟨rfl,rfl⟩
     have kee:∀ b o,upd H' hl (.lst (us.map V.ref)) b=some o→(∀ kvs,o≠.dK kvs)→upd (upd H' hl (.lst (us.map V.ref))) cd (costsD (kvs++[(c,nr)])) b=some o:=fun b o e no=>by
      rw [upd_ne (fun z=>by rw [z,cd6] at e;exact no _ (Option.some.inj e).symm)]
      exact e
     have S8:=S6.keep kee
     have sC8:SameC hl cd H3 (upd (upd H' hl (.lst (us.map V.ref))) cd (costsD (kvs++[(c,nr)]))):=fun b o e n1 n2=>by rw [upd_ne n2];exact sC6 _ _ e n1 n2
     have hr8:=kee _ _ hr6 (fun _ z=>by cases z)
     have hI8:=into_ _ sC8
     obtain⟨ps,hps3,pps⟩:=hI3.lists _ hao
     have hps:=sC8 _ _ hps3 aohl aocd
     have lps:=Paired.length pps
     have bl:=z382 (i:=i) (w:=w) (sg:=sg) (z4 i sg) c
     have lps':ps.length≤400:=by
      have:ps.length=(intoL i w sg (z4 i sg) c).length:=lps
      omega
     walk_at "RD"
     refine⟨V.ref ao,?_,ao,rfl,⟨_,SqL.of hps⟩,?_⟩
     ·have:=DGet.k (k:=.inl c) hI8.at_
      rw [hval] at this
      exact this
     refine for_list (K:=K) (a:=ao) (xs:=ps.map V.ref) (fun j σ H''=>∃ (ts':List Addr) (k':Addr→List Int) (x9 x10:Option V),SameC hl cd H3 H''∧H'' cd=some (costsD (kvs++[(c,nr)]))∧H'' r=some (.tup [.int nr,.int c])∧HS ad H'' hp hl ts' k'∧ts'.length=us.length + j∧(∀ m x,Itm k' ts' m x↔Itm k us m x∨∃ wc,(x,wc)∈(intoL i w sg (z4 i sg) c).take j∧m=nr + wc)∧σ=[some (V.ref fl),some (V.ref p),some (V.ref l),some (V.ref d),some (V.ref cd),some (V.ref hp),x6,some (V.ref r),some (V.int c),x9,x10]) ⟨us,k,x9,x10,sC8,upd_same,hr8,S8,rfl,fun m x=>by simp,rfl⟩ ?_ ?_ ?_
     ·rintro j σ H'' _ ⟨ts',k',x9,x10,sC9,_⟩
      exact SqL.of (sC9 _ _ hps3 aohl aocd)
     ·rintro j y σ H9 hy ⟨ts',k',x9,x10,sC9,cd9,hr9,S9,lt9,it9,rfl⟩
      rw [List.getElem?_map] at hy
      obtain⟨t,ht,rfl⟩:=Option.map_eq_some_iff.mp hy
      obtain⟨⟨x,wc⟩,hxw,hto⟩:=Paired.at1 pps ht
      have hto:H3 t=some (.tup [.int x,.int wc]):=hto
      have hto9:=sC9 _ _ hto (tne _ _ hto).1 (tne _ _ hto).2
      have lj:=(List.getElem?_eq_some_iff.mp ht).1
      obtain⟨⟨dx9,f1⟩,f2⟩:=S9.hh
      walk_at "RD"
      refine⟨_,SqT.of hto9,rfl,_,_,rfl,_,_,rfl,rfl,_,_,f1,h_no hl (by decide +kernel),_,SqT.of hr9,_,rfl,_,rfl,_,rfl,by omega,fun t' nt'=>?_⟩
      obtain⟨p1,p2,p3⟩:=S9.prep nt' (nr + wc) x
      refine⟨hp,hl,t',ts',kput k' t' (nr + wc) x,rfl,p1,p2,by omega,p3,fun vs pv ho'=>?_⟩
      have S10:=S9.put nt' pv ho'
      have lv:=pv.length_eq
      have chl9:cd≠hl:=chl
      refine⟨fun b o e n1 n2=>?_,?_,?_,vs,kput k' t' (nr + wc) x,S10,by rw [lv,List.length_cons,lt9];omega,fun m x'=>?_,_,rfl⟩
      ·rw [upd_ne n1]
       exact(zz0 nt') _ _ (sC9 _ _ e n1 n2)
      ·rw [upd_ne chl9]
       exact(zz0 nt') _ _ cd9
      ·rw [upd_ne (ne_of hr9 f2 (fun z=>by cases z))]
       exact(zz0 nt') _ _ hr9
      ·rw [z759 S9 nt' pv,it9,List.take_add_one,hxw]
       simp only [Option.toList_some,List.mem_append,List.mem_singleton,Prod.mk.injEq]
       constructor
       ·rintro((z | ⟨w',h1,h2⟩) | ⟨h1,h2⟩)
        ·exact .inl z
        ·exact .inr ⟨w',.inl h1,h2⟩
        ·exact .inr ⟨wc,.inr ⟨h2,rfl⟩,h1⟩
       ·rintro(z | ⟨w',h1 | ⟨h1,h3⟩,h2⟩)
        ·exact .inl (.inl z)
        ·exact .inl (.inr ⟨w',h1,h2⟩)
        ·subst h3
         exact .inr ⟨h2,h1⟩
     ·rintro σ H9 ⟨ts',k',x9,x10,sC9,cd9,hr9,S9,lt9,it9,rfl⟩
      rw [List.length_map] at lt9 it9
      rw [lps,List.take_length] at it9
      refine⟨ts'.length + 401 * rem (z4 i sg) (kvs++[(c,nr)]),by omega,ts',k',_,_,_,_,_,_,rfl,⟨sC9,cd9,S9,?_,?_,by omega,?_,fun m x hi=>?_⟩,rfl⟩
      ·rw [List.map_append]
       exact nd_snoc cs.nd cn
      ·rw [List.length_append,List.length_cons,List.length_nil]
       omega
      ·refine cs.inv.add (z54 i w sg) itr hmn ec (z802 ec) (fun m x hi=>?_) (fun m x hi=>?_) fun x wc hx hs=>?_
       ·rcases (it9 m x).mp hi with z | ⟨wc,hw,e⟩
        ·exact .inl (i1 m x z)
        ·exact .inr ⟨wc,(z385.mp hw).1,(z385.mp hw).2,e⟩
       ·exact(i2 m x hi).imp (fun z=>(it9 m x).mpr (.inl z)) id
       ·exact(it9 _ x).mpr (.inr ⟨wc,z385.mpr ⟨hx,hs⟩,rfl⟩)
      ·rcases (it9 m x).mp hi with z | ⟨wc,hw,e⟩
       ·exact cs.inC m x (i1 m x z)
       ·exact(z385.mp hw).1
   ·refine⟨_,rfl,?_⟩
    rw [if_neg b]
    obtain rfl:ts=[]:=List.length_eq_zero_iff.mp (by omega)
    exact hk _ _ ⟨k,kvs,x6,x7,x8,x9,x10,cs,rfl⟩
  rintro σ H5 ⟨k,kvs,x6,x7,x8,x9,x10,cs,rfl⟩
  walk_at "RD"
  refine hq cd kvs H5 ncd0 (fun b o e=>cs.same _ _ (s03 _ _ e) (ne_of_none e nhl0) (ne_of_none e ncd0)) cs.cd_ (z716 g cs)
theorem sc_q36:FnScope ["floor","carrier","chargers"] ["floor","carrier"] (defScope s_q36):=⟨rfl,rfl,rfl,by decide +kernel,rfl,by decide +kernel,by decide +kernel⟩
set_option maxHeartbeats 4000000 in
theorem ok_q36 {fd:FuncData}(F:Fun K "needs_of" "needs_of" s_q36 ad.q36 fd) (T:Txt K mg ad){fd_q7:FuncData}(B_q7:Binds K fd_q7 ["self"] []) (G_q7:FnOk P w K mg base CX0 1 ad.q7 fd_q7 ["self"] (z275 ad.C_Floor)){fd_q24:FuncData}(B_q24:Binds K fd_q24 ["self","cell"] []) (G_q24:FnOk P w K mg base CX0 1 ad.q24 fd_q24 ["self","cell"] (spSign ad.C_Floor)){fd_q2:FuncData}(B_q2:Binds K fd_q2 ["self","sign"] []) (G_q2:FnOk P w K mg base CX0 1 ad.q2 fd_q2 ["self","sign"] (spMay 0)){fd_q3:FuncData}(B_q3:Binds K fd_q3 ["self","sign"] []) (G_q3:FnOk P w K mg base CX0 1 ad.q3 fd_q3 ["self","sign"] (spMay 1)){fd_q35:FuncData}(B_q35:Binds K fd_q35 ["floor","carrier","goals"] []) (G_q35:FnOk P w K mg base CX0 7 ad.q35 fd_q35 ["floor","carrier","goals"] (z415 ad)):FnOk P w K mg base CX0 8 ad.q36 fd ["floor","carrier"] (z650 ad):=by
 refine F.ok sc_q36 (fun vs H Q E h=>?_) (fun cdv A outer s H vs Q E HR h=>?_)
 ·obtain⟨p,fl,i,n,w,h,sg,rfl,_⟩:=h
  rfl
 ·obtain⟨p,fl,i,n,w,h,sg,rfl,hc,hi,F0,g,hq⟩:=h
  have ND:=sc_q36.nd
  have HU0:=HR.units0
  have HU:=HR.units
  have hA:=HR.hd
  have hz:(100000:Nat)≤sizeLine:=by rw [sizeLine_eq];decide
  refine⟨_,(pss_cons (z373 (i:=2) (z8.of (osc:=defScope s_q36) (tn:=["cell"]) (cn:=["carrier","floor"]) (caps:=[1,0]) rfl rfl (by decide +kernel) (by decide +kernel) (by decide +kernel) (by decide +kernel) rfl) (calm0 rfl) ND rfl z211 (pi_list (pe_meth0 (pe_var (i:=0) (x:="floor") rfl (vis_of z355) z53 z52) T.cl_Floor T.m_q7 G_q7 (HR.mono (by decide)) B_q7 .nil pass0))
 (fun _ _ _ _ _=>(pg_name (i:=0) (show (["cell","carrier","floor"]:List Str).Nodup by decide +kernel) rfl (Or.inl rfl))) (fun _ _ _ _ _=>(z77 (pt_val (z132 (k:=1) (pv 1) (z5 T.cl_Cart T.m_Cart_may_stand G_q2 (by decide) B_q2 (z5 T.cl_Crawler T.m_q3 G_q3 (by decide) B_q3 (z5 T.cl_Runner T.m_Runner_may_stand G_q2 (by decide) B_q2 (z5 T.cl_Carrier T.m_q2 G_q2 (by decide) B_q2 z111)))) (HR.mono (by decide)) (pa_cons (pe_meth (pv 2) T.cl_Floor T.m_q24 G_q24 (HR.mono (by decide)) B_q24 .nil pass0 (pa_cons (pv 0) pa_nil (stp rfl)) (hst:=stp rfl) (hpl:=anp rfl)) pa_nil (stp rfl)) (hst:=stp rfl) (hpl:=anp rfl))))) (fun _ _ _ _ _=>(pv 0)) (hsw:=by rfl))
 (pss_one (ps_ret (pe_call G_q35 (HR.mono (by decide)) (gl_of z684) T.mg_q35 T.k_q35 B_q35 .nil pass0 (pa_cons (pe_var (i:=0) (x:="floor") rfl (vis_of z355) z53 z52) (pa_cons (pe_var (i:=1) (x:="carrier") rfl (vis_of z421) z112 z107) (pa_cons (pe_var (i:=2) (x:="chargers") rfl (vis_of z395) z637 z603) pa_nil (stp rfl)) (stp rfl)) (stp rfl)) (hdb:=d_q35) (he:=stp rfl) (hpl:=anp rfl))))),?_⟩
  obtain⟨dx,l0,h1,h2⟩:=id F0.ob
  obtain⟨dp,hp⟩:=id hc
  obtain⟨jm,hjm,ejm⟩:=e_may (ad:=ad) i hi
  have nm:(putF "full" (V.int n) []).lookup ("may_stand":Str)=none:=l_no n (by decide +kernel)
  have nst:(putF "full" (V.int n) []).lookup ("steps":Str)=none:=l_no n (by decide +kernel)
  have ns:(flds w h l0 sg).lookup ("sign":Str)=none:=nofl (by decide +kernel) (by decide +kernel) (by decide +kernel) (by decide +kernel)
  have nce:(flds w h l0 sg).lookup ("cells":Str)=none:=nofl (by decide +kernel) (by decide +kernel) (by decide +kernel) (by decide +kernel)
  have nch:(flds w h l0 sg).lookup ("chargers":Str)=none:=nofl (by decide +kernel) (by decide +kernel) (by decide +kernel) (by decide +kernel)
  refine y3 (fun σ H'=>∃ D,Same H H'∧H' D=some (.lst (((z19 sg).filter fun c=>stands i (at_ sg c)).map V.int))∧σ=[some (V.ref fl),some (V.ref p),some (V.ref D)]) (fun nx hk=>?_) ?_
  ·walk_at "RD"
   refine⟨_,_,h1,nch,fl,w,h,sg,rfl,F0,g,fun r H1 nr s1 hr=>?_⟩
   refine⟨r,rfl,⟨_,SqL.of hr⟩,z33 (src_list (SqL.of hr)) (stV i sg) (fun v=>v) (fun y hy Q' hh=>?_) (fun y hy _ Q' hh=>by walk_at "RD";exact hh) (by rw [List.length_map];have:=z298 g;omega) (fun D nD=>?_)⟩
   ·obtain⟨c,hcm,rfl⟩:=List.mem_map.mp hy
    have cF:=z531 hcm
    walk_at "RD"
    refine⟨p,dp,_,(clsOf ad i,spMay jm),hjm,rfl,s1 _ _ hp,nm,_,_,s1 _ _ h1,ns,fl,w,h,sg,c,rfl,F0.same s1,g,cF.1,cF.2,_,_,rfl,_,rfl,?_⟩
    rw [ejm]
    exact hh
   ·rw [z288]
    exact hk _ _ ⟨D,s1.trans (zz0 nD),upd_same,rfl⟩
  rintro σ H1 ⟨D,s1,hD,rfl⟩
  walk_at "RD"
  refine⟨p,fl,D,i,n,w,h,sg,_,rfl,hc.same s1,hi,F0.same s1,g,hD,Nat.le_trans (List.length_filter_le _ _) (by have:=z298 g;omega),fun c hcm=>?_,fun r kvs H2 nr s2 hr hcs=>hq r kvs H2 (s1.free nr) (s1.trans s2) hr hcs⟩
  obtain⟨h3,h4⟩:=List.mem_filter.mp hcm
  rw [z224] at h3
  exact List.mem_filter.mpr ⟨(List.mem_filter.mp h3).1,h4⟩
theorem sc_q22:FnScope ["floor","carrier","cell","costs"] ["floor","carrier","cell","costs"] (defScope s_q22):=⟨rfl,rfl,rfl,by decide +kernel,rfl,by decide +kernel,by decide +kernel⟩
set_option maxHeartbeats 4000000 in
theorem ok_q22 {fd:FuncData}(F:Fun K "least_next" "least_next" s_q22 ad.q22 fd) (T:Txt K mg ad){fd_q8:FuncData}(B_q8:Binds K fd_q8 ["self","floor","cell"] []) (G_q8:FnOk P w K mg base CX0 5 ad.q8 fd_q8 ["self","floor","cell"] (z361 ad)):FnOk P w K mg base CX0 6 ad.q22 fd ["floor","carrier","cell","costs"] (spNext ad):=by
 refine F.ok sc_q22 (fun vs H Q E h=>?_) (fun cdv A outer s H vs Q E HR h=>?_)
 ·obtain⟨p,fl,cd,i,n,w,h,sg,kvs,c,k,rfl,_⟩:=h
  rfl
 ·obtain⟨p,fl,cd,i,n,w,h,sg,kvs,c,k,rfl,hc,hi,F0,g,cF,hcd,hk,hne,hq⟩:=h
  have ND:=sc_q22.nd
  have HU0:=HR.units0
  have HU:=HR.units
  have hA:=HR.hd
  have hz:(100000:Nat)≤sizeLine:=by rw [sizeLine_eq];decide
  refine⟨_,(pss_one (ps_ret (pe_callB (z493 rfl) (gl_of z724) T.b_min PyProof.Rows.Boot.«min» (pa_cons (z89 (z8.of (osc:=defScope s_q22) (tn:=["other","cost"]) (cn:=["costs","cell"]) (caps:=[3,2]) rfl rfl (by decide +kernel) (by decide +kernel) (by decide +kernel) (by decide +kernel) rfl) (calm0 rfl)  (pi_list (z132 (k:=5) (pe_var (i:=1) (x:="carrier") rfl (vis_of z423) z112 z107) (z5 T.cl_Cart T.m_Cart_steps G_q8 (by decide) B_q8 (z5 T.cl_Crawler T.m_Crawler_steps G_q8 (by decide) B_q8 (z5 T.cl_Runner T.m_Runner_steps G_q8 (by decide) B_q8 (z5 T.cl_Carrier T.m_q8 G_q8 (by decide) B_q8 z111)))) (HR.mono (by decide)) (pa_cons (pe_var (i:=0) (x:="floor") rfl (vis_of z544) z53 z52) (pa_cons (pe_var (i:=2) (x:="cell") rfl (vis_of z674) d_cell e_cell) pa_nil (stp rfl)) (stp rfl)) (hst:=stp rfl) (hpl:=anp rfl)))
 (fun _ _ _ _ _=>(z473 rfl (calm0 rfl) (show (["other","cost","costs","cell"]:List Str).Nodup by decide +kernel) (Or.inl rfl) (Or.inl rfl) rfl rfl)) (fun _ _ _ _ _=>(z77 (PW.pt (pw_and (pt_cmp (pc_din (hu1 HU) (pv 0) (pv 2)) (by with_unfolding_all rfl)) (pw_and1 (pt_cmpR op_eq (pe_op op_add (pv 1) (pe_dget (hu1 HU) (pv 2) (pv 0) (fun _ _=>rfl))) (pe_dget (hu1 HU) (pv 2) (pv 3) (fun _ _=>rfl)) (nomark _))))))) (fun _ _ _ _ _=>(pv 0))) pa_nil (stp rfl)) (hn:=n_min) (hdb:=d_min) (he:=stp rfl) (hpl:=anp rfl)))),?_⟩
  have dgf:∀ {H':Hp}{a:Addr}(z:Int),H' a=some (costsD kvs)→DGet H' a (.int z) ((cvOf kvs z).map V.int):=fun{H'} {a} z e=>by
   have dg:=DGet.k (k:=.inl z) (show H' a=some (.dK (kvs.map fun q=>((Sum.inl q.1:Key),V.int q.2))) from e)
   rw [val_cv] at dg
   exact dg
  obtain⟨dp,hp⟩:=id hc
  have nst:(putF "full" (V.int n) []).lookup ("steps":Str)=none:=l_no n (by decide +kernel)
  walk_at "RD"
  refine⟨p,dp,_,(clsOf ad i,z361 ad),e_al4 i hi,rfl,hp,nst,p,fl,i,n,w,h,sg,c,rfl,hc,hi,F0,g,cF,fun r H1 nr s1 ⟨ts,hts,pr⟩=>⟨r,rfl,⟨_,SqL.of hts⟩,?_⟩⟩
  have lts:=Paired.length pr
  have sl:=z222 (i:=i) (w:=w) (sg:=sg) (c:=c)
  have hcd1:=s1 _ _ hcd
  refine z272 (u:=fun t=>V.int (i0 H1 t)) (v:=fun t=>V.int (i1 H1 t)) (src_list (SqL.of hts)) (fun t ht=>z604 pr ht) (fun t=>decide ((cvOf kvs (i0 H1 t)).map (i1 H1 t + ·)=some k)) (fun t=>V.int (i0 H1 t)) (fun t ht Q' hh=>?_) (fun t ht hp Q' hh=>by walk_at "RD";exact hh) (by omega) (fun D nD=>?_)
  ·have dg:=dgf (i0 H1 t) hcd1
   have dk:=dgf c hcd1
   rw [hk] at dk
   walk_at "RD"
   refine⟨_,dg,?_⟩
   cases e:cvOf kvs (i0 H1 t) with
   | none=>
    rw [e] at hh
    rw [if_neg (by simp)]
    simpa using hh
   | some m=>
    rw [e] at hh dg
    rw [if_pos (by simp)]
    refine⟨_,dg,_,rfl,_,dk,rfl,?_⟩
    have e2:decide (V.int (i1 H1 t + m)=V.int k)=decide ((some m).map (i1 H1 t + ·)=some k):=by simp
    rw [e2]
    exact hh
  ·rw [z376 pr] at *
   have e:((z13 i w sg c).filter fun q=>decide ((cvOf kvs q.1).map (q.2 + ·)=some k)).map (·.1)=nxt i w sg kvs c k:=rfl
   rw [e]
   exact⟨_,SqL.of upd_same,hne,fun m hm hl=>hq m _ (z589 (z723 (z572 g cF)) hm hl) (s1.trans (zz0 nD))⟩
theorem sc_q37:FnScope ["floor","carrier","cell","goals","costs","cells"] ["floor","carrier","cell","goals"] (defScope s_q37):=⟨rfl,rfl,rfl,by decide +kernel,rfl,by decide +kernel,by decide +kernel⟩
set_option maxHeartbeats 4000000 in
theorem ok_q37 {fd:FuncData}(F:Fun K "cheapest" "cheapest" s_q37 ad.q37 fd) (T:Txt K mg ad){fd_q35:FuncData}(B_q35:Binds K fd_q35 ["floor","carrier","goals"] []) (G_q35:FnOk P w K mg base CX0 7 ad.q35 fd_q35 ["floor","carrier","goals"] (z415 ad)){fd_q22:FuncData}(B_q22:Binds K fd_q22 ["floor","carrier","cell","costs"] []) (G_q22:FnOk P w K mg base CX0 6 ad.q22 fd_q22 ["floor","carrier","cell","costs"] (spNext ad)):FnOk P w K mg base CX0 8 ad.q37 fd ["floor","carrier","cell","goals"] (z590 ad):=by
 refine F.ok sc_q37 (fun vs H Q E h=>?_) (fun cdv A outer s H vs Q E HR h=>?_)
 ·obtain⟨p,fl,gl,i,n,w,h,sg,gs,c,rfl,_⟩:=h
  rfl
 ·obtain⟨p,fl,gl,i,n,w,h,sg,gs,c,rfl,hc,hi,F0,g,hL,gln,gst,hq⟩:=h
  have ND:=sc_q37.nd
  have HU0:=HR.units0
  have HU:=HR.units
  have hA:=HR.hd
  have hz:(100000:Nat)≤sizeLine:=by rw [sizeLine_eq];decide
  refine⟨_,(pss_cons (ps_set (i:=4) ND rfl (loc_of (Or.inl z356)) (pe_call G_q35 (HR.mono (by decide)) (gl_of z730) T.mg_q35 T.k_q35 B_q35 .nil pass0 (pa_cons (pe_var (i:=0) (x:="floor") rfl (vis_of z354) z53 z52) (pa_cons (pe_var (i:=1) (x:="carrier") rfl (vis_of z246) z112 z107) (pa_cons (pe_var (i:=3) (x:="goals") rfl (vis_of z554) z743 z754) pa_nil (stp rfl)) (stp rfl)) (stp rfl)) (hdb:=d_q35) (he:=stp rfl) (hpl:=anp rfl)))
 (pss_cons (ps_if (pt_cmp (pc_dnotin (hu1 HU) (pe_var (i:=2) (x:="cell") rfl (vis_of z433) d_cell e_cell) (pe_var (i:=4) (x:="costs") rfl (vis_of z236) z360 z374)) (by with_unfolding_all rfl))
 (pss_one (ps_ret pe_non))
 pss_nil)
 (pss_cons (ps_set (i:=5) ND rfl (loc_of (Or.inl z349)) (pe_lst (pa_cons (pe_var (i:=2) (x:="cell") rfl (vis_of z433) d_cell e_cell) pa_nil (stp rfl))))
 (pss_cons (ps_while PassesOwn.never (pt_cmpR op_gt (pe_dget (hu1 HU) (pe_var (i:=4) (x:="costs") rfl (vis_of z236) z360 z374) (pe_ix ix_list (pe_var (i:=5) (x:="cells") rfl (vis_of z162) z488 z497) (pe_un un_neg pe_int) (fun _ _=>rfl)) (fun _ _=>rfl)) pe_int (nomark _))
 (pss_one (ps_expr (pe_bm PySem.F.plainAttrs_list PySem.F.slot_list_append PySem.F.type_list_append mt_append (pe_var (i:=5) (x:="cells") rfl (vis_of z162) z488 z497) (pa_cons (pe_call G_q22 (HR.mono (by decide)) (gl_of z700) T.mg_q22 T.k_q22 B_q22 .nil pass0 (pa_cons (pe_var (i:=0) (x:="floor") rfl (vis_of z354) z53 z52) (pa_cons (pe_var (i:=1) (x:="carrier") rfl (vis_of z246) z112 z107) (pa_cons (pe_ix ix_list (pe_var (i:=5) (x:="cells") rfl (vis_of z162) z488 z497) (pe_un un_neg pe_int) (fun _ _=>rfl)) (pa_cons (pe_var (i:=4) (x:="costs") rfl (vis_of z236) z360 z374) pa_nil (stp rfl)) (stp rfl)) (stp rfl)) (stp rfl)) (hdb:=d_q22) (he:=stp rfl) (hpl:=anp rfl)) pa_nil (stp rfl))))))
 (pss_one (ps_ret (pe_var (i:=5) (x:="cells") rfl (vis_of z162) z488 z497))))))),?_⟩
  walk_at "RD"
  refine⟨p,fl,gl,i,n,w,h,sg,gs,rfl,hc,hi,F0,g,hL,gln,gst,fun cd kvs H1 ncd s1 hcd ca=>⟨cd,rfl,?_⟩⟩
  have dgf:∀ {H':Hp}{a:Addr}(z:Int),H' a=some (costsD kvs)→DGet H' a (.int z) ((cvOf kvs z).map V.int):=fun{H'} {a} z e=>by
   have dg:=DGet.k (k:=.inl z) (show H' a=some (.dK (kvs.map fun q=>((Sum.inl q.1:Key),V.int q.2))) from e)
   rw [val_cv] at dg
   exact dg
  refine⟨_,dgf c hcd,?_⟩
  have kl:=ca.len
  cases ec:cvOf kvs c with
  | none=>
   rw [if_pos (by simp)]
   exact(hq kvs H1 ca s1).1 ec
  | some n0=>
   rw [if_neg (by simp)]
   refine⟨by omega,fun r nr=>?_⟩
   have st0:0 + 1 + (kvs.filter fun q=>decide (q.2 < n0)).length≤kvs.length:=by
    have:=z679 (p:=fun q:Int × Int=>decide (q.2 < n0)) (q:=fun _=>true) (fun _ _=>rfl) (a:=(c,n0)) (by simp) rfl (cv_mem ec)
    rw [List.filter_eq_self.mpr (fun _ _=>rfl)] at this
    omega
   refine⟨fun m σ H'=>CHW i w sg kvs H1 c fl p gl cd r m σ H',⟨_,[],c,n0,rfl,ec,zz0 nr,upd_same,fun ds h=>h,st0,rfl⟩,?_⟩
   rintro m σ H' ⟨ini,z,k,rfl,hz,s2,hr,wk,le,rfl⟩
   have hcd2:=s2 _ _ hcd
   have dz:=dgf z hcd2
   rw [hz] at dz
   have lz:=ca.cv.mp hz
   have zF:=z494 ca gst hz
   have k0:=lz.1.nn (z54 i w sg)
   walk_at "RD"
   refine⟨_,SqL.of hr,_,z676 ini z,_,dz,k,rfl,?_⟩
   by_cases b:0 < k
   ·rw [if_pos b]
    refine⟨fun σ' H''=>∃ m',m' < k.toNat∧CHW i w sg kvs H1 c fl p gl cd r m' σ' H'',fun _ _ y=>y,?_⟩
    have ne:=z796 ca hz (by omega)
    refine⟨.inl ⟨rfl,_,SqL.of hr⟩,_,SqL.of hr,_,z676 ini z,p,fl,cd,i,n,w,h,sg,kvs,z,k,rfl,hc.same (s1.trans s2),hi,F0.same (s1.trans s2),g,zF.2,hcd2,hz,ne,fun o H3 ho s3=>?_⟩
    obtain⟨v,m,hv,hm,e⟩:=z633.mp (List.mem_of_mem_head? ho)
    have v1:=z54 i w sg z o v hv
    have m0:=(ca.cv.mp hm).1.nn (z54 i w sg)
    have hr3:=s3 _ _ hr
    have lt:=z679 (p:=fun q:Int × Int=>decide (q.2 < m)) (q:=fun q=>decide (q.2 < k)) (fun q hq'=>decide_eq_true (by have:=of_decide_eq_true hq';omega)) (a:=(o,m)) (by simp) (decide_eq_true (by show m < k;omega)) (cv_mem hm)
    refine⟨_,hr3,by rw [List.length_map,List.length_append,List.length_singleton];omega,m.toNat,by omega,ini++[z],o,m,rfl,hm,fun b o' e'=>?_,?_,fun ds hd=>?_,?_,rfl⟩
    ·rw [upd_ne (ne_of_none e' nr)]
     exact(s2.trans s3) _ _ e'
    ·rw [upd_same]
     simp
    ·rw [List.append_assoc]
     exact wk _ (.go hz (by omega) ho hd)
    ·rw [List.length_append,List.length_singleton]
     omega
   ·rw [if_neg b]
    obtain rfl:k=0:=by omega
    exact(hq kvs H' ca (s1.trans s2)).2 r _ (s1.free nr) hr (by rw [List.length_append,List.length_cons,List.length_nil];omega) (wk _ (.stop hz))
theorem sc_q42:FnScope ["_law_kind","_law_lines_here","_law_able","_law_goals","_law_left","_law_cell","_law_some"] ["_law_kind","_law_lines_here","_law_able","_law_goals","_law_left"] (defScope s_q42):=⟨rfl,rfl,rfl,by decide +kernel,rfl,by decide +kernel,by decide +kernel⟩
set_option maxHeartbeats 4000000 in
theorem ok_q42 {fd:FuncData}(F:Fun K "_law_closed" "_law_closed" s_q42 ad.q42 fd) (T:Txt K mg ad){fd_q48:FuncData}(B_q48:Binds K fd_q48 ["_law_kind","_law_lines_here","_law_cell"] []) (G_q48:FnOk P w K mg base CX0 4 ad.q48 fd_q48 ["_law_kind","_law_lines_here","_law_cell"] (z377)):FnOk P w K mg base CX0 5 ad.q42 fd ["_law_kind","_law_lines_here","_law_able","_law_goals","_law_left"] (z471):=by
 refine F.ok sc_q42 (fun vs H Q E h=>?_) (fun cdv A outer s H vs Q E HR h=>?_)
 ·obtain⟨x,l,al,gl,ld,i,w,h,sg,gs,kvs,rfl,_⟩:=h
  rfl
 ·obtain⟨x,l,al,gl,ld,i,w,h,sg,gs,kvs,rfl,hi,hL,g,hal,hgl,gln,gst,hld,ca,kl,hq⟩:=h
  have ND:=sc_q42.nd
  have HU0:=HR.units0
  have HU:=HR.units
  have hA:=HR.hd
  have hz:(100000:Nat)≤sizeLine:=by rw [sizeLine_eq];decide
  refine⟨_,(pss_cons (ps_if (pt_cmpR (op_neD HU) (pe_callB z467 (gl_of z283) T.b_sorted PyProof.Rows.Boot.«sorted» (pa_cons (z610 (z89 (z8.of (osc:=defScope s_q42) (tn:=["_law_cell"]) (cn:=["_law_left"]) (caps:=[4]) rfl rfl (by decide +kernel) (by decide +kernel) (by decide +kernel) (by decide +kernel) rfl) (calm0 rfl)  (z579 (pe_var (i:=4) (x:="_law_left") rfl (vis_of z35) z16 z17))
 (fun _ _ _ _ _=>(pg_name (i:=0) (show (["_law_cell","_law_left"]:List Str).Nodup by decide +kernel) rfl (Or.inl rfl))) (fun _ _ _ _ _=>(z77 (pt_cmpR op_eq (pe_dget (hu1 HU) (pv 1) (pv 0) (fun _ _=>rfl)) pe_int (nomark _)))) (fun _ _ _ _ _=>(pv 0)))) pa_nil (stp rfl)) (hn:=z781) (hdb:=z771) (he:=stp rfl) (hpl:=anp rfl)) (z462 rfl (gl_of z283) T.b_sorted (gl_of z711) T.b_set (pa_cons (pe_var (i:=3) (x:="_law_goals") rfl (vis_of z300) z56 z57) pa_nil (stp rfl)) (st1 rfl) (st1 rfl)) (nomark _))
 (pss_one (ps_ret pe_bl))
 pss_nil)
 (pss_cons (ps_for PassesOwn.never (calm0 rfl) (pi_list (pe_var (i:=2) (x:="_law_able") rfl (vis_of z318) z50 z51)) (pg_name (i:=5) ND rfl (loc_of (Or.inl z177)))
 (pss_cons (z373 (i:=6) (z8.of (osc:=defScope s_q42) (tn:=["_law_other","_law_taken"]) (cn:=["_law_left"]) (caps:=[4]) rfl rfl (by decide +kernel) (by decide +kernel) (by decide +kernel) (by decide +kernel) rfl) (calm0 rfl) ND rfl z188 (pi_list (pe_call G_q48 (HR.mono (by decide)) (gl_of z305) T.mg_q48 T.k_q48 B_q48 .nil pass0 (pa_cons (pe_var (i:=0) (x:="_law_kind") rfl (vis_of z326) z44 z42) (pa_cons (pe_var (i:=1) (x:="_law_lines_here") rfl (vis_of z171) v2 zz1) (pa_cons (pe_var (i:=5) (x:="_law_cell") rfl (vis_of z47) z6 z7) pa_nil (stp rfl)) (stp rfl)) (stp rfl)) (hdb:=z284) (he:=stp rfl) (hpl:=anp rfl)))
 (fun _ _ _ _ _=>(z473 rfl (calm0 rfl) (show (["_law_other","_law_taken","_law_left"]:List Str).Nodup by decide +kernel) (Or.inl rfl) (Or.inl rfl) rfl rfl)) (fun _ _ _ _ _=>(z77 (pt_cmp (pc_din (hu1 HU) (pv 0) (pv 2)) (by with_unfolding_all rfl)))) (fun _ _ _ _ _=>(pe_op op_add (pv 1) (pe_dget (hu1 HU) (pv 2) (pv 0) (fun _ _=>rfl)))) (hsw:=by rfl))
 (pss_cons (ps_if (PW.pt (pw_and (pt_cmp (pc_dnotin (hu1 HU) (pe_var (i:=5) (x:="_law_cell") rfl (vis_of z47) z6 z7) (pe_var (i:=4) (x:="_law_left") rfl (vis_of z35) z16 z17)) (by with_unfolding_all rfl)) (pw_and1 (pt_cmpR (op_neD HU) (pe_var (i:=6) (x:="_law_some") rfl (vis_of z94) z229 z232) (pe_lst pa_nil) (nomark _)))))
 (pss_one (ps_ret pe_bl))
 pss_nil)
 (pss_one (ps_if (PW.pt (pw_and (pt_cmp (pc_din (hu1 HU) (pe_var (i:=5) (x:="_law_cell") rfl (vis_of z47) z6 z7) (pe_var (i:=4) (x:="_law_left") rfl (vis_of z35) z16 z17)) (by with_unfolding_all rfl)) (pw_and (pt_cmpR op_gt (pe_dget (hu1 HU) (pe_var (i:=4) (x:="_law_left") rfl (vis_of z35) z16 z17) (pe_var (i:=5) (x:="_law_cell") rfl (vis_of z47) z6 z7) (fun _ _=>rfl)) pe_int (nomark _)) (pw_and1 (PW.pt (pw_or (pt_cmpR (op_eqD HU) (pe_var (i:=6) (x:="_law_some") rfl (vis_of z94) z229 z232) (pe_lst pa_nil) (nomark _)) (pw_or1 (pt_cmpR op_ne (pe_callB (z493 rfl) (gl_of z698) T.b_min PyProof.Rows.Boot.«min» (pa_cons (pe_var (i:=6) (x:="_law_some") rfl (vis_of z94) z229 z232) pa_nil (stp rfl)) (hn:=n_min) (hdb:=d_min) (he:=stp rfl) (hpl:=anp rfl)) (pe_dget (hu1 HU) (pe_var (i:=4) (x:="_law_left") rfl (vis_of z35) z16 z17) (pe_var (i:=5) (x:="_law_cell") rfl (vis_of z47) z6 z7) (fun _ _=>rfl)) (nomark _)))))))))
 (pss_one (ps_ret pe_bl))
 pss_nil)))))
 (pss_one (ps_ret (pe_cmpR (op_eqD HU) (z610 (z89 (z8.of (osc:=defScope s_q42) (tn:=["_law_cell"]) (cn:=["_law_able","_law_left"]) (caps:=[2,4]) rfl rfl (by decide +kernel) (by decide +kernel) (by decide +kernel) (by decide +kernel) rfl) (calm0 rfl)  (z579 (pe_var (i:=4) (x:="_law_left") rfl (vis_of z35) z16 z17))
 (fun _ _ _ _ _=>(pg_name (i:=0) (show (["_law_cell","_law_able","_law_left"]:List Str).Nodup by decide +kernel) rfl (Or.inl rfl))) (fun _ _ _ _ _=>(z77 (PW.pt (pw_or (pt_cmpR (z417 (K:=K) rfl) (pv 0) (pv 1) (by with_unfolding_all rfl)) (pw_or1 (pt_cmpR op_lt (pe_dget (hu1 HU) (pv 2) (pv 0) (fun _ _=>rfl)) pe_int (nomark _))))))) (fun _ _ _ _ _=>(pv 0)))) (pe_lst pa_nil) (nomark _)))))),?_⟩
  have dgf:∀ {H':Hp}{a:Addr}(z:Int),H' a=some (costsD kvs)→DGet H' a (.int z) ((cvOf kvs z).map V.int):=fun{H'} {a} z e=>by
   have dg:=DGet.k (k:=.inl z) (show H' a=some (.dK (kvs.map fun q=>((Sum.inl q.1:Key),V.int q.2))) from e)
   rw [val_cv] at dg
   exact dg
  obtain⟨znd,zl,zm⟩:=z764 ca
  have hld':H ld=some (.dK (kvs.map fun q=>((Sum.inl q.1:Key),V.int q.2))):=hld
  have stl:=z163 g i
  refine y3 (fun σ H'=>Same H H'∧σ=[some (V.str x),some (V.ref l),some (V.ref al),some (V.ref gl),some (V.ref ld),none,none]) (fun nx hk=>?_) ?_
  ·walk_at "RD"
   refine .inl ⟨ld,_,hld,_,.inl ⟨hld,fun o=>z33 (z515 upd_same) (zeroV kvs) (fun v=>v) (fun y hy Q' hh=>?_) (fun y hy _ Q' hh=>by walk_at "RD";exact hh) (by rw [List.length_map,List.length_map];omega) (fun D nD=>?_)⟩⟩
   ·obtain⟨kv,hkv,rfl⟩:=List.mem_map.mp hy
    obtain⟨q,hq',rfl⟩:=List.mem_map.mp hkv
    have dg:DGet (upd H ld (HO.frz o (costsD kvs))) ld (kV (Sum.inl q.1)) (valV (kvs.map fun q=>((Sum.inl q.1:Key),V.int q.2)) (.inl q.1)):=.inl ⟨_,_,.inr ⟨o,upd_same⟩,rfl,rfl⟩
    rw [val_cv,mem_cv ca.nd hq'] at dg
    walk_at "RD"
    refine⟨_,dg,rfl,?_⟩
    have e2:decide (V.int q.2=V.int 0)=zeroV kvs (kV (Sum.inl q.1)):=by
     show _=decide (cvOf kvs q.1=some 0)
     rw [mem_cv ca.nd hq']
     simp
    rw [e2]
    exact hh
   ·rw [z735]
    obtain⟨t1,t2,t3⟩:=z507 (x:=HO.lst ((zeros kvs).map V.int)) hld' nD
    refine⟨⟨o,t1⟩,?_⟩
    generalize upd (upd (upd H ld _) D _) ld _=H5 at t2 t3 ⊢
    refine⟨zeros kvs,SqL.of t2,by omega,fun ms pm ps l1 nl1=>⟨gs,SqL.of ((t3.trans (zz0 nl1)) _ _ hgl),gln,fun ms1 mem1 pw1 l2 nl2=>?_⟩⟩
    obtain rfl:=z714 pm ps znd pw1 (fun z=>(zm z).trans (mem1 z).symm)
    refine⟨_,z60 (SqL.of ((zz0 nl2) _ _ upd_same)),_,z60 (SqL.of upd_same),shaped_ints _,shaped_ints _,?_⟩
    rw [z386 _ (SeqAt.canLay_of_shaped (shaped_ints ms)),if_neg (by decide)]
    exact hk _ _ ⟨t3.trans ((zz0 nl1).trans (zz0 nl2)),rfl⟩
  rintro σ H1 ⟨s1,rfl⟩
  refine y3 (fun σ H'=>∃ (x5 x6:Option V),Same H H'∧σ=[some (V.str x),some (V.ref l),some (V.ref al),some (V.ref gl),some (V.ref ld),x5,x6]) (fun nx hk=>?_) ?_
  ·walk_at "RDS"
   refine⟨⟨_,SqL.of (s1 _ _ hal)⟩,for_list (K:=K) (a:=al) (xs:=(z4 i sg).map V.int) (fun j σ H'=>∃ (x5 x6:Option V),Same H H'∧σ=[some (V.str x),some (V.ref l),some (V.ref al),some (V.ref gl),some (V.ref ld),x5,x6]) ⟨none,none,s1,rfl⟩ ?_ ?_ ?_⟩
   ·rintro j σ H' _ ⟨x5,x6,s,_⟩
    exact SqL.of (s _ _ hal)
   ·rintro j y σ H' hy ⟨x5,x6,s,rfl⟩
    rw [List.getElem?_map] at hy
    obtain⟨c,hcj,rfl⟩:=Option.map_eq_some_iff.mp hy
    have hcm:c∈z4 i sg:=List.mem_of_getElem? hcj
    have cF:=z196 (List.mem_filter.mp hcm).1
    simp only [gName,List.set_cons_succ,List.set_cons_zero]
    refine y3 (fun σ H''=>∃ (ra:Addr),Same H' H''∧H'' ra=some (.lst ((someOf kvs (z13 i w sg c)).map V.int))∧σ=[some (V.str x),some (V.ref l),some (V.ref al),some (V.ref gl),some (V.ref ld),some (V.int c),some (V.ref ra)]) (fun nx' hk'=>?_) ?_
    ·walk_at "RD"
     refine⟨x,i,l,w,h,sg,c,rfl,hi,s _ _ hL,g,cF,fun r H3 nr s3 pL=>?_⟩
     rw [← z628 g cF.1 cF.2 (List.mem_filter.mp hcm).2] at pL
     obtain⟨ts,hts,pr⟩:=pL
     have lts:=Paired.length pr
     have sl:=z222 (i:=i) (w:=w) (sg:=sg) (c:=c)
     have hld3:=(s.trans s3) _ _ hld
     refine⟨r,rfl,⟨_,SqL.of hts⟩,z272 (u:=fun t=>V.int (i0 H3 t)) (v:=fun t=>V.int (i1 H3 t)) (src_list (SqL.of hts)) (fun t ht=>z604 pr ht) (fun t=>(cvOf kvs (i0 H3 t)).isSome) (fun t=>V.int (i1 H3 t + (cvOf kvs (i0 H3 t)).getD 0)) (fun t ht Q' hh=>?_) (fun t ht hp Q' hh=>?_) (by omega) (fun D nD=>?_)⟩
     ·walk_at "RD"
      refine⟨_,dgf _ hld3,?_⟩
      rw [Option.isSome_map]
      exact hh
     ·have dg:=dgf (i0 H3 t) hld3
      walk_at "RD"
      obtain⟨n,hn⟩:=Option.isSome_iff_exists.mp hp
      rw [hn] at dg hh
      exact⟨_,dg,_,rfl,hh⟩
     ·rw [z513 kvs pr]
      exact hk' _ _ ⟨D,s3.trans (zz0 nD),upd_same,rfl⟩
    rintro σ H4 ⟨ra,s4,hra,rfl⟩
    have hld4:=(s.trans s4) _ _ hld
    have dgc:=dgf c hld4
    walk_at "RD"
    refine⟨_,dgc,?_⟩
    cases ec:cvOf kvs c with
    | none=>
     rw [if_pos (by simp)]
     have es:someOf kvs (z13 i w sg c)=[]:=List.eq_nil_iff_forall_not_mem.mpr fun m hm=>by
      obtain⟨o,k,n,h1,h2,_⟩:=z469.mp hm
      obtain⟨m',hm'⟩:=(Reach.step hcm h1 (ca.cv.mp h2).1).least (z54 i w sg) _ (Nat.le_refl _)
      rw [ca.cv.mpr hm'] at ec
      cases ec
     refine⟨Nat.zero_le _,fun p np=>⟨_,z60 (SqL.of ((zz0 np) _ _ hra)),_,.lst (SqL.of upd_same) .nil,shaped_ints _,rfl,?_⟩⟩
     rw [es,if_neg (by decide)]
     have dg5:=dgf c ((zz0 (o:=HO.lst []) np) _ _ hld4)
     refine⟨_,dg5,?_⟩
     rw [ec,if_neg (by simp)]
     exact⟨(s.trans s4).trans (zz0 np),_,rfl⟩
    | some m0=>
     rw [if_neg (by simp)]
     rw [ec] at dgc
     refine⟨_,dgc,?_⟩
     rw [if_pos (by simp)]
     refine⟨_,dgc,m0,rfl,?_⟩
     by_cases b:0 < m0
     ·rw [if_pos b]
      have lc:=ca.cv.mp ec
      obtain⟨o,k,n,h1,h2,h3⟩:=lc.next (z54 i w sg) (by omega)
      have sm:=z469.mpr ⟨o,k,n,h1,ca.cv.mpr h2,rfl⟩
      have sn:someOf kvs (z13 i w sg c)≠[]:=List.ne_nil_of_mem sm
      refine⟨Nat.zero_le _,fun p np=>⟨_,z60 (SqL.of ((zz0 np) _ _ hra)),_,.lst (SqL.of upd_same) .nil,shaped_ints _,rfl,?_⟩⟩
      rw [if_neg (by
       cases e:someOf kvs (z13 i w sg c) with
       | nil=>exact absurd e sn
       | cons a b=>exact Bool.false_ne_true)]
      refine⟨_,SqL.of ((zz0 np) _ _ hra),sn,fun m hm hmin=>?_⟩
      have dg5:=dgf c ((zz0 (o:=HO.lst []) np) _ _ hld4)
      rw [ec] at dg5
      refine⟨_,dg5,rfl,?_⟩
      obtain⟨o2,k2,n2,g1,g2,g3⟩:=z469.mp hm
      have u1:=lc.2 _ (Reach.step hcm g1 (ca.cv.mp g2).1)
      have u2:=hmin _ sm
      obtain rfl:m=m0:=by omega
      rw [if_neg (by simp)]
      exact⟨(s.trans s4).trans (zz0 np),_,rfl⟩
     ·rw [if_neg b]
      exact⟨s.trans s4,_,rfl⟩
   ·rintro σ H' ⟨x5,x6,s,rfl⟩
    exact hk _ _ ⟨x5,x6,s,rfl⟩
  rintro σ H2 ⟨x5,x6,s2,rfl⟩
  have hld2:H2 ld=some (.dK (kvs.map fun q=>((Sum.inl q.1:Key),V.int q.2))):=s2 _ _ hld
  have hal2:=s2 _ _ hal
  walk_at "RD"
  refine .inl ⟨ld,_,hld2,_,.inl ⟨hld2,fun o=>z33 (z515 upd_same) (fun _=>false) (fun v=>v) (fun y hy Q' hh=>?_) (fun y hy z=>absurd z (by simp)) (by rw [List.length_map,List.length_map];omega) (fun D nD=>?_)⟩⟩
  ·obtain⟨kv,hkv,rfl⟩:=List.mem_map.mp hy
   obtain⟨q,hq',rfl⟩:=List.mem_map.mp hkv
   have lq:=ca.cv.mp (mem_cv ca.nd hq')
   have q0:=lq.1.nn (z54 i w sg)
   have qm:=lq.1.inC gst
   have dg:DGet (upd H2 ld (HO.frz o (costsD kvs))) ld (kV (Sum.inl q.1)) (valV (kvs.map fun q=>((Sum.inl q.1:Key),V.int q.2)) (.inl q.1)):=.inl ⟨_,_,.inr ⟨o,upd_same⟩,rfl,rfl⟩
   rw [val_cv,mem_cv ca.nd hq'] at dg
   walk_at "RD"
   refine⟨_,.inl (SqL.of (by rw [upd_ne (ne_of hal2 hld2 (fun z=>by cases z))];exact hal2)),rfl,by simp [flatV],?_⟩
   have e:inV (kV (Sum.inl q.1)) ((z4 i sg).map V.int)=true:=(z809 (z:=q.1)).trans (decide_eq_true qm)
   rw [e,if_neg (by decide)]
   refine⟨_,dg,_,rfl,?_⟩
   rw [decide_eq_false (by omega)]
   exact hh
  ·have fz:∀ xs:List V,(xs.filter fun _=>false)=[]:=fun xs=>by simp
   rw [fz]
   obtain⟨t1,t2,t3⟩:=z507 (x:=HO.lst ([].map fun v:V=>v)) hld2 nD
   refine⟨⟨o,t1⟩,Nat.zero_le _,fun p np=>?_⟩
   generalize upd (upd (upd H2 ld _) D _) ld _=H5 at t2 t3 np ⊢
   exact⟨_,z60 (ns:=[]) (SqL.of ((zz0 np) _ _ t2)),_,.lst (SqL.of upd_same) .nil,rfl,rfl,hq _ ((s2.trans t3).trans (zz0 np))⟩
theorem sc_q43:FnScope ["_law_kind","_law_lines_here","_law_left","_law_found","_law_cell","_law_here","_law_goal","_law_steps_here","_law_due"] ["_law_kind","_law_lines_here","_law_left","_law_found","_law_cell"] (defScope s_q43):=⟨rfl,rfl,rfl,by decide +kernel,rfl,by decide +kernel,by decide +kernel⟩
set_option maxHeartbeats 4000000 in
theorem ok_q43 {fd:FuncData}(F:Fun K "_law_walked" "_law_walked" s_q43 ad.q43 fd) (T:Txt K mg ad){fd_q45:FuncData}(B_q45:Binds K fd_q45 ["_law_thing"] []) (G_q45:FnOk P w K mg base CX0 1 ad.q45 fd_q45 ["_law_thing"] (z367 K)){fd_q48:FuncData}(B_q48:Binds K fd_q48 ["_law_kind","_law_lines_here","_law_cell"] []) (G_q48:FnOk P w K mg base CX0 4 ad.q48 fd_q48 ["_law_kind","_law_lines_here","_law_cell"] (z377)):FnOk P w K mg base CX0 5 ad.q43 fd ["_law_kind","_law_lines_here","_law_left","_law_found","_law_cell"] (z476):=by
 refine F.ok sc_q43 (fun vs H Q E h=>?_) (fun cdv A outer s H vs Q E HR h=>?_)
 ·obtain⟨x,l,ld,fd,i,w,h,sg,gs,kvs,c,cs,rfl,_⟩:=h
  rfl
 ·obtain⟨x,l,ld,fd,i,w,h,sg,gs,kvs,c,cs,rfl,hi,hL,g,gst,hld,ca,hfd,csl,wk,hq⟩:=h
  have ND:=sc_q43.nd
  have HU0:=HR.units0
  have HU:=HR.units
  have hA:=HR.hd
  have hz:(100000:Nat)≤sizeLine:=by rw [sizeLine_eq];decide
  refine⟨_,(pss_cons (ps_if (PW.pt (pw_or (pt_not (pt_val (pe_callB z36 (gl_of z293) T.b_isinstance PyProof.Rows.Boot.«isinstance» (pa_cons (pe_var (i:=3) (x:="_law_found") rfl (vis_of z18) z9 z10) (pa_cons (pe_bltn (v:=.ty "list") (gl_of z649) T.b_list PyProof.Rows.Boot.«list» rfl (hn:=n_list) (hd:=d_list)) pa_nil (stp rfl)) (stp rfl)) (hn:=z23) (hdb:=z22) (he:=stp rfl) (hpl:=anp rfl)))) (pw_or (pt_cmpR (op_eqD HU) (pe_var (i:=3) (x:="_law_found") rfl (vis_of z18) z9 z10) (pe_lst pa_nil) (nomark _)) (pw_or1 (pt_cmpR (op_neD HU) (z89 (z8.of (osc:=defScope s_q43) (tn:=["_law_one"]) (cn:=[]) (caps:=[]) rfl rfl (by decide +kernel) (by decide +kernel) (by decide +kernel) (by decide +kernel) rfl) (calm0 rfl)  (pi_list (pe_var (i:=3) (x:="_law_found") rfl (vis_of z18) z9 z10))
 (fun _ _ _ _ _=>(pg_name (i:=0) (show (["_law_one"]:List Str).Nodup by decide +kernel) rfl (Or.inl rfl))) (fun _ _ _ _ _=>(z77 (pt_not (pt_val (pe_call G_q45 (HR.mono (by decide)) (by rfl) T.mg_q45 T.k_q45 B_q45 .nil pass0 (pa_cons (pv 0) pa_nil (stp rfl)) (hdb:=z474) (he:=stp rfl) (hpl:=anp rfl)))))) (fun _ _ _ _ _=>(pv 0))) (pe_lst pa_nil) (nomark _))))))
 (pss_one (ps_ret pe_bl))
 pss_nil)
 (pss_cons (ps_if (PW.pt (pw_or (pt_cmpR op_ne (pe_ix ix_list (pe_var (i:=3) (x:="_law_found") rfl (vis_of z18) z9 z10) pe_int (fun _ _=>rfl)) (pe_var (i:=4) (x:="_law_cell") rfl (vis_of z324) z6 z7) (nomark _)) (pw_or1 (pt_cmpR op_ne (pe_dget (hu1 HU) (pe_var (i:=2) (x:="_law_left") rfl (vis_of z180) z16 z17) (pe_ix ix_list (pe_var (i:=3) (x:="_law_found") rfl (vis_of z18) z9 z10) (pe_un un_neg pe_int) (fun _ _=>rfl)) (fun _ _=>rfl)) pe_int (nomark _)))))
 (pss_one (ps_ret pe_bl))
 pss_nil)
 (pss_cons (ps_for PassesOwn.never (calm0 rfl) (pi_zip (gl_of z734) T.b_zip (pa_cons (pe_var (i:=3) (x:="_law_found") rfl (vis_of z18) z9 z10) (pa_cons (pe_slice sl_list (pe_var (i:=3) (x:="_law_found") rfl (vis_of z18) z9 z10) (po_some pe_int) po_none) pa_nil (stp rfl)) (stp rfl)) (st2 rfl rfl) (st1 rfl)) (pg_tup (n:=2) (calm0 rfl) (pgs_cons (pg_name (i:=5) ND rfl (loc_of (Or.inr z174))) (pgs_cons (pg_name (i:=6) ND rfl (loc_of (Or.inl z172))) pgs_nil)))
 (pss_cons (ps_set (i:=7) ND rfl (loc_of (Or.inl z74)) (pe_call G_q48 (HR.mono (by decide)) (gl_of z268) T.mg_q48 T.k_q48 B_q48 .nil pass0 (pa_cons (pe_var (i:=0) (x:="_law_kind") rfl (vis_of z313) z44 z42) (pa_cons (pe_var (i:=1) (x:="_law_lines_here") rfl (vis_of z164) v2 zz1) (pa_cons (pe_var (i:=5) (x:="_law_here") rfl (vis_of z192) z359 z346) pa_nil (stp rfl)) (stp rfl)) (stp rfl)) (hdb:=z284) (he:=stp rfl) (hpl:=anp rfl)))
 (pss_cons (z373 (i:=8) (z8.of (osc:=defScope s_q43) (tn:=["_law_other","_law_taken"]) (cn:=["_law_left","_law_here"]) (caps:=[2,5]) rfl rfl (by decide +kernel) (by decide +kernel) (by decide +kernel) (by decide +kernel) rfl) (calm0 rfl) ND rfl z217 (pi_list (pe_var (i:=7) (x:="_law_steps_here") rfl (vis_of z169) z253 z259))
 (fun _ _ _ _ _=>(z473 rfl (calm0 rfl) (show (["_law_other","_law_taken","_law_left","_law_here"]:List Str).Nodup by decide +kernel) (Or.inl rfl) (Or.inl rfl) rfl rfl)) (fun _ _ _ _ _=>(z77 (PW.pt (pw_and (pt_cmp (pc_din (hu1 HU) (pv 0) (pv 2)) (by with_unfolding_all rfl)) (pw_and1 (pt_cmpR op_eq (pe_op op_add (pv 1) (pe_dget (hu1 HU) (pv 2) (pv 0) (fun _ _=>rfl))) (pe_dget (hu1 HU) (pv 2) (pv 3) (fun _ _=>rfl)) (nomark _))))))) (fun _ _ _ _ _=>(pv 0)) (hsw:=by rfl))
 (pss_one (ps_if (PW.pt (pw_or (pt_cmpR op_eq (pe_dget (hu1 HU) (pe_var (i:=2) (x:="_law_left") rfl (vis_of z180) z16 z17) (pe_var (i:=5) (x:="_law_here") rfl (vis_of z192) z359 z346) (fun _ _=>rfl)) pe_int (nomark _)) (pw_or (pt_cmpR (op_eqD HU) (pe_var (i:=8) (x:="_law_due") rfl (vis_of z210) z457 z436) (pe_lst pa_nil) (nomark _)) (pw_or1 (pt_cmpR op_ne (pe_var (i:=6) (x:="_law_goal") rfl (vis_of z333) z565 z552) (pe_ix ix_list (pe_var (i:=8) (x:="_law_due") rfl (vis_of z210) z457 z436) pe_int (fun _ _=>rfl)) (nomark _))))))
 (pss_one (ps_ret pe_bl))
 pss_nil)))))
 (pss_one (ps_ret pe_bl))))),?_⟩
  have dgf:∀ {H':Hp}{a:Addr}(z:Int),H' a=some (costsD kvs)→DGet H' a (.int z) ((cvOf kvs z).map V.int):=fun{H'} {a} z e=>by
   have dg:=DGet.k (k:=.inl z) (show H' a=some (.dK (kvs.map fun q=>((Sum.inl q.1:Key),V.int q.2))) from e)
   rw [val_cv] at dg
   exact dg
  obtain⟨w0,z,wz,hz,wne⟩:=z718 wk
  have ne0:¬ (PyData.list (cs.map PyData.int)).eqv (PyData.list [])=true:=by
   cases e:cs with
   | nil=>exact absurd e wne
   | cons a b=>exact Bool.false_ne_true
  refine y3 (fun σ H'=>Same H H'∧σ=[some (V.str x),some (V.ref l),some (V.ref ld),some (V.ref fd),some (V.int c),none,none,none,none]) (fun nx hk=>?_) ?_
  ·walk_at "RD"
   refine⟨_,.lst hfd,true,rfl,?_⟩
   rw [if_neg (by decide)]
   refine⟨Nat.zero_le _,fun p np=>⟨_,z60 (SqL.of ((zz0 np) _ _ hfd)),_,.lst (SqL.of upd_same) .nil,shaped_ints _,rfl,?_⟩⟩
   rw [if_neg ne0]
   have hfd2:=(zz0 (o:=HO.lst []) np) _ _ hfd
   refine⟨⟨_,SqL.of hfd2⟩,z33 (src_list (SqL.of hfd2)) (fun _=>false) (fun v=>v) (fun y hy Q' hh=>?_) (fun y hy z=>absurd z (by simp)) (by rw [List.length_map];omega) (fun D nD=>?_)⟩
   ·obtain⟨c,hcm,rfl⟩:=List.mem_map.mp hy
    walk_at "RD"
    exact⟨_,rfl,⟨_,.int _⟩,true,rfl,hh⟩
   ·have fz:∀ xs:List V,(xs.filter fun _=>false)=[]:=fun xs=>by simp
    rw [fz]
    refine⟨Nat.zero_le _,fun p2 np2=>⟨_,z60 (ns:=[]) (SqL.of ((zz0 np2) _ _ upd_same)),_,.lst (SqL.of upd_same) .nil,rfl,rfl,?_⟩⟩
    rw [if_neg (by decide)]
    exact hk _ _ ⟨(zz0 np).trans ((zz0 nD).trans (zz0 np2)),rfl⟩
  rintro σ H1 ⟨s1,rfl⟩
  refine y3 (fun σ H'=>H'=H1∧σ=[some (V.str x),some (V.ref l),some (V.ref ld),some (V.ref fd),some (V.int c),none,none,none,none]) (fun nx hk=>?_) ?_
  ·have dz:=dgf z (s1 _ _ hld)
   rw [hz] at dz
   walk_at "RD"
   refine⟨_,SqL.of (s1 _ _ hfd),_,w0,rfl,?_⟩
   rw [if_neg (by simp)]
   refine⟨_,SqL.of (s1 _ _ hfd),_,wz,_,dz,rfl,?_⟩
   rw [if_neg (by simp)]
   exact hk _ _ ⟨rfl,rfl⟩
  rintro σ H1 ⟨rfl,rfl⟩
  refine y3 (fun σ H'=>Same H H'∧∃ (x5 x6 x7 x8:Option V),σ=[some (V.str x),some (V.ref l),some (V.ref ld),some (V.ref fd),some (V.int c),x5,x6,x7,x8]) (fun nx hk=>?_) ?_
  ·walk_at "RDS"
   have l0:0 < cs.length:=List.length_pos_iff.mpr wne
   have ct:cutV (cs.map V.int) (some 1) none=(cs.drop 1).map V.int:=by
    have:=z760 (xs:=cs.map V.int) (i:=0) (by rw [List.length_map];exact l0)
    rw [List.map_drop]
    exact this
   refine⟨_,SqL.of (s1 _ _ hfd),fun p np=>?_⟩
   rw [ct]
   have s3:Same H (upd H1 p (.lst ((cs.drop 1).map V.int))):=s1.trans (zz0 np)
   have hp:=upd_same (H:=H1) (a:=p) (o:=HO.lst ((cs.drop 1).map V.int))
   generalize upd H1 p (.lst ((cs.drop 1).map V.int))=H3 at s3 hp ⊢
   refine⟨_,SqL.of (s3 _ _ hfd),_,SqL.of hp,z820 (K:=K) (a:=fd) (b:=p) (xs:=cs.map V.int) (ys:=(cs.drop 1).map V.int) (fun j σ H'=>Same H3 H'∧∃ (x5 x6 x7 x8:Option V),σ=[some (V.str x),some (V.ref l),some (V.ref ld),some (V.ref fd),some (V.int c),x5,x6,x7,x8]) ⟨fun _ _ e=>e,none,none,none,none,rfl⟩ ?_ ?_ ?_⟩
   ·rintro j σ H' ⟨s,_⟩
    exact⟨SqL.of (s _ _ (s3 _ _ hfd)),SqL.of (s _ _ hp)⟩
   ·rintro j y1 y2 σ H4 T hy1 hy2 ⟨s4,x5,x6,x7,x8,rfl⟩ nT
    rw [List.getElem?_map] at hy1 hy2
    obtain⟨c1,hc1,rfl⟩:=Option.map_eq_some_iff.mp hy1
    obtain⟨c2,hc2,rfl⟩:=Option.map_eq_some_iff.mp hy2
    rw [List.getElem?_drop,Nat.add_comm] at hc2
    obtain⟨k,hk1,k0,hh⟩:=wk.pair j hc1 hc2
    have cF:=z494 ca gst hk1
    have s5:Same H (upd H4 T (.tup [.int c1,.int c2])):=s3.trans (s4.trans (zz0 nT))
    have s35:Same H3 (upd H4 T (.tup [.int c1,.int c2])):=s4.trans (zz0 nT)
    have hT:=upd_same (H:=H4) (a:=T) (o:=HO.tup [.int c1,.int c2])
    generalize upd H4 T (.tup [.int c1,.int c2])=H5 at s5 s35 hT ⊢
    walk_at "RDS"
    refine⟨_,SqT.of hT,rfl,_,_,rfl,_,_,rfl,rfl,?_⟩
    refine y3 (fun σ H'=>∃ (r:Addr) (ts:List Addr),Same H5 H'∧H' r=some (.lst (ts.map V.ref))∧Paired (PairAt H') ts (z13 i w sg c1)∧σ=[some (V.str x),some (V.ref l),some (V.ref ld),some (V.ref fd),some (V.int c),some (V.int c1),some (V.int c2),some (V.ref r),x8]) (fun nx' hk'=>?_) ?_
    ·walk_at "RD"
     refine⟨x,i,l,w,h,sg,c1,rfl,hi,s5 _ _ hL,g,cF.2,fun r H6 nr s6 pL=>?_⟩
     rw [← z628 g cF.2.1 cF.2.2 (List.mem_filter.mp cF.1).2] at pL
     obtain⟨ts,hts,pr⟩:=pL
     exact hk' _ _ ⟨r,ts,s6,hts,pr,rfl⟩
    rintro σ H6 ⟨r,ts,s6,hts,pr,rfl⟩
    have lts:=Paired.length pr
    have sl:=z222 (i:=i) (w:=w) (sg:=sg) (c:=c1)
    have hld6:=s6 _ _ (s5 _ _ hld)
    have dk:=dgf c1 hld6
    rw [hk1] at dk
    refine y3 (fun σ H'=>∃ (D:Addr),Same H5 H'∧H' D=some (.lst ((nxt i w sg kvs c1 k).map V.int))∧σ=[some (V.str x),some (V.ref l),some (V.ref ld),some (V.ref fd),some (V.int c),some (V.int c1),some (V.int c2),some (V.ref r),some (V.ref D)]) (fun nx' hk'=>?_) ?_
    ·walk_at "RD"
     refine⟨⟨_,SqL.of hts⟩,z272 (u:=fun t=>V.int (i0 H6 t)) (v:=fun t=>V.int (i1 H6 t)) (src_list (SqL.of hts)) (fun t ht=>z604 pr ht) (fun t=>decide ((cvOf kvs (i0 H6 t)).map (i1 H6 t + ·)=some k)) (fun t=>V.int (i0 H6 t)) (fun t ht Q' hh=>?_) (fun t ht hp Q' hh=>by walk_at "RD";exact hh) (by omega) (fun D nD=>?_)⟩
     ·have dg:=dgf (i0 H6 t) hld6
      walk_at "RD"
      refine⟨_,dg,?_⟩
      cases e:cvOf kvs (i0 H6 t) with
      | none=>
       rw [e] at hh
       rw [if_neg (by simp)]
       simpa using hh
      | some m=>
       rw [e] at hh dg
       rw [if_pos (by simp)]
       refine⟨_,dg,_,rfl,_,dk,rfl,?_⟩
       have e2:decide (V.int (i1 H6 t + m)=V.int k)=decide ((some m).map (i1 H6 t + ·)=some k):=by simp
       rw [e2]
       exact hh
     ·rw [z376 pr]
      exact hk' _ _ ⟨D,s6.trans (zz0 nD),upd_same,rfl⟩
    rintro σ H7 ⟨D,s7,hD,rfl⟩
    have dk7:=dgf c1 (s7 _ _ (s5 _ _ hld))
    rw [hk1] at dk7
    walk_at "RD"
    refine⟨_,dk7,rfl,?_⟩
    rw [if_neg (by simpa using k0)]
    refine⟨Nat.zero_le _,fun p2 np2=>⟨_,z60 (SqL.of ((zz0 np2) _ _ hD)),_,.lst (SqL.of upd_same) .nil,shaped_ints _,rfl,?_⟩⟩
    obtain⟨ys,hys⟩:∃ ys,nxt i w sg kvs c1 k=c2::ys:=by
     cases e:nxt i w sg kvs c1 k with
     | nil=>rw [show nextOf (z13 i w sg) (cvOf kvs) c1 k=[] from e] at hh;cases hh
     | cons a b=>rw [show nextOf (z13 i w sg) (cvOf kvs) c1 k=a::b from e] at hh;cases hh;exact⟨b,rfl⟩
    rw [hys] at hD ⊢
    rw [if_neg (show ¬ (PyData.list ((c2::ys).map PyData.int)).eqv (PyData.list [])=true from Bool.false_ne_true)]
    refine⟨_,SqL.of ((zz0 np2) _ _ hD),_,atI_nat (j:=0) rfl,rfl,?_⟩
    rw [if_neg (by simp)]
    exact⟨(s35.trans s7).trans (zz0 np2),_,rfl⟩
   ·rintro σ H' ⟨s,x5,x6,x7,x8,rfl⟩
    exact hk _ _ ⟨s3.trans s,x5,x6,x7,x8,rfl⟩
  rintro σ H2 ⟨s2,x5,x6,x7,x8,rfl⟩
  walk_at "RD"
  exact hq _ s2
theorem z631:FnScope ["_law_script","_law_carrier","_law_floor","_law_lines_here","_law_left","_law_goals","_law_able","_law_k","_law_cell","_law_handed","_law_found","_law_again"] ["_law_script","_law_carrier","_law_floor","_law_lines_here","_law_left","_law_goals","_law_able"] (defScope z12):=⟨rfl,rfl,rfl,by decide +kernel,rfl,by decide +kernel,by decide +kernel⟩
set_option maxHeartbeats 4000000 in
theorem z763 {fd:FuncData}(F:Fun K "_law_each" "_law_each" z12 ad.Leach fd) (T:Txt K mg ad){fd_Lat:FuncData}(B_Lat:Binds K fd_Lat ["_law_script","_law_k"] []) (G_Lat:FnOk P w K mg base CX0 1 ad.Lat fd_Lat ["_law_script","_law_k"] (spAt K)){fd_q37:FuncData}(B_q37:Binds K fd_q37 ["floor","carrier","cell","goals"] []) (G_q37:FnOk P w K mg base CX0 8 ad.q37 fd_q37 ["floor","carrier","cell","goals"] (z590 ad)){fd_q43:FuncData}(B_q43:Binds K fd_q43 ["_law_kind","_law_lines_here","_law_left","_law_found","_law_cell"] []) (G_q43:FnOk P w K mg base CX0 5 ad.q43 fd_q43 ["_law_kind","_law_lines_here","_law_left","_law_found","_law_cell"] (z476)){fd_q12:FuncData}(B_q12:Binds K fd_q12 ["self"] []) (G_q12:FnOk P w K mg base CX0 1 ad.q12 fd_q12 ["self"] (spKind "carrier")){fd_q33:FuncData}(B_q33:Binds K fd_q33 ["self"] []) (G_q33:FnOk P w K mg base CX0 1 ad.q33 fd_q33 ["self"] (spKind "cart")){fd_q14:FuncData}(B_q14:Binds K fd_q14 ["self"] []) (G_q14:FnOk P w K mg base CX0 1 ad.q14 fd_q14 ["self"] (spKind "crawler")){fd_q18:FuncData}(B_q18:Binds K fd_q18 ["self"] []) (G_q18:FnOk P w K mg base CX0 1 ad.q18 fd_q18 ["self"] (spKind "runner")):FnOk P w K mg base CX0 9 ad.Leach fd ["_law_script","_law_carrier","_law_floor","_law_lines_here","_law_left","_law_goals","_law_able"] (spEach ad K):=by
 refine F.ok z631 (fun vs H Q E h=>?_) (fun cdv A outer s H vs Q E HR h=>?_)
 ·obtain⟨a,p,fl,l,ld,gl,al,ns,x,i,n,w,h,sg,gs,kvs,rfl,_⟩:=h
  rfl
 ·obtain⟨a,p,fl,l,ld,gl,al,ns,x,i,n,w,h,sg,gs,kvs,rfl,hS,hl,hc,hi,F0,g,hx,hL,hal,ane,hgl,gln,gst,hld,ca,hq⟩:=h
  have ND:=z631.nd
  have HU0:=HR.units0
  have HU:=HR.units
  have hA:=HR.hd
  have hz:(100000:Nat)≤sizeLine:=by rw [sizeLine_eq];decide
  refine⟨_,(pss_cons (ps_for PassesOwn.never (calm0 rfl) (pi_range1 (gl_of z439) T.b_range (pa_cons (pe_callB (call_min2 rfl) (gl_of z537) T.b_min PyProof.Rows.Boot.«min» (pa_cons pe_int (pa_cons (pe_callB call_len_seq (gl_of z363) T.b_len PyProof.Rows.Boot.«len» (pa_cons (pe_var (i:=6) (x:="_law_able") rfl (vis_of z69) z50 z51) pa_nil (stp rfl)) (hn:=n_len) (hdb:=d_len) (he:=stp rfl) (hpl:=anp rfl)) pa_nil (stp rfl)) (stp rfl)) (hn:=n_min) (hdb:=d_min) (he:=stp rfl) (hpl:=anp rfl)) pa_nil (stp rfl)) (st1 rfl)) (pg_name (i:=7) ND rfl (loc_of (Or.inl z201)))
 (pss_cons (ps_set (i:=8) ND rfl (loc_of (Or.inl z123)) (pe_ix ix_list (pe_var (i:=6) (x:="_law_able") rfl (vis_of z69) z50 z51) (pe_op op_mod (pe_call G_Lat (HR.mono (by decide)) (gl_of z334) T.mg_Lat T.k_Lat B_Lat .nil pass0 (pa_cons (pe_var (i:=0) (x:="_law_script") rfl (vis_of z216) z21 z20) (pa_cons (pe_op op_add pe_int (pe_var (i:=7) (x:="_law_k") rfl (vis_of z390) z79 z78)) pa_nil (stp rfl)) (stp rfl)) (hdb:=z161) (he:=stp rfl) (hpl:=anp rfl)) (pe_callB call_len_seq (gl_of z363) T.b_len PyProof.Rows.Boot.«len» (pa_cons (pe_var (i:=6) (x:="_law_able") rfl (vis_of z69) z50 z51) pa_nil (stp rfl)) (hn:=n_len) (hdb:=d_len) (he:=stp rfl) (hpl:=anp rfl))) (fun _ _=>rfl)))
 (pss_cons (ps_set (i:=9) ND rfl (loc_of (Or.inl z91)) (pe_callTy call_list_of (gl_of z464) T.b_list PyProof.Rows.Boot.«list» (pa_cons (pe_var (i:=5) (x:="_law_goals") rfl (vis_of z98) z56 z57) pa_nil (stp rfl)) (hn:=n_list) (hdb:=d_list) (he:=stp rfl) (hpl:=anp rfl)))
 (pss_cons (ps_set (i:=10) ND rfl (loc_of (Or.inl z104)) (pe_call G_q37 (HR.mono (by decide)) (gl_of z231) T.mg_q37 T.k_q37 B_q37 .nil pass0 (pa_cons (pe_var (i:=2) (x:="_law_floor") rfl (vis_of z58) z40 z39) (pa_cons (pe_var (i:=1) (x:="_law_carrier") rfl (vis_of z31) z15 z14) (pa_cons (pe_var (i:=8) (x:="_law_cell") rfl (vis_of z34) z6 z7) (pa_cons (pe_var (i:=9) (x:="_law_handed") rfl (vis_of z55) z142 z131) pa_nil (stp rfl)) (stp rfl)) (stp rfl)) (stp rfl)) (hdb:=d_q37) (he:=stp rfl) (hpl:=anp rfl)))
 (pss_cons (ps_if (PW.pt (pw_or (pt_cmpR (op_neD HU) (pe_var (i:=9) (x:="_law_handed") rfl (vis_of z55) z142 z131) (pe_var (i:=5) (x:="_law_goals") rfl (vis_of z98) z56 z57) (nomark _)) (pw_or1 (pt_cmpR op_ne (pe_cmpR op_isN (pe_var (i:=10) (x:="_law_found") rfl (vis_of z28) z9 z10) pe_non (nomark _)) (pe_cmp (pc_dnotin (hu1 HU) (pe_var (i:=8) (x:="_law_cell") rfl (vis_of z34) z6 z7) (pe_var (i:=4) (x:="_law_left") rfl (vis_of z121) z16 z17)) (by with_unfolding_all rfl)) (nomark _)))))
 (pss_one (ps_ret pe_bl))
 pss_nil)
 (pss_cons (ps_if (pt_cmpR op_notN (pe_var (i:=10) (x:="_law_found") rfl (vis_of z28) z9 z10) pe_non (nomark _))
 (pss_cons (ps_if (pt_not (pt_val (pe_call G_q43 (HR.mono (by decide)) (gl_of z219) T.mg_q43 T.k_q43 B_q43 .nil pass0 (pa_cons (z680 (k:=1) (pe_var (i:=1) (x:="_law_carrier") rfl (vis_of z31) z15 z14) (z5 T.cl_Cart T.m_q33 G_q33 (by decide) B_q33 (z5 T.cl_Crawler T.m_q14 G_q14 (by decide) B_q14 (z5 T.cl_Runner T.m_q18 G_q18 (by decide) B_q18 (z5 T.cl_Carrier T.m_q12 G_q12 (by decide) B_q12 z111)))) (HR.mono (by decide))) (pa_cons (pe_var (i:=3) (x:="_law_lines_here") rfl (vis_of z129) v2 zz1) (pa_cons (pe_var (i:=4) (x:="_law_left") rfl (vis_of z121) z16 z17) (pa_cons (pe_var (i:=10) (x:="_law_found") rfl (vis_of z28) z9 z10) (pa_cons (pe_var (i:=8) (x:="_law_cell") rfl (vis_of z34) z6 z7) pa_nil (stp rfl)) (stp rfl)) (stp rfl)) (stp rfl)) (stp rfl)) (hdb:=z437) (he:=stp rfl) (hpl:=anp rfl))))
 (pss_one (ps_ret pe_bl))
 pss_nil)
 (pss_cons (ps_expr (pe_bm PySem.F.plainAttrs_list PySem.F.slot_list_append PySem.F.type_list_append mt_append (pe_var (i:=10) (x:="_law_found") rfl (vis_of z28) z9 z10) (pa_cons (pe_un un_neg pe_int) pa_nil (stp rfl))))
 (pss_cons (ps_set (i:=11) ND rfl (loc_of (Or.inl z105)) (pe_call G_q37 (HR.mono (by decide)) (gl_of z231) T.mg_q37 T.k_q37 B_q37 .nil pass0 (pa_cons (pe_var (i:=2) (x:="_law_floor") rfl (vis_of z58) z40 z39) (pa_cons (pe_var (i:=1) (x:="_law_carrier") rfl (vis_of z31) z15 z14) (pa_cons (pe_var (i:=8) (x:="_law_cell") rfl (vis_of z34) z6 z7) (pa_cons (pe_var (i:=9) (x:="_law_handed") rfl (vis_of z55) z142 z131) pa_nil (stp rfl)) (stp rfl)) (stp rfl)) (stp rfl)) (hdb:=d_q37) (he:=stp rfl) (hpl:=anp rfl)))
 (pss_one (ps_if (pt_cmpR (op_neD HU) (pe_var (i:=11) (x:="_law_again") rfl (vis_of z223) z470 z482) (pe_slice sl_list (pe_var (i:=10) (x:="_law_found") rfl (vis_of z28) z9 z10) po_none (po_some (pe_un un_neg pe_int))) (nomark _))
 (pss_one (ps_ret pe_bl))
 pss_nil)))))
 pss_nil)
 (pss_one (ps_if (pt_cmpR op_notN (pe_call G_q37 (HR.mono (by decide)) (gl_of z231) T.mg_q37 T.k_q37 B_q37 .nil pass0 (pa_cons (pe_var (i:=2) (x:="_law_floor") rfl (vis_of z58) z40 z39) (pa_cons (pe_var (i:=1) (x:="_law_carrier") rfl (vis_of z31) z15 z14) (pa_cons (pe_var (i:=8) (x:="_law_cell") rfl (vis_of z34) z6 z7) (pa_cons (pe_lst pa_nil) pa_nil (stp rfl)) (stp rfl)) (stp rfl)) (stp rfl)) (hdb:=d_q37) (he:=stp rfl) (hpl:=anp rfl)) pe_non (nomark _))
 (pss_one (ps_ret pe_bl))
 pss_nil))))))))
 (pss_one (ps_ret pe_bl))),?_⟩
  have dgf:∀ {H':Hp}{a:Addr}(z:Int),H' a=some (costsD kvs)→DGet H' a (.int z) ((cvOf kvs z).map V.int):=fun{H'} {a} z e=>by
   have dg:=DGet.k (k:=.inl z) (show H' a=some (.dK (kvs.map fun q=>((Sum.inl q.1:Key),V.int q.2))) from e)
   rw [val_cv] at dg
   exact dg
  have stl:=z163 g i
  have st0:0 < (z4 i sg).length:=List.length_pos_iff.mpr ane
  obtain⟨dp,hp⟩:=id hc
  have lk:(putF "full" (V.int n) []).lookup ("kind":Str)=none:=l_no n (by decide +kernel)
  refine y3 (fun σ H'=>∃ (x7 x8 x9 x10 x11:Option V),σ=[some (V.ref a),some (V.ref p),some (V.ref fl),some (V.ref l),some (V.ref ld),some (V.ref gl),some (V.ref al),x7,x8,x9,x10,x11]) (fun nx hk=>?_) ?_
  ·walk_at "RDS"
   refine⟨_,.inl (SqL.of hal),by rw [List.length_map];split <;> omega,by rw [List.length_map];split <;> omega,for_range (fun j σ H'=>Same H H'∧∃ (x7 x8 x9 x10 x11:Option V),σ=[some (V.ref a),some (V.ref p),some (V.ref fl),some (V.ref l),some (V.ref ld),some (V.ref gl),some (V.ref al),x7,x8,x9,x10,x11]) ⟨fun _ _ e=>e,none,none,none,none,none,rfl⟩ ?_ ?_⟩
   ·rintro j σ H1 hj ⟨s1,x7,x8,x9,x10,x11,rfl⟩
    rw [List.length_map] at hj
    have j6:j < 6:=by
     split at hj <;> omega
    simp only [gName,List.set_cons_succ,List.set_cons_zero]
    refine y3 (fun σ H'=>∃ c,c∈z4 i sg∧H'=H1∧σ=[some (V.ref a),some (V.ref p),some (V.ref fl),some (V.ref l),some (V.ref ld),some (V.ref gl),some (V.ref al),some (V.int (0 + (j:Int))),some (V.int c),x9,x10,x11]) (fun nx' hk'=>?_) ?_
    ·walk_at "RD"
     refine⟨a,ns,_,rfl,Same.seq s1 hS,hl,by omega,by omega,fun r r0 r1=>⟨_,.inl (SqL.of (s1 _ _ hal)),⟨r,rfl,?_⟩⟩⟩
     obtain⟨c,hcm,ea⟩:=at_mod st0 r
     exact⟨by rw [List.length_map];omega,_,SqL.of (s1 _ _ hal),_,ea,hk' _ _ ⟨c,hcm,rfl,rfl⟩⟩
    rintro σ H1 ⟨c,hcm,rfl,rfl⟩
    have cF:=z196 (List.mem_filter.mp hcm).1
    refine y3 (fun σ H'=>∃ hd,H1 hd=none∧H'=upd H1 hd (.lst (gs.map V.int))∧σ=[some (V.ref a),some (V.ref p),some (V.ref fl),some (V.ref l),some (V.ref ld),some (V.ref gl),some (V.ref al),some (V.int (0 + (j:Int))),some (V.int c),some (V.ref hd),x10,x11]) (fun nx' hk'=>?_) ?_
    ·walk_at "RD"
     exact⟨_,.inl (SqL.of (s1 _ _ hgl)),fun hd nhd=>hk' _ _ ⟨hd,nhd,rfl,rfl⟩⟩
    rintro σ _ ⟨hd,nhd,rfl,rfl⟩
    have s2:Same H (upd H1 hd (.lst (gs.map V.int))):=s1.trans (zz0 nhd)
    have hhd:=upd_same (H:=H1) (a:=hd) (o:=HO.lst (gs.map V.int))
    generalize upd H1 hd (.lst (gs.map V.int))=H2 at s2 hhd ⊢
    refine y3 (fun σ H'=>∃ v,Same H2 H'∧((v=V.non∧cvOf kvs c=none)∨∃ r cs,v=V.ref r∧H2 r=none∧H' r=some (.lst (cs.map V.int))∧cs.length≤100∧Walk (z13 i w sg) (cvOf kvs) c cs)∧σ=[some (V.ref a),some (V.ref p),some (V.ref fl),some (V.ref l),some (V.ref ld),some (V.ref gl),some (V.ref al),some (V.int (0 + (j:Int))),some (V.int c),some (V.ref hd),some v,x11]) (fun nx' hk'=>?_) ?_
    ·walk_at "RD"
     refine⟨p,fl,hd,i,n,w,h,sg,gs,c,rfl,hc.same s2,by omega,F0.same s2,g,hhd,gln,gst,fun kv2 H3 ca2 s3=>?_⟩
     rw [ca2.uniq ca]
     exact⟨fun e=>hk' _ _ ⟨_,s3,.inl ⟨rfl,e⟩,rfl⟩,fun r cs nr hr lr wk=>hk' _ _ ⟨_,s3,.inr ⟨r,cs,rfl,nr,hr,lr,wk⟩,rfl⟩⟩
    rintro σ H3 ⟨v,s3,hv,rfl⟩
    have s03:=s2.trans s3
    have hld3:=s03 _ _ hld
    refine y3 (fun σ H'=>H'=H3∧σ=[some (V.ref a),some (V.ref p),some (V.ref fl),some (V.ref l),some (V.ref ld),some (V.ref gl),some (V.ref al),some (V.int (0 + (j:Int))),some (V.int c),some (V.ref hd),some v,x11]) (fun nx' hk'=>?_) ?_
    ·walk_at "RD"
     refine⟨_,z60 (SqL.of (s3 _ _ hhd)),_,z60 (SqL.of (s03 _ _ hgl)),shaped_ints _,shaped_ints _,?_⟩
     rw [z386 _ (SeqAt.canLay_of_shaped (shaped_ints gs)),if_neg (by decide)]
     refine⟨_,dgf c hld3,?_⟩
     rcases hv with ⟨rfl,e⟩ | ⟨r,cs,rfl,nr,hr,lr,wk⟩
     ·rw [e,if_neg (by simp)]
      exact hk' _ _ ⟨rfl,rfl⟩
     ·obtain⟨m,hm⟩:=Option.isSome_iff_exists.mp (wk.some c (List.mem_of_mem_head? wk.head))
      rw [hm,if_neg (by simp)]
      exact hk' _ _ ⟨rfl,rfl⟩
    rintro σ H3 ⟨rfl,rfl⟩
    refine y3 (fun σ H'=>∃ (x11:Option V),Same H2 H'∧σ=[some (V.ref a),some (V.ref p),some (V.ref fl),some (V.ref l),some (V.ref ld),some (V.ref gl),some (V.ref al),some (V.int (0 + (j:Int))),some (V.int c),some (V.ref hd),some v,x11]) (fun nx' hk'=>?_) ?_
    ·rcases hv with ⟨rfl,e⟩ | ⟨r,cs,rfl,nr,hr,lr,wk⟩
     ·walk_at "RD"
      rw [if_neg (by simp)]
      exact hk' _ _ ⟨_,s3,rfl⟩
     ·walk_at "RD"
      rw [if_pos (by simp)]
      refine⟨p,dp,_,(clsOf ad i,spKind x),z804 hx hi,rfl,s03 _ _ hp,lk,_,rfl,x,l,ld,r,i,w,h,sg,gs,kvs,c,cs,rfl,hx,s03 _ _ hL,g,gst,hld3,ca,hr,lr,wk,fun H4 s4=>⟨_,rfl,?_⟩⟩
      rw [if_neg (by decide)]
      have hr4:=s4 _ _ hr
      refine⟨.inl ⟨rfl,_,SqL.of hr4⟩,_,hr4,by rw [List.length_map];omega,?_⟩
      have ez:cs.map V.int++[V.int (-1)]=(cs++[-1]).map V.int:=by simp
      rw [ez]
      have s5:Same H2 (upd H4 r (.lst ((cs++[-1]).map V.int))):=fun b o e=>by rw [upd_ne (ne_of_none e nr)];exact(s3.trans s4) _ _ e
      have hr5:=upd_same (H:=H4) (a:=r) (o:=HO.lst ((cs++[-1]).map V.int))
      generalize upd H4 r (.lst ((cs++[-1]).map V.int))=H5 at s5 hr5 ⊢
      refine⟨p,fl,hd,i,n,w,h,sg,gs,c,rfl,hc.same (s2.trans s5),by omega,F0.same (s2.trans s5),g,s5 _ _ hhd,gln,gst,fun kv2 H6 ca2 s6=>?_⟩
      rw [ca2.uniq ca]
      refine⟨fun e=>?_,fun r2 cs2 nr2 hr2 lr2 wk2=>?_⟩
      ·have:=wk.some c (List.mem_of_mem_head? wk.head)
       rw [e] at this
       cases this
      obtain rfl:=wk2.uniq wk
      refine⟨_,SqL.of (s6 _ _ hr5),fun p1 np1=>?_⟩
      rw [z768]
      refine⟨_,z60 (SqL.of ((zz0 np1) _ _ hr2)),_,z60 (SqL.of upd_same),shaped_ints _,shaped_ints _,?_⟩
      rw [z386 _ (SeqAt.canLay_of_shaped (shaped_ints _)),if_neg (by decide)]
      exact hk' _ _ ⟨_,(s5.trans s6).trans (zz0 np1),rfl⟩
    rintro σ H4 ⟨x11,s4,rfl⟩
    have s04:=s2.trans s4
    walk_at "RD"
    refine⟨Nat.zero_le _,fun q nq=>?_⟩
    have s5:=s04.trans (zz0 (o:=HO.lst []) nq)
    refine⟨p,fl,q,i,n,w,h,sg,[],c,rfl,hc.same s5,by omega,F0.same s5,g,upd_same,by simp,by simp,fun kv2 H6 ca2 s6=>⟨fun e=>by show if ¬V.non=V.non then Q (V.bl false) H6 else(Same H H6∧∃ x,x11=x);rw [if_neg (by simp)];exact⟨s5.trans s6,_,rfl⟩,fun r2 cs2 nr2 hr2 lr2 wk2=>?_⟩⟩
    obtain⟨m,hm⟩:=Option.isSome_iff_exists.mp (wk2.some c (List.mem_of_mem_head? wk2.head))
    exact(z641 (ca2.cv.mp hm).1).elim
   ·rintro σ H' ⟨s,x7,x8,x9,x10,x11,rfl⟩
    exact hk _ _ ⟨x7,x8,x9,x10,x11,rfl⟩
  rintro σ H2 ⟨x7,x8,x9,x10,x11,rfl⟩
  walk_at "RD"
  exact hq _
theorem sc_law:FnScope ["_law_script","_law_lines_here","_law_floor","_law_cell","_law_kind","_law_carrier","_law_able","_law_goals","_law_left"] ["_law_script"] (defScope s_law):=⟨rfl,rfl,rfl,by decide +kernel,rfl,by decide +kernel,by decide +kernel⟩
set_option maxHeartbeats 4000000 in
theorem ok_law {fd:FuncData}(F:Fun K "law" "law" s_law ad.law fd) (T:Txt K mg ad){fd_q46:FuncData}(B_q46:Binds K fd_q46 ["_law_script","_law_k","_law_most"] []) (G_q46:FnOk P w K mg base CX0 2 ad.q46 fd_q46 ["_law_script","_law_k","_law_most"] (z625 K)){fd_Lat:FuncData}(B_Lat:Binds K fd_Lat ["_law_script","_law_k"] []) (G_Lat:FnOk P w K mg base CX0 1 ad.Lat fd_Lat ["_law_script","_law_k"] (spAt K)){fd_q23:FuncData}(B_q23:Binds K fd_q23 ["self","lines"] []) (G_q23:FnOk P w K mg base CX0 4 ad.q23 fd_q23 ["self","lines"] (spInit ad.C_Floor)){fd_q25:FuncData}(B_q25:Binds K fd_q25 ["kind","full"] []){td_carrier_of0:Tok}(BD_q25:Binds K fd_q25 ["kind","full"] [.int 20 td_carrier_of0]) (G_q25:FnOk P w K mg base CX0 3 ad.q25 fd_q25 ["kind","full"] (spMake ad)){fd_q47:FuncData}(B_q47:Binds K fd_q47 ["_law_lines_here"] []) (G_q47:FnOk P w K mg base CX0 2 ad.q47 fd_q47 ["_law_lines_here"] (z381)){fd_q41:FuncData}(B_q41:Binds K fd_q41 ["_law_kind","_law_sign_here"] []) (G_q41:FnOk P w K mg base CX0 1 ad.q41 fd_q41 ["_law_kind","_law_sign_here"] (z393)){fd_Lsign:FuncData}(B_Lsign:Binds K fd_Lsign ["_law_lines_here","_law_cell"] []) (G_Lsign:FnOk P w K mg base CX0 1 ad.Lsign fd_Lsign ["_law_lines_here","_law_cell"] (z443)){fd_q42:FuncData}(B_q42:Binds K fd_q42 ["_law_kind","_law_lines_here","_law_able","_law_goals","_law_left"] []) (G_q42:FnOk P w K mg base CX0 5 ad.q42 fd_q42 ["_law_kind","_law_lines_here","_law_able","_law_goals","_law_left"] (z471)){fd_Leach:FuncData}(B_Leach:Binds K fd_Leach ["_law_script","_law_carrier","_law_floor","_law_lines_here","_law_left","_law_goals","_law_able"] []) (G_Leach:FnOk P w K mg base CX0 9 ad.Leach fd_Leach ["_law_script","_law_carrier","_law_floor","_law_lines_here","_law_left","_law_goals","_law_able"] (spEach ad K)){fd_q36:FuncData}(B_q36:Binds K fd_q36 ["floor","carrier"] []) (G_q36:FnOk P w K mg base CX0 8 ad.q36 fd_q36 ["floor","carrier"] (z650 ad)){fd_q35:FuncData}(B_q35:Binds K fd_q35 ["floor","carrier","goals"] []) (G_q35:FnOk P w K mg base CX0 7 ad.q35 fd_q35 ["floor","carrier","goals"] (z415 ad)):FnOk P w K mg base CX0 10 ad.law fd ["_law_script"] (spLaw K):=by
 refine F.ok sc_law (fun vs H Q E h=>?_) (fun cdv A outer s H vs Q E HR h=>?_)
 ·obtain⟨a,ns,rfl,_⟩:=h
  rfl
 ·obtain⟨a,ns,rfl,hS,hl,hq⟩:=h
  have ND:=sc_law.nd
  have HU0:=HR.units0
  have HU:=HR.units
  have hA:=HR.hd
  have hz:(100000:Nat)≤sizeLine:=by rw [sizeLine_eq];decide
  refine⟨_,(pss_cons (ps_set (i:=1) ND rfl (loc_of (Or.inr z73)) (pe_call G_q46 (HR.mono (by decide)) (gl_of z285) T.mg_q46 T.k_q46 B_q46 .nil pass0 (pa_cons (pe_var (i:=0) (x:="_law_script") rfl (vis_of z48) z21 z20) (pa_cons pe_int (pa_cons (pe_ix ix_list (pe_lst (pa_cons pe_int (pa_cons pe_int (pa_cons pe_int (pa_cons pe_int pa_nil (stp rfl)) (stp rfl)) (stp rfl)) (stp rfl))) (pe_op op_mod (pe_call G_Lat (HR.mono (by decide)) (gl_of z241) T.mg_Lat T.k_Lat B_Lat .nil pass0 (pa_cons (pe_var (i:=0) (x:="_law_script") rfl (vis_of z48) z21 z20) (pa_cons pe_int pa_nil (stp rfl)) (stp rfl)) (hdb:=z161) (he:=stp rfl) (hpl:=anp rfl)) pe_int) (fun _ _=>rfl)) pa_nil (stp rfl)) (stp rfl)) (stp rfl)) (hdb:=z484) (he:=stp rfl) (hpl:=anp rfl)))
 (pss_cons (ps_set (i:=2) ND rfl (loc_of (Or.inl z135)) (pe_make T.mk_Floor G_q23 (HR.mono (by decide)) (gl_of z517) T.mg_Floor B_q23 .nil pass0 (pa_cons (pe_callTy call_list_of (gl_of z448) T.b_list PyProof.Rows.Boot.«list» (pa_cons (pe_var (i:=1) (x:="_law_lines_here") rfl (vis_of z25) v2 zz1) pa_nil (stp rfl)) (hn:=n_list) (hdb:=d_list) (he:=stp rfl) (hpl:=anp rfl)) pa_nil (stp rfl)) (hdb:=z811) (he:=stp rfl) (hpl:=anp rfl)))
 (pss_cons (ps_set (i:=3) ND rfl (loc_of (Or.inl z186)) (pe_call G_Lat (HR.mono (by decide)) (gl_of z241) T.mg_Lat T.k_Lat B_Lat .nil pass0 (pa_cons (pe_var (i:=0) (x:="_law_script") rfl (vis_of z48) z21 z20) (pa_cons pe_int pa_nil (stp rfl)) (stp rfl)) (hdb:=z161) (he:=stp rfl) (hpl:=anp rfl)))
 (pss_cons (ps_set (i:=4) ND rfl (loc_of (Or.inr z178)) (pe_ix ix_list (pe_lst (pa_cons pe_str (pa_cons pe_str (pa_cons pe_str pa_nil (stp rfl)) (stp rfl)) (stp rfl))) (pe_op op_mod (pe_var (i:=3) (x:="_law_cell") rfl (vis_of z95) z6 z7) pe_int) (fun _ _=>rfl)))
 (pss_cons (ps_set (i:=5) ND rfl (loc_of (Or.inl z101)) (pe_call G_q25 (HR.mono (by decide)) (gl_of z699) T.mg_q25 T.k_q25 BD_q25 (show Vals [V.int 20] [Value.int 20 _] from .cons ⟨_,rfl⟩  .nil) pass0 (pa_cons (pe_var (i:=4) (x:="_law_kind") rfl (vis_of z175) z44 z42) pa_nil (stp rfl)) (hdb:=d_q25) (he:=stp rfl) (hpl:=anp rfl)))
 (pss_cons (ps_set (i:=6) ND rfl (loc_of (Or.inr z191)) (z89 (z8.of (osc:=defScope s_law) (tn:=["_law_one"]) (cn:=["_law_kind","_law_lines_here"]) (caps:=[4,1]) rfl rfl (by decide +kernel) (by decide +kernel) (by decide +kernel) (by decide +kernel) rfl) (calm0 rfl)  (pi_list (pe_call G_q47 (HR.mono (by decide)) (gl_of z311) T.mg_q47 T.k_q47 B_q47 .nil pass0 (pa_cons (pe_var (i:=1) (x:="_law_lines_here") rfl (vis_of z25) v2 zz1) pa_nil (stp rfl)) (hdb:=z310) (he:=stp rfl) (hpl:=anp rfl)))
 (fun _ _ _ _ _=>(pg_name (i:=0) (show (["_law_one","_law_kind","_law_lines_here"]:List Str).Nodup by decide +kernel) rfl (Or.inl rfl))) (fun _ _ _ _ _=>(z77 (pt_val (pe_call G_q41 (HR.mono (by decide)) (by rfl) T.mg_q41 T.k_q41 B_q41 .nil pass0 (pa_cons (pv 1) (pa_cons (pe_call G_Lsign (HR.mono (by decide)) (by rfl) T.mg_Lsign T.k_Lsign B_Lsign .nil pass0 (pa_cons (pv 2) (pa_cons (pv 0) pa_nil (stp rfl)) (stp rfl)) (hdb:=z59) (he:=stp rfl) (hpl:=anp rfl)) pa_nil (stp rfl)) (stp rfl)) (hdb:=z243) (he:=stp rfl) (hpl:=anp rfl))))) (fun _ _ _ _ _=>(pv 0))))
 (pss_cons (ps_if (pt_cmpR (op_eqD HU) (pe_var (i:=6) (x:="_law_able") rfl (vis_of z64) z50 z51) (pe_lst pa_nil) (nomark _))
 (pss_one (ps_ret (pe_and (pe_cmpR (op_eqK (hu65 HR)) (pe_call G_q35 (HR.mono (by decide)) (gl_of z516) T.mg_q35 T.k_q35 B_q35 .nil pass0 (pa_cons (pe_var (i:=2) (x:="_law_floor") rfl (vis_of z38) z40 z39) (pa_cons (pe_var (i:=5) (x:="_law_carrier") rfl (vis_of z27) z15 z14) (pa_cons (pe_lst pa_nil) pa_nil (stp rfl)) (stp rfl)) (stp rfl)) (hdb:=d_q35) (he:=stp rfl) (hpl:=anp rfl)) pe_dnewK (nomark _)) (pe_one (pe_cmpR (op_eqK (hu65 HR)) (pe_call G_q36 (HR.mono (by decide)) (gl_of z487) T.mg_q36 T.k_q36 B_q36 .nil pass0 (pa_cons (pe_var (i:=2) (x:="_law_floor") rfl (vis_of z38) z40 z39) (pa_cons (pe_var (i:=5) (x:="_law_carrier") rfl (vis_of z27) z15 z14) pa_nil (stp rfl)) (stp rfl)) (hdb:=d_q36) (he:=stp rfl) (hpl:=anp rfl)) pe_dnewK (nomark _))))))
 pss_nil)
 (pss_cons (z373 (i:=7) (z8.of (osc:=defScope s_law) (tn:=["_law_k"]) (cn:=["_law_able","_law_script"]) (caps:=[6,0]) rfl rfl (by decide +kernel) (by decide +kernel) (by decide +kernel) (by decide +kernel) rfl) (calm0 rfl) ND rfl z83 (pi_range1 (gl_of z524) T.b_range (pa_cons (pe_op op_add pe_int (pe_op op_mod (pe_op op_fdiv (pe_var (i:=3) (x:="_law_cell") rfl (vis_of z95) z6 z7) pe_int) pe_int)) pa_nil (stp rfl)) (st1 rfl))
 (fun _ _ _ _ _=>(pg_name (i:=0) (show (["_law_k","_law_able","_law_script"]:List Str).Nodup by decide +kernel) rfl (Or.inl rfl))) (fun _ _ _ _ _=>z450) (fun _ _ _ _ _=>(pe_ix (z780 (K:=K) rfl) (pv 1) (pe_op op_mod (pe_call G_Lat (HR.mono (by decide)) (by rfl) T.mg_Lat T.k_Lat B_Lat .nil pass0 (pa_cons (pv 2) (pa_cons (pe_op op_add pe_int (pv 0)) pa_nil (stp rfl)) (stp rfl)) (hdb:=z161) (he:=stp rfl) (hpl:=anp rfl)) (pe_callB (z413 (K:=K) rfl) (by rfl) T.b_len PyProof.Rows.Boot.«len» (pa_cons (pv 1) pa_nil (stp rfl)) (hn:=n_len) (hdb:=d_len) (he:=stp rfl) (hpl:=anp rfl))) (fun _ _=>rfl))) (hsw:=by rfl))
 (pss_cons (ps_set (i:=8) ND rfl (loc_of (Or.inl z93)) (pe_call G_q35 (HR.mono (by decide)) (gl_of z516) T.mg_q35 T.k_q35 B_q35 .nil pass0 (pa_cons (pe_var (i:=2) (x:="_law_floor") rfl (vis_of z38) z40 z39) (pa_cons (pe_var (i:=5) (x:="_law_carrier") rfl (vis_of z27) z15 z14) (pa_cons (pe_callTy call_list_of (gl_of z448) T.b_list PyProof.Rows.Boot.«list» (pa_cons (pe_var (i:=7) (x:="_law_goals") rfl (vis_of z84) z56 z57) pa_nil (stp rfl)) (hn:=n_list) (hdb:=d_list) (he:=stp rfl) (hpl:=anp rfl)) pa_nil (stp rfl)) (stp rfl)) (stp rfl)) (hdb:=d_q35) (he:=stp rfl) (hpl:=anp rfl)))
 (pss_cons (ps_if (pt_cmpR op_eq (pe_op op_mod (pe_op op_fdiv (pe_var (i:=3) (x:="_law_cell") rfl (vis_of z95) z6 z7) pe_int) pe_int) pe_int (nomark _))
 (pss_cons (z373 (i:=7) (z8.of (osc:=defScope s_law) (tn:=["_law_one"]) (cn:=["_law_lines_here"]) (caps:=[1]) rfl rfl (by decide +kernel) (by decide +kernel) (by decide +kernel) (by decide +kernel) rfl) (calm0 rfl) ND rfl z83 (pi_list (pe_var (i:=6) (x:="_law_able") rfl (vis_of z64) z50 z51))
 (fun _ _ _ _ _=>(pg_name (i:=0) (show (["_law_one","_law_lines_here"]:List Str).Nodup by decide +kernel) rfl (Or.inl rfl))) (fun _ _ _ _ _=>(z77 (pt_cmpR op_eq (pe_call G_Lsign (HR.mono (by decide)) (by rfl) T.mg_Lsign T.k_Lsign B_Lsign .nil pass0 (pa_cons (pv 1) (pa_cons (pv 0) pa_nil (stp rfl)) (stp rfl)) (hdb:=z59) (he:=stp rfl) (hpl:=anp rfl)) pe_str (nomark _)))) (fun _ _ _ _ _=>(pv 0)) (hsw:=by rfl))
 (pss_one (ps_set (i:=8) ND rfl (loc_of (Or.inl z93)) (pe_call G_q36 (HR.mono (by decide)) (gl_of z487) T.mg_q36 T.k_q36 B_q36 .nil pass0 (pa_cons (pe_var (i:=2) (x:="_law_floor") rfl (vis_of z38) z40 z39) (pa_cons (pe_var (i:=5) (x:="_law_carrier") rfl (vis_of z27) z15 z14) pa_nil (stp rfl)) (stp rfl)) (hdb:=d_q36) (he:=stp rfl) (hpl:=anp rfl)))))
 pss_nil)
 (pss_cons (ps_if (PW.pt (pw_or (pt_not (pt_val (pe_callB z36 (gl_of z279) T.b_isinstance PyProof.Rows.Boot.«isinstance» (pa_cons (pe_var (i:=8) (x:="_law_left") rfl (vis_of z97) z16 z17) (pa_cons (pe_bltn (v:=.ty "dict") (gl_of z639) T.b_dict PyProof.Rows.Boot.«dict» rfl (hn:=n_dict) (hd:=d_dict)) pa_nil (stp rfl)) (stp rfl)) (hn:=z23) (hdb:=z22) (he:=stp rfl) (hpl:=anp rfl)))) (pw_or1 (pt_not (pt_val (pe_call G_q42 (HR.mono (by decide)) (gl_of z249) T.mg_q42 T.k_q42 B_q42 .nil pass0 (pa_cons (pe_var (i:=4) (x:="_law_kind") rfl (vis_of z175) z44 z42) (pa_cons (pe_var (i:=1) (x:="_law_lines_here") rfl (vis_of z25) v2 zz1) (pa_cons (pe_var (i:=6) (x:="_law_able") rfl (vis_of z64) z50 z51) (pa_cons (pe_var (i:=7) (x:="_law_goals") rfl (vis_of z84) z56 z57) (pa_cons (pe_var (i:=8) (x:="_law_left") rfl (vis_of z97) z16 z17) pa_nil (stp rfl)) (stp rfl)) (stp rfl)) (stp rfl)) (stp rfl)) (hdb:=z451) (he:=stp rfl) (hpl:=anp rfl)))))))
 (pss_one (ps_ret pe_bl))
 pss_nil)
 (pss_one (ps_ret (pe_call G_Leach (HR.mono (by decide)) (gl_of z321) T.mg_Leach T.k_Leach B_Leach .nil pass0 (pa_cons (pe_var (i:=0) (x:="_law_script") rfl (vis_of z48) z21 z20) (pa_cons (pe_var (i:=5) (x:="_law_carrier") rfl (vis_of z27) z15 z14) (pa_cons (pe_var (i:=2) (x:="_law_floor") rfl (vis_of z38) z40 z39) (pa_cons (pe_var (i:=1) (x:="_law_lines_here") rfl (vis_of z25) v2 zz1) (pa_cons (pe_var (i:=8) (x:="_law_left") rfl (vis_of z97) z16 z17) (pa_cons (pe_var (i:=7) (x:="_law_goals") rfl (vis_of z84) z56 z57) (pa_cons (pe_var (i:=6) (x:="_law_able") rfl (vis_of z64) z50 z51) pa_nil (stp rfl)) (stp rfl)) (stp rfl)) (stp rfl)) (stp rfl)) (stp rfl)) (stp rfl)) (hdb:=z555) (he:=stp rfl) (hpl:=anp rfl))))))))))))))),?_⟩
  refine y3 (fun σ H'=>∃ (l:Addr) (w h:Nat) (sg:List Nat),Same H H'∧z67 H' l w h sg∧Good w h sg∧(w:Int)≤7∧(h:Int)≤7∧σ=[some (V.ref a),some (V.ref l),none,none,none,none,none,none,none]) (fun nx hk=>?_) ?_
  ·walk_at "RD"
   refine⟨by omega,fun p hp=>⟨a,ns,7,rfl,Same.seq (zz0 hp) hS,hl,by omega,by omega,fun r r0 r1=>?_⟩⟩
   have hm:∃ m,atI [V.int 2,V.int 3,V.int 5,V.int 7] (r % 4)=some (V.int m)∧1≤m∧m≤7:=by
    have h:r % 4=0∨r % 4=1∨r % 4=2∨r % 4=3:=by omega
    rcases h with h | h | h | h <;> rw [h]
    ·exact⟨2,rfl,by decide,by decide⟩
    ·exact⟨3,rfl,by decide,by decide⟩
    ·exact⟨5,rfl,by decide,by decide⟩
    ·exact⟨7,rfl,by decide,by decide⟩
   obtain⟨m,e,m0,m1⟩:=hm
   exact⟨_,rfl,by omega,_,SqL.of upd_same,_,e,a,ns,0,m,rfl,Same.seq (zz0 hp) hS,hl,by omega,by omega,m0,by omega,fun l H' w h sg nl s1 hL g wm hm=>hk _ _ ⟨l,w,h,sg,(zz0 hp).trans s1,hL,g,by omega,by omega,rfl⟩⟩
  rintro σ H1 ⟨l,w,h,sg,s1,hL,g,w7,h7,rfl⟩
  have hS1:=Same.seq s1 hS
  refine y3 (fun σ H'=>∃ fl,Same H1 H'∧z45 ad.C_Floor H' fl w h sg∧σ=[some (V.ref a),some (V.ref l),some (V.ref fl),none,none,none,none,none,none]) (fun nx hk=>?_) ?_
  ·walk_at "RD"
   refine⟨_,.inl (SqL.of hL),fun cp ncp p dx np nd nn=>⟨p,dx,cp,w,h,sg,rfl,upd_same,?_,g,fun H' dx' l2 n2 e1 e2 fr=>⟨rfl,?_⟩⟩⟩
   ·have c1:cp≠p:=fun z=>by rw [z,upd_same] at np;cases np
    have c2:cp≠dx:=fun z=>by rw [z,upd_same] at nd;cases nd
    show upd _ _ _ cp=_
    rw [upd_ne c1,upd_ne c2,upd_same]
   ·refine hk _ _ ⟨p,fun b o e=>?_,⟨⟨dx',l2,e1,e2⟩⟩,rfl⟩
    have e':upd H1 cp (HO.lst ((linesOf w h sg).map V.str)) b=some o:=(zz0 ncp) _ _ e
    exact fr b o (by rw [upd_ne (ne_of_none e' np),upd_ne (ne_of_none e' nd)];exact e') (ne_of_none e' np)
  rintro σ H2 ⟨fl,s2,F2,rfl⟩
  refine y3 (fun σ H'=>∃ (cc:Int),H'=H2∧0≤cc∧cc < 2147483647∧σ=[some (V.ref a),some (V.ref l),some (V.ref fl),some (V.int cc),none,none,none,none,none]) (fun nx hk=>?_) ?_
  ·walk_at "RD"
   exact⟨a,ns,8,rfl,Same.seq s2 hS1,hl,by omega,by omega,fun r r0 r1=>hk _ _ ⟨r,rfl,r0,r1,rfl⟩⟩
  rintro σ H2 ⟨cc,rfl,c0,c1,rfl⟩
  refine y3 (fun σ H'=>∃ (x:Str) (i:Nat),Same H2 H'∧kindsL[i]?=some x∧i≤2∧σ=[some (V.ref a),some (V.ref l),some (V.ref fl),some (V.int cc),some (V.str x),none,none,none,none]) (fun nx hk=>?_) ?_
  ·walk_at "RD"
   refine⟨by omega,fun q nq=>⟨by omega,_,SqL.of upd_same,?_⟩⟩
   have hm:∃ (x:Str) (i:Nat),atI [V.str (Str.ofString "cart"),V.str (Str.ofString "crawler"),V.str (Str.ofString "runner")] (cc % 3)=some (V.str x)∧kindsL[i]?=some x∧i≤2:=by
    have h:cc % 3=0∨cc % 3=1∨cc % 3=2:=by omega
    rcases h with h | h | h <;> rw [h]
    ·exact⟨_,0,rfl,rfl,by omega⟩
    ·exact⟨_,1,rfl,rfl,by omega⟩
    ·exact⟨_,2,rfl,rfl,by omega⟩
   obtain⟨x,i,e1,e2,e3⟩:=hm
   exact⟨_,e1,hk _ _ ⟨x,i,zz0 nq,e2,e3,rfl⟩⟩
  rintro σ H3 ⟨x,i,s3,hi,i2,rfl⟩
  refine y3 (fun σ H'=>∃ (p:Addr) (n:Int),Same H3 H'∧CarAt ad H' p i n∧σ=[some (V.ref a),some (V.ref l),some (V.ref fl),some (V.int cc),some (V.str x),some (V.ref p),none,none,none]) (fun nx hk=>?_) ?_
  ·walk_at "RD"
   exact⟨i,x,_,rfl,by omega,hi,by omega,by omega,fun p H' s np hc=>hk _ _ ⟨p,_,s,hc,rfl⟩⟩
  rintro σ H4 ⟨p,n,s4,hc,rfl⟩
  have hL4:z67 H4 l w h sg:=s4 _ _ (s3 _ _ (s2 _ _ hL))
  have F4:=(F2.same s3).same s4
  have hS4:=Same.seq s4 (Same.seq s3 (Same.seq s2 hS1))
  have stl:=z163 g i
  refine y3 (fun σ H'=>∃ (al:Addr),Same H4 H'∧H' al=some (.lst ((z4 i sg).map V.int))∧σ=[some (V.ref a),some (V.ref l),some (V.ref fl),some (V.int cc),some (V.str x),some (V.ref p),some (V.ref al),none,none]) (fun nx hk=>?_) ?_
  ·walk_at "RD"
   refine⟨l,w,h,sg,rfl,hL4,g,fun r H2 nr s2 hr=>⟨r,rfl,⟨_,SqL.of hr⟩,z33 (src_list (SqL.of hr)) (stV i sg) (fun v=>v) (fun y hy Q' hh=>?_) (fun y hy _ Q' hh=>by walk_at "RD";exact hh) (by rw [List.length_map];have:=z264 g;omega) (fun D nD=>?_)⟩⟩
   ·obtain⟨c,hcm,rfl⟩:=List.mem_map.mp hy
    have cF:=z196 hcm
    walk_at "RD"
    exact⟨l,w,h,sg,c,rfl,s2 _ _ hL4,g,cF.1,cF.2,i,_,x,rfl,hi,_,rfl,hh⟩
   ·rw [z288]
    exact hk _ _ ⟨D,s2.trans (zz0 nD),upd_same,rfl⟩
  rintro σ H5 ⟨al,s5,hal,rfl⟩
  have l49:=z783 g w7 h7 i
  have CHst:∀ c∈(z19 sg).filter fun c=>stands i (at_ sg c),c∈z4 i sg:=fun c hcm=>by
   obtain⟨h3,h4⟩:=List.mem_filter.mp hcm
   rw [z224] at h3
   exact List.mem_filter.mpr ⟨(List.mem_filter.mp h3).1,h4⟩
  have F5:=F4.same s5
  have hc5:=hc.same s5
  have hL5:=s5 _ _ hL4
  have hS5:=Same.seq s5 hS4
  refine y3 (fun σ H'=>Same H5 H'∧z4 i sg≠[]∧σ=[some (V.ref a),some (V.ref l),some (V.ref fl),some (V.int cc),some (V.str x),some (V.ref p),some (V.ref al),none,none]) (fun nx hk=>?_) ?_
  ·walk_at "RD"
   refine⟨Nat.zero_le _,fun q nq=>⟨_,z60 (SqL.of ((zz0 nq) _ _ hal)),_,.lst (SqL.of upd_same) .nil,shaped_ints _,rfl,?_⟩⟩
   have sq:=zz0 (o:=HO.lst []) nq
   by_cases es:z4 i sg=[]
   ·rw [if_pos (by rw [es];rfl)]
    refine⟨Nat.zero_le _,fun p1 np1=>?_⟩
    have sa:=sq.trans (zz0 (o:=HO.lst []) np1)
    refine⟨p,fl,p1,i,n,w,h,sg,[],rfl,hc5.same sa,by omega,F5.same sa,g,upd_same,by simp,by simp,fun r kv HX nr sb hr cs p2 np2=>⟨r,rfl,?_⟩⟩
    obtain rfl:=z635 cs
    have sc:=(sa.trans sb).trans (zz0 (o:=HO.dK []) np2)
    refine⟨_,(zz0 np2) _ _ hr,_,upd_same,true,fun _=>.nil,?_⟩
    rw [if_pos (by rfl)]
    refine⟨p,fl,i,n,w,h,sg,rfl,hc5.same sc,by omega,F5.same sc,g,fun r2 kv2 HY nr2 sd hr2 cs2 p3 np3=>⟨r2,rfl,?_⟩⟩
    have e0:((z19 sg).filter fun c=>stands i (at_ sg c))=[]:=List.eq_nil_iff_forall_not_mem.mpr fun c hcm=>by
     have:=CHst c hcm
     rw [es] at this
     cases this
    rw [e0] at cs2
    obtain rfl:=z635 cs2
    exact⟨_,(zz0 np3) _ _ hr2,_,upd_same,true,fun _=>.nil,hq _⟩
   ·rw [if_neg (by
     cases e:z4 i sg with
     | nil=>exact absurd e es
     | cons a b=>exact Bool.false_ne_true)]
    exact hk _ _ ⟨sq,es,rfl⟩
  rintro σ H6 ⟨s6,ane,rfl⟩
  have st0:0 < (z4 i sg).length:=List.length_pos_iff.mpr ane
  have hal6:=s6 _ _ hal
  have hS6:=Same.seq s6 hS5
  refine y3 (fun σ H'=>∃ (gl:Addr) (gs:List Int),Same H6 H'∧H' gl=some (.lst (gs.map V.int))∧gs.length≤4∧(∀ c∈gs,c∈z4 i sg)∧σ=[some (V.ref a),some (V.ref l),some (V.ref fl),some (V.int cc),some (V.str x),some (V.ref p),some (V.ref al),some (V.ref gl),none]) (fun nx hk=>?_) ?_
  ·walk_at "RD"
   refine⟨⟨by decide,by decide⟩,by decide,by omega,by omega,z779 (n:=(1 + cc / 3 % 4).toNat) (fun j ys H'=>H'=H6∧∃ gs:List Int,ys=gs.map V.int∧gs.length=j∧∀ c∈gs,c∈z4 i sg) ⟨rfl,[],rfl,rfl,by simp⟩ ?_ ?_⟩
   ·rintro j ys H' hj ⟨rfl,gs,rfl,lg,gst⟩
    walk_at "RD"
    refine⟨a,ns,_,rfl,hS6,hl,by omega,by omega,fun r r0 r1=>⟨_,.inl (SqL.of hal6),_,rfl,by rw [List.length_map];omega,_,SqL.of hal6,?_⟩⟩
    obtain⟨c,hcm,e⟩:=at_mod st0 r
    exact⟨_,e,by rw [List.length_map];omega,rfl,gs++[c],by simp,by simp [lg],fun z hz=>(List.mem_append.mp hz).elim (gst z) (fun hz=>by rw [List.mem_singleton.mp hz];exact hcm)⟩
   ·rintro ys H' ⟨rfl,gs,rfl,lg,gst⟩
    exact⟨by rw [List.length_map];omega,fun D nD=>hk _ _ ⟨D,gs,zz0 nD,upd_same,by omega,gst,rfl⟩⟩
  rintro σ H7 ⟨gl0,gs0,s7,hgl0,lg0,gst0,rfl⟩
  have s57:=s6.trans s7
  refine y3 (fun σ H'=>∃ (ld:Addr) (kvs:List (Int × Int)),Same H7 H'∧H' ld=some (costsD kvs)∧z30 i w sg gs0 kvs∧σ=[some (V.ref a),some (V.ref l),some (V.ref fl),some (V.int cc),some (V.str x),some (V.ref p),some (V.ref al),some (V.ref gl0),some (V.ref ld)]) (fun nx hk=>?_) ?_
  ·walk_at "RD"
   refine⟨_,.inl (SqL.of hgl0),fun q nq=>?_⟩
   have sq:=zz0 (o:=HO.lst (gs0.map V.int)) nq
   have s5q:=s57.trans sq
   exact⟨p,fl,q,i,_,w,h,sg,gs0,rfl,hc5.same s5q,by omega,F5.same s5q,g,upd_same,by omega,gst0,fun r kvs H' nr s hr hcs=>hk _ _ ⟨r,kvs,sq.trans s,hr,hcs,rfl⟩⟩
  rintro σ H8 ⟨ld0,kvs0,s8,hld0,ca0,rfl⟩
  have s58:=s57.trans s8
  refine y3 (fun σ H'=>∃ (gl ld:Addr) (gs:List Int) (kvs:List (Int × Int)),Same H5 H'∧H' gl=some (.lst (gs.map V.int))∧H' ld=some (costsD kvs)∧gs.length < 64∧(∀ c∈gs,c∈z4 i sg)∧z30 i w sg gs kvs∧σ=[some (V.ref a),some (V.ref l),some (V.ref fl),some (V.int cc),some (V.str x),some (V.ref p),some (V.ref al),some (V.ref gl),some (V.ref ld)]) (fun nx hk=>?_) ?_
  ·walk_at "RDS"
   refine⟨⟨by decide,by decide⟩,by decide,?_⟩
   split
   ·have hal8:=s58 _ _ hal
    have hL8:=s58 _ _ hL5
    refine y3 (fun σ H'=>∃ (ch:Addr),Same H8 H'∧H' ch=some (.lst (((z19 sg).filter fun c=>stands i (at_ sg c)).map V.int))∧σ=[some (V.ref a),some (V.ref l),some (V.ref fl),some (V.int cc),some (V.str x),some (V.ref p),some (V.ref al),some (V.ref ch),some (V.ref ld0)]) (fun nx' hk'=>?_) ?_
    ·walk_at "RD"
     refine⟨⟨_,SqL.of hal8⟩,z33 (src_list (SqL.of hal8)) (chV sg) (fun v=>v) (fun y hy Q' hh=>?_) (fun y hy _ Q' hh=>by walk_at "RD";exact hh) (by rw [List.length_map];omega) (fun D nD=>?_)⟩
     ·obtain⟨c,hcm,rfl⟩:=List.mem_map.mp hy
      have cF:=z196 (List.mem_filter.mp hcm).1
      walk_at "RD"
      refine⟨l,w,h,sg,c,rfl,hL8,g,cF.1,cF.2,rfl,?_⟩
      have e:chV sg (V.int c)=decide (chr1 (at_ sg c)=V.str (Str.ofString "+")):=decide_eq_decide.mpr q43.symm
      rw [← e]
      exact hh
     ·rw [z756]
      exact hk' _ _ ⟨D,zz0 nD,upd_same,rfl⟩
    rintro σ H9 ⟨ch,s9,hch,rfl⟩
    have CHl:((z19 sg).filter fun c=>stands i (at_ sg c)).length≤49:=by
     have e:=congrArg List.length (z756 i sg)
     rw [List.length_map,List.length_map] at e
     rw [← e]
     exact Nat.le_trans (List.length_filter_le _ _) (by rw [List.length_map];exact l49)
    have s59:=s58.trans s9
    walk_at "RD"
    exact⟨p,fl,i,n,w,h,sg,rfl,hc5.same s59,by omega,F5.same s59,g,fun r kvs H' nr s hr hcs=>hk _ _ ⟨ch,r,_,kvs,s59.trans s,s _ _ hch,hr,by omega,CHst,hcs,rfl⟩⟩
   ·exact hk _ _ ⟨gl0,ld0,gs0,kvs0,s58,s8 _ _ hgl0,hld0,by omega,gst0,ca0,rfl⟩
  rintro σ H9 ⟨gl,ld,gs,kvs,s9,hgl,hld,lgs,gst,ca,rfl⟩
  have kl:=z702 ca gst
  refine y3 (fun σ H'=>Same H9 H'∧σ=[some (V.ref a),some (V.ref l),some (V.ref fl),some (V.int cc),some (V.str x),some (V.ref p),some (V.ref al),some (V.ref gl),some (V.ref ld)]) (fun nx hk=>?_) ?_
  ·walk_at "RD"
   refine⟨_,.dK hld,true,rfl,?_⟩
   rw [if_neg (by decide)]
   refine⟨x,l,al,gl,ld,i,w,h,sg,gs,kvs,rfl,hi,s9 _ _ hL5,g,s9 _ _ hal,hgl,lgs,gst,hld,ca,by omega,fun H' s=>⟨_,rfl,?_⟩⟩
   rw [if_neg (by decide)]
   exact hk _ _ ⟨s,rfl⟩
  rintro σ HA ⟨sA,rfl⟩
  have s5A:=s9.trans sA
  walk_at "RD"
  exact⟨a,p,fl,l,ld,gl,al,ns,x,i,n,w,h,sg,gs,kvs,rfl,Same.seq s5A hS5,hl,hc5.same s5A,i2,F5.same s5A,g,hi,s5A _ _ hL5,s5A _ _ hal,ane,sA _ _ hgl,by omega,gst,sA _ _ hld,ca,hq⟩
end

set_option maxHeartbeats 4000000 in
theorem all_mk {l:PySem.W.OpenLaw}{w:World}{K:PySem.W.Frag}{h:Heap}{mg:Str→Option Value}{fa:Addr}(X:K.In h) (G:h.Ns mainGlobals mg) (hfa:mg "law"=some (.ref fa))
  {C_Floor:Addr}
  {C_Cart:Addr}
  {C_Crawler:Addr}
  {C_Runner:Addr}
  {C_Carrier:Addr}
  {C_Heap:Addr}
  {K_KINDS:Addr}{kc_KINDS:Option Addr}{kn_KINDS:Nat}{ks_KINDS:Array (Option Value)}{kk_KINDS0:Tok}{kk_KINDS1:Tok}{kk_KINDS2:Tok}
  {K_COMMON_SIGNS:Addr}{kc_COMMON_SIGNS:Option Addr}{kn_COMMON_SIGNS:Nat}{ks_COMMON_SIGNS:Array (Option Value)}{kk_COMMON_SIGNS0:Tok}{kk_COMMON_SIGNS1:Tok}{kk_COMMON_SIGNS2:Tok}
  {f_q26:Addr}{od_q26 an_q26:Option Addr}{sl_q26:Array (Option Value)}{oc_q26 kV_q26 dc_q26 pm_q26 cd_q26 ct_q26:Value}
  {f_q34:Addr}{od_q34 an_q34:Option Addr}{sl_q34:Array (Option Value)}{oc_q34 kV_q34 dc_q34 pm_q34 cd_q34 ct_q34:Value}
  {f_q20:Addr}{od_q20 an_q20:Option Addr}{sl_q20:Array (Option Value)}{oc_q20 kV_q20 dc_q20 pm_q20 cd_q20 ct_q20:Value}
  {f_q27:Addr}{od_q27 an_q27:Option Addr}{sl_q27:Array (Option Value)}{oc_q27 kV_q27 dc_q27 pm_q27 cd_q27 ct_q27:Value}
  {f_q28:Addr}{od_q28 an_q28:Option Addr}{sl_q28:Array (Option Value)}{oc_q28 kV_q28 dc_q28 pm_q28 cd_q28 ct_q28:Value}
  {f_q5:Addr}{od_q5 an_q5:Option Addr}{sl_q5:Array (Option Value)}{oc_q5 kV_q5 dc_q5 pm_q5 cd_q5 ct_q5:Value}
  {f_q4:Addr}{od_q4 an_q4:Option Addr}{sl_q4:Array (Option Value)}{oc_q4 kV_q4 dc_q4 pm_q4 cd_q4 ct_q4:Value}
  {f_q1:Addr}{od_q1 an_q1:Option Addr}{sl_q1:Array (Option Value)}{oc_q1 kV_q1 dc_q1 pm_q1 cd_q1 ct_q1:Value}
  {f_q29:Addr}{od_q29 an_q29:Option Addr}{sl_q29:Array (Option Value)}{oc_q29 kV_q29 dc_q29 pm_q29 cd_q29 ct_q29:Value}
  {f_q21:Addr}{od_q21 an_q21:Option Addr}{sl_q21:Array (Option Value)}{oc_q21 kV_q21 dc_q21 pm_q21 cd_q21 ct_q21:Value}
  {f_q6:Addr}{od_q6 an_q6:Option Addr}{sl_q6:Array (Option Value)}{oc_q6 kV_q6 dc_q6 pm_q6 cd_q6 ct_q6:Value}
  {f_q35:Addr}{od_q35 an_q35:Option Addr}{sl_q35:Array (Option Value)}{oc_q35 kV_q35 dc_q35 pm_q35 cd_q35 ct_q35:Value}
  {f_q36:Addr}{od_q36 an_q36:Option Addr}{sl_q36:Array (Option Value)}{oc_q36 kV_q36 dc_q36 pm_q36 cd_q36 ct_q36:Value}
  {f_q37:Addr}{od_q37 an_q37:Option Addr}{sl_q37:Array (Option Value)}{oc_q37 kV_q37 dc_q37 pm_q37 cd_q37 ct_q37:Value}
  {f_q22:Addr}{od_q22 an_q22:Option Addr}{sl_q22:Array (Option Value)}{oc_q22 kV_q22 dc_q22 pm_q22 cd_q22 ct_q22:Value}
  {f_q38:Addr}{od_q38 an_q38:Option Addr}{sl_q38:Array (Option Value)}{oc_q38 kV_q38 dc_q38 pm_q38 cd_q38 ct_q38:Value}
  {f_q39:Addr}{od_q39 an_q39:Option Addr}{sl_q39:Array (Option Value)}{oc_q39 kV_q39 dc_q39 pm_q39 cd_q39 ct_q39:Value}
  {f_q30:Addr}{od_q30 an_q30:Option Addr}{sl_q30:Array (Option Value)}{oc_q30 kV_q30 dc_q30 pm_q30 cd_q30 ct_q30:Value}
  {f_q16:Addr}{od_q16 an_q16:Option Addr}{sl_q16:Array (Option Value)}{oc_q16 kV_q16 dc_q16 pm_q16 cd_q16 ct_q16:Value}
  {f_q23:Addr}{od_q23 an_q23:Option Addr}{sl_q23:Array (Option Value)}{oc_q23 kV_q23 dc_q23 pm_q23 cd_q23 ct_q23:Value}
  {f_q31:Addr}{od_q31 an_q31:Option Addr}{sl_q31:Array (Option Value)}{oc_q31 kV_q31 dc_q31 pm_q31 cd_q31 ct_q31:Value}
  {f_q24:Addr}{od_q24 an_q24:Option Addr}{sl_q24:Array (Option Value)}{oc_q24 kV_q24 dc_q24 pm_q24 cd_q24 ct_q24:Value}
  {f_q9:Addr}{od_q9 an_q9:Option Addr}{sl_q9:Array (Option Value)}{oc_q9 kV_q9 dc_q9 pm_q9 cd_q9 ct_q9:Value}
  {f_q32:Addr}{od_q32 an_q32:Option Addr}{sl_q32:Array (Option Value)}{oc_q32 kV_q32 dc_q32 pm_q32 cd_q32 ct_q32:Value}
  {f_q17:Addr}{od_q17 an_q17:Option Addr}{sl_q17:Array (Option Value)}{oc_q17 kV_q17 dc_q17 pm_q17 cd_q17 ct_q17:Value}
  {f_q7:Addr}{od_q7 an_q7:Option Addr}{sl_q7:Array (Option Value)}{oc_q7 kV_q7 dc_q7 pm_q7 cd_q7 ct_q7:Value}
  {f_q10:Addr}{od_q10 an_q10:Option Addr}{sl_q10:Array (Option Value)}{oc_q10 kV_q10 dc_q10 pm_q10 cd_q10 ct_q10:Value}
  {f_q11:Addr}{od_q11 an_q11:Option Addr}{sl_q11:Array (Option Value)}{oc_q11 kV_q11 dc_q11 pm_q11 cd_q11 ct_q11:Value}
  {f_q12:Addr}{od_q12 an_q12:Option Addr}{sl_q12:Array (Option Value)}{oc_q12 kV_q12 dc_q12 pm_q12 cd_q12 ct_q12:Value}
  {f_q2:Addr}{od_q2 an_q2:Option Addr}{sl_q2:Array (Option Value)}{oc_q2 kV_q2 dc_q2 pm_q2 cd_q2 ct_q2:Value}
  {f_q13:Addr}{od_q13 an_q13:Option Addr}{sl_q13:Array (Option Value)}{oc_q13 kV_q13 dc_q13 pm_q13 cd_q13 ct_q13:Value}
  {f_q8:Addr}{od_q8 an_q8:Option Addr}{sl_q8:Array (Option Value)}{oc_q8 kV_q8 dc_q8 pm_q8 cd_q8 ct_q8:Value}
  {f_q0:Addr}{od_q0 an_q0:Option Addr}{sl_q0:Array (Option Value)}{oc_q0 kV_q0 dc_q0 pm_q0 cd_q0 ct_q0:Value}
  {f_q33:Addr}{od_q33 an_q33:Option Addr}{sl_q33:Array (Option Value)}{oc_q33 kV_q33 dc_q33 pm_q33 cd_q33 ct_q33:Value}
  {f_q14:Addr}{od_q14 an_q14:Option Addr}{sl_q14:Array (Option Value)}{oc_q14 kV_q14 dc_q14 pm_q14 cd_q14 ct_q14:Value}
  {f_q3:Addr}{od_q3 an_q3:Option Addr}{sl_q3:Array (Option Value)}{oc_q3 kV_q3 dc_q3 pm_q3 cd_q3 ct_q3:Value}
  {f_q15:Addr}{od_q15 an_q15:Option Addr}{sl_q15:Array (Option Value)}{oc_q15 kV_q15 dc_q15 pm_q15 cd_q15 ct_q15:Value}
  {f_q18:Addr}{od_q18 an_q18:Option Addr}{sl_q18:Array (Option Value)}{oc_q18 kV_q18 dc_q18 pm_q18 cd_q18 ct_q18:Value}
  {f_q19:Addr}{od_q19 an_q19:Option Addr}{sl_q19:Array (Option Value)}{oc_q19 kV_q19 dc_q19 pm_q19 cd_q19 ct_q19:Value}
  {f_q25:Addr}{od_q25 an_q25:Option Addr}{sl_q25:Array (Option Value)}{oc_q25 kV_q25 dc_q25 pm_q25 cd_q25 ct_q25:Value}
  {dt_q25:Addr}{dd_q25:Option Addr}{dc_q25_:Value}{dn_q25:Nat}{ds_q25:Array (Option Value)}{td_carrier_of0:Tok}
  {f_Lat:Addr}{od_Lat an_Lat:Option Addr}{sl_Lat:Array (Option Value)}{oc_Lat kV_Lat dc_Lat pm_Lat cd_Lat ct_Lat:Value}
  {f_q44:Addr}{od_q44 an_q44:Option Addr}{sl_q44:Array (Option Value)}{oc_q44 kV_q44 dc_q44 pm_q44 cd_q44 ct_q44:Value}
  {f_q45:Addr}{od_q45 an_q45:Option Addr}{sl_q45:Array (Option Value)}{oc_q45 kV_q45 dc_q45 pm_q45 cd_q45 ct_q45:Value}
  {f_q46:Addr}{od_q46 an_q46:Option Addr}{sl_q46:Array (Option Value)}{oc_q46 kV_q46 dc_q46 pm_q46 cd_q46 ct_q46:Value}
  {f_Lsign:Addr}{od_Lsign an_Lsign:Option Addr}{sl_Lsign:Array (Option Value)}{oc_Lsign kV_Lsign dc_Lsign pm_Lsign cd_Lsign ct_Lsign:Value}
  {f_q47:Addr}{od_q47 an_q47:Option Addr}{sl_q47:Array (Option Value)}{oc_q47 kV_q47 dc_q47 pm_q47 cd_q47 ct_q47:Value}
  {f_q40:Addr}{od_q40 an_q40:Option Addr}{sl_q40:Array (Option Value)}{oc_q40 kV_q40 dc_q40 pm_q40 cd_q40 ct_q40:Value}
  {f_q41:Addr}{od_q41 an_q41:Option Addr}{sl_q41:Array (Option Value)}{oc_q41 kV_q41 dc_q41 pm_q41 cd_q41 ct_q41:Value}
  {f_Lcost:Addr}{od_Lcost an_Lcost:Option Addr}{sl_Lcost:Array (Option Value)}{oc_Lcost kV_Lcost dc_Lcost pm_Lcost cd_Lcost ct_Lcost:Value}
  {f_q48:Addr}{od_q48 an_q48:Option Addr}{sl_q48:Array (Option Value)}{oc_q48 kV_q48 dc_q48 pm_q48 cd_q48 ct_q48:Value}
  {f_q42:Addr}{od_q42 an_q42:Option Addr}{sl_q42:Array (Option Value)}{oc_q42 kV_q42 dc_q42 pm_q42 cd_q42 ct_q42:Value}
  {f_q43:Addr}{od_q43 an_q43:Option Addr}{sl_q43:Array (Option Value)}{oc_q43 kV_q43 dc_q43 pm_q43 cd_q43 ct_q43:Value}
  {f_Leach:Addr}{od_Leach an_Leach:Option Addr}{sl_Leach:Array (Option Value)}{oc_Leach kV_Leach dc_Leach pm_Leach cd_Leach ct_Leach:Value}
  {f_law:Addr}{od_law an_law:Option Addr}{sl_law:Array (Option Value)}{oc_law kV_law dc_law pm_law cd_law ct_law:Value}
  {t_WALL:Tok}
  {t_CHARGER:Tok}
  {t_SIGNS:Tok}
  {t_MOST_ROWS:Tok}
  {t_MOST_SIGNS:Tok}
  {t_MOST_FULL:Tok}
  {t_ROUGH:Tok}
  {t_LANE:Tok}
  (aC_Floor:PySem.W.nsIn K mainGlobals "Floor"=some (some (.ref C_Floor)))
  (pg_Floor:PySem.W.plainGet K C_Floor Str.empty=true) (hd_Floor:PySem.W.hasDictIn K C_Floor=true) (po_Floor:PySem.W.plainOver K C_Floor=true) (sa_Floor:PySem.W.findIn K (.ref C_Floor) "__setattr__"=some (some (.builtin "object.__setattr__"))) (kc_Floor:PySem.W.keepIn K (.ref C_Floor)=true)
  (mk_Floor:PySem.W.makesIn K C_Floor=true)
  (n_Floor_wide:PySem.W.findIn K (.ref C_Floor) "wide"=some none)
  (n_Floor_high:PySem.W.findIn K (.ref C_Floor) "high"=some none)
  (n_Floor_lines:PySem.W.findIn K (.ref C_Floor) "lines"=some none)
  (n_Floor_signs:PySem.W.findIn K (.ref C_Floor) "signs"=some none)
  (aC_Cart:PySem.W.nsIn K mainGlobals "Cart"=some (some (.ref C_Cart)))
  (pg_Cart:PySem.W.plainGet K C_Cart Str.empty=true) (hd_Cart:PySem.W.hasDictIn K C_Cart=true) (po_Cart:PySem.W.plainOver K C_Cart=true) (sa_Cart:PySem.W.findIn K (.ref C_Cart) "__setattr__"=some (some (.builtin "object.__setattr__"))) (kc_Cart:PySem.W.keepIn K (.ref C_Cart)=true)
  (mk_Cart:PySem.W.makesIn K C_Cart=true)
  (n_Cart_full:PySem.W.findIn K (.ref C_Cart) "full"=some none)
  (aC_Crawler:PySem.W.nsIn K mainGlobals "Crawler"=some (some (.ref C_Crawler)))
  (pg_Crawler:PySem.W.plainGet K C_Crawler Str.empty=true) (hd_Crawler:PySem.W.hasDictIn K C_Crawler=true) (po_Crawler:PySem.W.plainOver K C_Crawler=true) (sa_Crawler:PySem.W.findIn K (.ref C_Crawler) "__setattr__"=some (some (.builtin "object.__setattr__"))) (kc_Crawler:PySem.W.keepIn K (.ref C_Crawler)=true)
  (mk_Crawler:PySem.W.makesIn K C_Crawler=true)
  (n_Crawler_full:PySem.W.findIn K (.ref C_Crawler) "full"=some none)
  (aC_Runner:PySem.W.nsIn K mainGlobals "Runner"=some (some (.ref C_Runner)))
  (pg_Runner:PySem.W.plainGet K C_Runner Str.empty=true) (hd_Runner:PySem.W.hasDictIn K C_Runner=true) (po_Runner:PySem.W.plainOver K C_Runner=true) (sa_Runner:PySem.W.findIn K (.ref C_Runner) "__setattr__"=some (some (.builtin "object.__setattr__"))) (kc_Runner:PySem.W.keepIn K (.ref C_Runner)=true)
  (mk_Runner:PySem.W.makesIn K C_Runner=true)
  (n_Runner_full:PySem.W.findIn K (.ref C_Runner) "full"=some none)
  (aC_Carrier:PySem.W.nsIn K mainGlobals "Carrier"=some (some (.ref C_Carrier)))
  (pg_Carrier:PySem.W.plainGet K C_Carrier Str.empty=true) (hd_Carrier:PySem.W.hasDictIn K C_Carrier=true) (po_Carrier:PySem.W.plainOver K C_Carrier=true) (sa_Carrier:PySem.W.findIn K (.ref C_Carrier) "__setattr__"=some (some (.builtin "object.__setattr__"))) (kc_Carrier:PySem.W.keepIn K (.ref C_Carrier)=true)
  (mk_Carrier:PySem.W.makesIn K C_Carrier=true)
  (n_Carrier_full:PySem.W.findIn K (.ref C_Carrier) "full"=some none)
  (aC_Heap:PySem.W.nsIn K mainGlobals "Heap"=some (some (.ref C_Heap)))
  (pg_Heap:PySem.W.plainGet K C_Heap Str.empty=true) (hd_Heap:PySem.W.hasDictIn K C_Heap=true) (po_Heap:PySem.W.plainOver K C_Heap=true) (sa_Heap:PySem.W.findIn K (.ref C_Heap) "__setattr__"=some (some (.builtin "object.__setattr__"))) (kc_Heap:PySem.W.keepIn K (.ref C_Heap)=true)
  (mk_Heap:PySem.W.makesIn K C_Heap=true)
  (n_Heap_things:PySem.W.findIn K (.ref C_Heap) "things"=some none)
  (x_KINDS:PySem.W.nsIn K mainGlobals "KINDS"=some (some (.ref K_KINDS))) (lk_KINDS:K.lookup K_KINDS=some ⟨.type "tuple",kc_KINDS,.seq #[.str (Str.ofString "cart") kk_KINDS0,.str (Str.ofString "crawler") kk_KINDS1,.str (Str.ofString "runner") kk_KINDS2] kn_KINDS,ks_KINDS⟩)
  (x_COMMON_SIGNS:PySem.W.nsIn K mainGlobals "COMMON_SIGNS"=some (some (.ref K_COMMON_SIGNS))) (lk_COMMON_SIGNS:K.lookup K_COMMON_SIGNS=some ⟨.type "tuple",kc_COMMON_SIGNS,.seq #[.str (Str.ofString ".") kk_COMMON_SIGNS0,.str (Str.ofString "+") kk_COMMON_SIGNS1,.str (Str.ofString "|") kk_COMMON_SIGNS2] kn_COMMON_SIGNS,ks_COMMON_SIGNS⟩)
  (cgx:PySem.W.specialIn K (.builtin "object.__class__") "__get__"=some (some (.builtin "getset_descriptor.__get__")))
  (ctx:PySem.W.takesIn K (.builtin "object.__class__")=some true)
  (ca_Cart:PySem.W.findIn K (.ref C_Cart) "__class__"=some (some (.builtin "object.__class__")))
  (cm_Cart:PySem.W.mroIn K C_Cart (.type "object")=some true)
  (is_Cart_Carrier:PySem.W.kitOne K (.ref C_Cart) (.ref C_Carrier)=some true)
  (is_Cart_Cart:PySem.W.kitOne K (.ref C_Cart) (.ref C_Cart)=some true)
  (is_Cart_Crawler:PySem.W.kitOne K (.ref C_Cart) (.ref C_Crawler)=some false)
  (is_Cart_Runner:PySem.W.kitOne K (.ref C_Cart) (.ref C_Runner)=some false)
  (ca_Crawler:PySem.W.findIn K (.ref C_Crawler) "__class__"=some (some (.builtin "object.__class__")))
  (cm_Crawler:PySem.W.mroIn K C_Crawler (.type "object")=some true)
  (is_Crawler_Carrier:PySem.W.kitOne K (.ref C_Crawler) (.ref C_Carrier)=some true)
  (is_Crawler_Cart:PySem.W.kitOne K (.ref C_Crawler) (.ref C_Cart)=some false)
  (is_Crawler_Crawler:PySem.W.kitOne K (.ref C_Crawler) (.ref C_Crawler)=some true)
  (is_Crawler_Runner:PySem.W.kitOne K (.ref C_Crawler) (.ref C_Runner)=some false)
  (ca_Runner:PySem.W.findIn K (.ref C_Runner) "__class__"=some (some (.builtin "object.__class__")))
  (cm_Runner:PySem.W.mroIn K C_Runner (.type "object")=some true)
  (is_Runner_Carrier:PySem.W.kitOne K (.ref C_Runner) (.ref C_Carrier)=some true)
  (is_Runner_Cart:PySem.W.kitOne K (.ref C_Runner) (.ref C_Cart)=some false)
  (is_Runner_Crawler:PySem.W.kitOne K (.ref C_Runner) (.ref C_Crawler)=some false)
  (is_Runner_Runner:PySem.W.kitOne K (.ref C_Runner) (.ref C_Runner)=some true)
  (ca_Carrier:PySem.W.findIn K (.ref C_Carrier) "__class__"=some (some (.builtin "object.__class__")))
  (cm_Carrier:PySem.W.mroIn K C_Carrier (.type "object")=some true)
  (is_Carrier_Carrier:PySem.W.kitOne K (.ref C_Carrier) (.ref C_Carrier)=some true)
  (is_Carrier_Cart:PySem.W.kitOne K (.ref C_Carrier) (.ref C_Cart)=some false)
  (is_Carrier_Crawler:PySem.W.kitOne K (.ref C_Carrier) (.ref C_Crawler)=some false)
  (is_Carrier_Runner:PySem.W.kitOne K (.ref C_Carrier) (.ref C_Runner)=some false)
  (a_q26:PySem.W.findIn K (.ref C_Heap) "__init__"=some (some (.ref f_q26))) (i_q26:PySem.W.isFn K (.ref f_q26)=true)
  (l_q26:K.lookup f_q26=some ⟨oc_q26,od_q26,.func (PySem.W.fnOf "__init__" "Heap.__init__" (defArgs s_q26) (defBody s_q26) (defScope s_q26) .none kV_q26 dc_q26 pm_q26 an_q26 cd_q26 ct_q26),sl_q26⟩) (c_q26:PySem.W.codeIn K cd_q26 "Heap.__init__"=true) (k_q26:PySem.W.keepIn K (.ref f_q26)=true)
  (a_q34:PySem.W.findIn K (.ref C_Heap) "put"=some (some (.ref f_q34))) (i_q34:PySem.W.isFn K (.ref f_q34)=true)
  (l_q34:K.lookup f_q34=some ⟨oc_q34,od_q34,.func (PySem.W.fnOf "put" "Heap.put" (defArgs s_q34) (defBody s_q34) (defScope s_q34) .none kV_q34 dc_q34 pm_q34 an_q34 cd_q34 ct_q34),sl_q34⟩) (c_q34:PySem.W.codeIn K cd_q34 "Heap.put"=true) (k_q34:PySem.W.keepIn K (.ref f_q34)=true)
  (a_q20:PySem.W.findIn K (.ref C_Heap) "least"=some (some (.ref f_q20))) (i_q20:PySem.W.isFn K (.ref f_q20)=true)
  (l_q20:K.lookup f_q20=some ⟨oc_q20,od_q20,.func (PySem.W.fnOf "least" "Heap.least" (defArgs s_q20) (defBody s_q20) (defScope s_q20) .none kV_q20 dc_q20 pm_q20 an_q20 cd_q20 ct_q20),sl_q20⟩) (c_q20:PySem.W.codeIn K cd_q20 "Heap.least"=true) (k_q20:PySem.W.keepIn K (.ref f_q20)=true)
  (a_q27:PySem.W.findIn K (.ref C_Heap) "take"=some (some (.ref f_q27))) (i_q27:PySem.W.isFn K (.ref f_q27)=true)
  (l_q27:K.lookup f_q27=some ⟨oc_q27,od_q27,.func (PySem.W.fnOf "take" "Heap.take" (defArgs s_q27) (defBody s_q27) (defScope s_q27) .none kV_q27 dc_q27 pm_q27 an_q27 cd_q27 ct_q27),sl_q27⟩) (c_q27:PySem.W.codeIn K cd_q27 "Heap.take"=true) (k_q27:PySem.W.keepIn K (.ref f_q27)=true)
  (a_q28:PySem.W.findIn K (.ref C_Heap) "size"=some (some (.ref f_q28))) (i_q28:PySem.W.isFn K (.ref f_q28)=true)
  (l_q28:K.lookup f_q28=some ⟨oc_q28,od_q28,.func (PySem.W.fnOf "size" "Heap.size" (defArgs s_q28) (defBody s_q28) (defScope s_q28) .none kV_q28 dc_q28 pm_q28 an_q28 cd_q28 ct_q28),sl_q28⟩) (c_q28:PySem.W.codeIn K cd_q28 "Heap.size"=true) (k_q28:PySem.W.keepIn K (.ref f_q28)=true)
  (a_q5:PySem.W.findIn K (.ref C_Heap) "lift_last"=some (some (.ref f_q5))) (i_q5:PySem.W.isFn K (.ref f_q5)=true)
  (l_q5:K.lookup f_q5=some ⟨oc_q5,od_q5,.func (PySem.W.fnOf "lift_last" "Heap.lift_last" (defArgs s_q5) (defBody s_q5) (defScope s_q5) .none kV_q5 dc_q5 pm_q5 an_q5 cd_q5 ct_q5),sl_q5⟩) (c_q5:PySem.W.codeIn K cd_q5 "Heap.lift_last"=true) (k_q5:PySem.W.keepIn K (.ref f_q5)=true)
  (a_q4:PySem.W.findIn K (.ref C_Heap) "sink_first"=some (some (.ref f_q4))) (i_q4:PySem.W.isFn K (.ref f_q4)=true)
  (l_q4:K.lookup f_q4=some ⟨oc_q4,od_q4,.func (PySem.W.fnOf "sink_first" "Heap.sink_first" (defArgs s_q4) (defBody s_q4) (defScope s_q4) .none kV_q4 dc_q4 pm_q4 an_q4 cd_q4 ct_q4),sl_q4⟩) (c_q4:PySem.W.codeIn K cd_q4 "Heap.sink_first"=true) (k_q4:PySem.W.keepIn K (.ref f_q4)=true)
  (a_q1:PySem.W.findIn K (.ref C_Heap) "lesser_below"=some (some (.ref f_q1))) (i_q1:PySem.W.isFn K (.ref f_q1)=true)
  (l_q1:K.lookup f_q1=some ⟨oc_q1,od_q1,.func (PySem.W.fnOf "lesser_below" "Heap.lesser_below" (defArgs s_q1) (defBody s_q1) (defScope s_q1) .none kV_q1 dc_q1 pm_q1 an_q1 cd_q1 ct_q1),sl_q1⟩) (c_q1:PySem.W.codeIn K cd_q1 "Heap.lesser_below"=true) (k_q1:PySem.W.keepIn K (.ref f_q1)=true)
  (a_q29:PySem.W.findIn K (.ref C_Heap) "swap"=some (some (.ref f_q29))) (i_q29:PySem.W.isFn K (.ref f_q29)=true)
  (l_q29:K.lookup f_q29=some ⟨oc_q29,od_q29,.func (PySem.W.fnOf "swap" "Heap.swap" (defArgs s_q29) (defBody s_q29) (defScope s_q29) .none kV_q29 dc_q29 pm_q29 an_q29 cd_q29 ct_q29),sl_q29⟩) (c_q29:PySem.W.codeIn K cd_q29 "Heap.swap"=true) (k_q29:PySem.W.keepIn K (.ref f_q29)=true)
  (a_q21:PySem.W.nsIn K mainGlobals "steps_into"=some (some (.ref f_q21)))
  (l_q21:K.lookup f_q21=some ⟨oc_q21,od_q21,.func (PySem.W.fnOf "steps_into" "steps_into" (defArgs s_q21) (defBody s_q21) (defScope s_q21) .none kV_q21 dc_q21 pm_q21 an_q21 cd_q21 ct_q21),sl_q21⟩) (c_q21:PySem.W.codeIn K cd_q21 "steps_into"=true) (k_q21:PySem.W.keepIn K (.ref f_q21)=true)
  (a_q6:PySem.W.nsIn K mainGlobals "standing_cells"=some (some (.ref f_q6)))
  (l_q6:K.lookup f_q6=some ⟨oc_q6,od_q6,.func (PySem.W.fnOf "standing_cells" "standing_cells" (defArgs s_q6) (defBody s_q6) (defScope s_q6) .none kV_q6 dc_q6 pm_q6 an_q6 cd_q6 ct_q6),sl_q6⟩) (c_q6:PySem.W.codeIn K cd_q6 "standing_cells"=true) (k_q6:PySem.W.keepIn K (.ref f_q6)=true)
  (a_q35:PySem.W.nsIn K mainGlobals "costs_to"=some (some (.ref f_q35)))
  (l_q35:K.lookup f_q35=some ⟨oc_q35,od_q35,.func (PySem.W.fnOf "costs_to" "costs_to" (defArgs s_q35) (defBody s_q35) (defScope s_q35) .none kV_q35 dc_q35 pm_q35 an_q35 cd_q35 ct_q35),sl_q35⟩) (c_q35:PySem.W.codeIn K cd_q35 "costs_to"=true) (k_q35:PySem.W.keepIn K (.ref f_q35)=true)
  (a_q36:PySem.W.nsIn K mainGlobals "needs_of"=some (some (.ref f_q36)))
  (l_q36:K.lookup f_q36=some ⟨oc_q36,od_q36,.func (PySem.W.fnOf "needs_of" "needs_of" (defArgs s_q36) (defBody s_q36) (defScope s_q36) .none kV_q36 dc_q36 pm_q36 an_q36 cd_q36 ct_q36),sl_q36⟩) (c_q36:PySem.W.codeIn K cd_q36 "needs_of"=true) (k_q36:PySem.W.keepIn K (.ref f_q36)=true)
  (a_q37:PySem.W.nsIn K mainGlobals "cheapest"=some (some (.ref f_q37)))
  (l_q37:K.lookup f_q37=some ⟨oc_q37,od_q37,.func (PySem.W.fnOf "cheapest" "cheapest" (defArgs s_q37) (defBody s_q37) (defScope s_q37) .none kV_q37 dc_q37 pm_q37 an_q37 cd_q37 ct_q37),sl_q37⟩) (c_q37:PySem.W.codeIn K cd_q37 "cheapest"=true) (k_q37:PySem.W.keepIn K (.ref f_q37)=true)
  (a_q22:PySem.W.nsIn K mainGlobals "least_next"=some (some (.ref f_q22)))
  (l_q22:K.lookup f_q22=some ⟨oc_q22,od_q22,.func (PySem.W.fnOf "least_next" "least_next" (defArgs s_q22) (defBody s_q22) (defScope s_q22) .none kV_q22 dc_q22 pm_q22 an_q22 cd_q22 ct_q22),sl_q22⟩) (c_q22:PySem.W.codeIn K cd_q22 "least_next"=true) (k_q22:PySem.W.keepIn K (.ref f_q22)=true)
  (a_q38:PySem.W.nsIn K mainGlobals "is_whole"=some (some (.ref f_q38)))
  (l_q38:K.lookup f_q38=some ⟨oc_q38,od_q38,.func (PySem.W.fnOf "is_whole" "is_whole" (defArgs s_q38) (defBody s_q38) (defScope s_q38) .none kV_q38 dc_q38 pm_q38 an_q38 cd_q38 ct_q38),sl_q38⟩) (c_q38:PySem.W.codeIn K cd_q38 "is_whole"=true) (k_q38:PySem.W.keepIn K (.ref f_q38)=true)
  (a_q39:PySem.W.nsIn K mainGlobals "is_among"=some (some (.ref f_q39)))
  (l_q39:K.lookup f_q39=some ⟨oc_q39,od_q39,.func (PySem.W.fnOf "is_among" "is_among" (defArgs s_q39) (defBody s_q39) (defScope s_q39) .none kV_q39 dc_q39 pm_q39 an_q39 cd_q39 ct_q39),sl_q39⟩) (c_q39:PySem.W.codeIn K cd_q39 "is_among"=true) (k_q39:PySem.W.keepIn K (.ref f_q39)=true)
  (a_q30:PySem.W.nsIn K mainGlobals "check_row"=some (some (.ref f_q30)))
  (l_q30:K.lookup f_q30=some ⟨oc_q30,od_q30,.func (PySem.W.fnOf "check_row" "check_row" (defArgs s_q30) (defBody s_q30) (defScope s_q30) .none kV_q30 dc_q30 pm_q30 an_q30 cd_q30 ct_q30),sl_q30⟩) (c_q30:PySem.W.codeIn K cd_q30 "check_row"=true) (k_q30:PySem.W.keepIn K (.ref f_q30)=true)
  (a_q16:PySem.W.nsIn K mainGlobals "check_floor"=some (some (.ref f_q16)))
  (l_q16:K.lookup f_q16=some ⟨oc_q16,od_q16,.func (PySem.W.fnOf "check_floor" "check_floor" (defArgs s_q16) (defBody s_q16) (defScope s_q16) .none kV_q16 dc_q16 pm_q16 an_q16 cd_q16 ct_q16),sl_q16⟩) (c_q16:PySem.W.codeIn K cd_q16 "check_floor"=true) (k_q16:PySem.W.keepIn K (.ref f_q16)=true)
  (a_q23:PySem.W.findIn K (.ref C_Floor) "__init__"=some (some (.ref f_q23))) (i_q23:PySem.W.isFn K (.ref f_q23)=true)
  (l_q23:K.lookup f_q23=some ⟨oc_q23,od_q23,.func (PySem.W.fnOf "__init__" "Floor.__init__" (defArgs s_q23) (defBody s_q23) (defScope s_q23) .none kV_q23 dc_q23 pm_q23 an_q23 cd_q23 ct_q23),sl_q23⟩) (c_q23:PySem.W.codeIn K cd_q23 "Floor.__init__"=true) (k_q23:PySem.W.keepIn K (.ref f_q23)=true)
  (a_q31:PySem.W.findIn K (.ref C_Floor) "has"=some (some (.ref f_q31))) (i_q31:PySem.W.isFn K (.ref f_q31)=true)
  (l_q31:K.lookup f_q31=some ⟨oc_q31,od_q31,.func (PySem.W.fnOf "has" "Floor.has" (defArgs s_q31) (defBody s_q31) (defScope s_q31) .none kV_q31 dc_q31 pm_q31 an_q31 cd_q31 ct_q31),sl_q31⟩) (c_q31:PySem.W.codeIn K cd_q31 "Floor.has"=true) (k_q31:PySem.W.keepIn K (.ref f_q31)=true)
  (a_q24:PySem.W.findIn K (.ref C_Floor) "sign"=some (some (.ref f_q24))) (i_q24:PySem.W.isFn K (.ref f_q24)=true)
  (l_q24:K.lookup f_q24=some ⟨oc_q24,od_q24,.func (PySem.W.fnOf "sign" "Floor.sign" (defArgs s_q24) (defBody s_q24) (defScope s_q24) .none kV_q24 dc_q24 pm_q24 an_q24 cd_q24 ct_q24),sl_q24⟩) (c_q24:PySem.W.codeIn K cd_q24 "Floor.sign"=true) (k_q24:PySem.W.keepIn K (.ref f_q24)=true)
  (a_q9:PySem.W.findIn K (.ref C_Floor) "column"=some (some (.ref f_q9))) (i_q9:PySem.W.isFn K (.ref f_q9)=true)
  (l_q9:K.lookup f_q9=some ⟨oc_q9,od_q9,.func (PySem.W.fnOf "column" "Floor.column" (defArgs s_q9) (defBody s_q9) (defScope s_q9) .none kV_q9 dc_q9 pm_q9 an_q9 cd_q9 ct_q9),sl_q9⟩) (c_q9:PySem.W.codeIn K cd_q9 "Floor.column"=true) (k_q9:PySem.W.keepIn K (.ref f_q9)=true)
  (a_q32:PySem.W.findIn K (.ref C_Floor) "row"=some (some (.ref f_q32))) (i_q32:PySem.W.isFn K (.ref f_q32)=true)
  (l_q32:K.lookup f_q32=some ⟨oc_q32,od_q32,.func (PySem.W.fnOf "row" "Floor.row" (defArgs s_q32) (defBody s_q32) (defScope s_q32) .none kV_q32 dc_q32 pm_q32 an_q32 cd_q32 ct_q32),sl_q32⟩) (c_q32:PySem.W.codeIn K cd_q32 "Floor.row"=true) (k_q32:PySem.W.keepIn K (.ref f_q32)=true)
  (a_q17:PySem.W.findIn K (.ref C_Floor) "cells"=some (some (.ref f_q17))) (i_q17:PySem.W.isFn K (.ref f_q17)=true)
  (l_q17:K.lookup f_q17=some ⟨oc_q17,od_q17,.func (PySem.W.fnOf "cells" "Floor.cells" (defArgs s_q17) (defBody s_q17) (defScope s_q17) .none kV_q17 dc_q17 pm_q17 an_q17 cd_q17 ct_q17),sl_q17⟩) (c_q17:PySem.W.codeIn K cd_q17 "Floor.cells"=true) (k_q17:PySem.W.keepIn K (.ref f_q17)=true)
  (a_q7:PySem.W.findIn K (.ref C_Floor) "chargers"=some (some (.ref f_q7))) (i_q7:PySem.W.isFn K (.ref f_q7)=true)
  (l_q7:K.lookup f_q7=some ⟨oc_q7,od_q7,.func (PySem.W.fnOf "chargers" "Floor.chargers" (defArgs s_q7) (defBody s_q7) (defScope s_q7) .none kV_q7 dc_q7 pm_q7 an_q7 cd_q7 ct_q7),sl_q7⟩) (c_q7:PySem.W.codeIn K cd_q7 "Floor.chargers"=true) (k_q7:PySem.W.keepIn K (.ref f_q7)=true)
  (a_q10:PySem.W.findIn K (.ref C_Floor) "beside"=some (some (.ref f_q10))) (i_q10:PySem.W.isFn K (.ref f_q10)=true)
  (l_q10:K.lookup f_q10=some ⟨oc_q10,od_q10,.func (PySem.W.fnOf "beside" "Floor.beside" (defArgs s_q10) (defBody s_q10) (defScope s_q10) .none kV_q10 dc_q10 pm_q10 an_q10 cd_q10 ct_q10),sl_q10⟩) (c_q10:PySem.W.codeIn K cd_q10 "Floor.beside"=true) (k_q10:PySem.W.keepIn K (.ref f_q10)=true)
  (a_q11:PySem.W.findIn K (.ref C_Carrier) "__init__"=some (some (.ref f_q11))) (i_q11:PySem.W.isFn K (.ref f_q11)=true)
  (l_q11:K.lookup f_q11=some ⟨oc_q11,od_q11,.func (PySem.W.fnOf "__init__" "Carrier.__init__" (defArgs s_q11) (defBody s_q11) (defScope s_q11) .none kV_q11 dc_q11 pm_q11 an_q11 cd_q11 ct_q11),sl_q11⟩) (c_q11:PySem.W.codeIn K cd_q11 "Carrier.__init__"=true) (k_q11:PySem.W.keepIn K (.ref f_q11)=true)
  (a_q12:PySem.W.findIn K (.ref C_Carrier) "kind"=some (some (.ref f_q12))) (i_q12:PySem.W.isFn K (.ref f_q12)=true)
  (l_q12:K.lookup f_q12=some ⟨oc_q12,od_q12,.func (PySem.W.fnOf "kind" "Carrier.kind" (defArgs s_q12) (defBody s_q12) (defScope s_q12) .none kV_q12 dc_q12 pm_q12 an_q12 cd_q12 ct_q12),sl_q12⟩) (c_q12:PySem.W.codeIn K cd_q12 "Carrier.kind"=true) (k_q12:PySem.W.keepIn K (.ref f_q12)=true)
  (a_q2:PySem.W.findIn K (.ref C_Carrier) "may_stand"=some (some (.ref f_q2))) (i_q2:PySem.W.isFn K (.ref f_q2)=true)
  (l_q2:K.lookup f_q2=some ⟨oc_q2,od_q2,.func (PySem.W.fnOf "may_stand" "Carrier.may_stand" (defArgs s_q2) (defBody s_q2) (defScope s_q2) .none kV_q2 dc_q2 pm_q2 an_q2 cd_q2 ct_q2),sl_q2⟩) (c_q2:PySem.W.codeIn K cd_q2 "Carrier.may_stand"=true) (k_q2:PySem.W.keepIn K (.ref f_q2)=true)
  (a_q13:PySem.W.findIn K (.ref C_Carrier) "fare"=some (some (.ref f_q13))) (i_q13:PySem.W.isFn K (.ref f_q13)=true)
  (l_q13:K.lookup f_q13=some ⟨oc_q13,od_q13,.func (PySem.W.fnOf "fare" "Carrier.fare" (defArgs s_q13) (defBody s_q13) (defScope s_q13) .none kV_q13 dc_q13 pm_q13 an_q13 cd_q13 ct_q13),sl_q13⟩) (c_q13:PySem.W.codeIn K cd_q13 "Carrier.fare"=true) (k_q13:PySem.W.keepIn K (.ref f_q13)=true)
  (a_q8:PySem.W.findIn K (.ref C_Carrier) "steps"=some (some (.ref f_q8))) (i_q8:PySem.W.isFn K (.ref f_q8)=true)
  (l_q8:K.lookup f_q8=some ⟨oc_q8,od_q8,.func (PySem.W.fnOf "steps" "Carrier.steps" (defArgs s_q8) (defBody s_q8) (defScope s_q8) .none kV_q8 dc_q8 pm_q8 an_q8 cd_q8 ct_q8),sl_q8⟩) (c_q8:PySem.W.codeIn K cd_q8 "Carrier.steps"=true) (k_q8:PySem.W.keepIn K (.ref f_q8)=true)
  (a_q0:PySem.W.findIn K (.ref C_Carrier) "fare_if_standing"=some (some (.ref f_q0))) (i_q0:PySem.W.isFn K (.ref f_q0)=true)
  (l_q0:K.lookup f_q0=some ⟨oc_q0,od_q0,.func (PySem.W.fnOf "fare_if_standing" "Carrier.fare_if_standing" (defArgs s_q0) (defBody s_q0) (defScope s_q0) .none kV_q0 dc_q0 pm_q0 an_q0 cd_q0 ct_q0),sl_q0⟩) (c_q0:PySem.W.codeIn K cd_q0 "Carrier.fare_if_standing"=true) (k_q0:PySem.W.keepIn K (.ref f_q0)=true)
  (a_q33:PySem.W.findIn K (.ref C_Cart) "kind"=some (some (.ref f_q33))) (i_q33:PySem.W.isFn K (.ref f_q33)=true)
  (l_q33:K.lookup f_q33=some ⟨oc_q33,od_q33,.func (PySem.W.fnOf "kind" "Cart.kind" (defArgs s_q33) (defBody s_q33) (defScope s_q33) .none kV_q33 dc_q33 pm_q33 an_q33 cd_q33 ct_q33),sl_q33⟩) (c_q33:PySem.W.codeIn K cd_q33 "Cart.kind"=true) (k_q33:PySem.W.keepIn K (.ref f_q33)=true)
  (a_q14:PySem.W.findIn K (.ref C_Crawler) "kind"=some (some (.ref f_q14))) (i_q14:PySem.W.isFn K (.ref f_q14)=true)
  (l_q14:K.lookup f_q14=some ⟨oc_q14,od_q14,.func (PySem.W.fnOf "kind" "Crawler.kind" (defArgs s_q14) (defBody s_q14) (defScope s_q14) .none kV_q14 dc_q14 pm_q14 an_q14 cd_q14 ct_q14),sl_q14⟩) (c_q14:PySem.W.codeIn K cd_q14 "Crawler.kind"=true) (k_q14:PySem.W.keepIn K (.ref f_q14)=true)
  (a_q3:PySem.W.findIn K (.ref C_Crawler) "may_stand"=some (some (.ref f_q3))) (i_q3:PySem.W.isFn K (.ref f_q3)=true)
  (l_q3:K.lookup f_q3=some ⟨oc_q3,od_q3,.func (PySem.W.fnOf "may_stand" "Crawler.may_stand" (defArgs s_q3) (defBody s_q3) (defScope s_q3) .none kV_q3 dc_q3 pm_q3 an_q3 cd_q3 ct_q3),sl_q3⟩) (c_q3:PySem.W.codeIn K cd_q3 "Crawler.may_stand"=true) (k_q3:PySem.W.keepIn K (.ref f_q3)=true)
  (a_q15:PySem.W.findIn K (.ref C_Crawler) "fare"=some (some (.ref f_q15))) (i_q15:PySem.W.isFn K (.ref f_q15)=true)
  (l_q15:K.lookup f_q15=some ⟨oc_q15,od_q15,.func (PySem.W.fnOf "fare" "Crawler.fare" (defArgs s_q15) (defBody s_q15) (defScope s_q15) .none kV_q15 dc_q15 pm_q15 an_q15 cd_q15 ct_q15),sl_q15⟩) (c_q15:PySem.W.codeIn K cd_q15 "Crawler.fare"=true) (k_q15:PySem.W.keepIn K (.ref f_q15)=true)
  (a_q18:PySem.W.findIn K (.ref C_Runner) "kind"=some (some (.ref f_q18))) (i_q18:PySem.W.isFn K (.ref f_q18)=true)
  (l_q18:K.lookup f_q18=some ⟨oc_q18,od_q18,.func (PySem.W.fnOf "kind" "Runner.kind" (defArgs s_q18) (defBody s_q18) (defScope s_q18) .none kV_q18 dc_q18 pm_q18 an_q18 cd_q18 ct_q18),sl_q18⟩) (c_q18:PySem.W.codeIn K cd_q18 "Runner.kind"=true) (k_q18:PySem.W.keepIn K (.ref f_q18)=true)
  (a_q19:PySem.W.findIn K (.ref C_Runner) "fare"=some (some (.ref f_q19))) (i_q19:PySem.W.isFn K (.ref f_q19)=true)
  (l_q19:K.lookup f_q19=some ⟨oc_q19,od_q19,.func (PySem.W.fnOf "fare" "Runner.fare" (defArgs s_q19) (defBody s_q19) (defScope s_q19) .none kV_q19 dc_q19 pm_q19 an_q19 cd_q19 ct_q19),sl_q19⟩) (c_q19:PySem.W.codeIn K cd_q19 "Runner.fare"=true) (k_q19:PySem.W.keepIn K (.ref f_q19)=true)
  (a_q25:PySem.W.nsIn K mainGlobals "carrier_of"=some (some (.ref f_q25)))
  (l_q25:K.lookup f_q25=some ⟨oc_q25,od_q25,.func (PySem.W.fnOf "carrier_of" "carrier_of" (defArgs s_q25) (defBody s_q25) (defScope s_q25) (.ref dt_q25) kV_q25 dc_q25 pm_q25 an_q25 cd_q25 ct_q25),sl_q25⟩) (c_q25:PySem.W.codeIn K cd_q25 "carrier_of"=true) (k_q25:PySem.W.keepIn K (.ref f_q25)=true)
  (df_q25:K.lookup dt_q25=some ⟨dc_q25_,dd_q25,.seq #[.int 20 td_carrier_of0] dn_q25,ds_q25⟩)
  (a_Lat:PySem.W.nsIn K mainGlobals "_law_at"=some (some (.ref f_Lat)))
  (l_Lat:K.lookup f_Lat=some ⟨oc_Lat,od_Lat,.func (PySem.W.fnOf "_law_at" "_law_at" (defArgs s_Lat) (defBody s_Lat) (defScope s_Lat) .none kV_Lat dc_Lat pm_Lat an_Lat cd_Lat ct_Lat),sl_Lat⟩) (c_Lat:PySem.W.codeIn K cd_Lat "_law_at"=true) (k_Lat:PySem.W.keepIn K (.ref f_Lat)=true)
  (a_q44:PySem.W.nsIn K mainGlobals "_law_mixed"=some (some (.ref f_q44)))
  (l_q44:K.lookup f_q44=some ⟨oc_q44,od_q44,.func (PySem.W.fnOf "_law_mixed" "_law_mixed" (defArgs s_q44) (defBody s_q44) (defScope s_q44) .none kV_q44 dc_q44 pm_q44 an_q44 cd_q44 ct_q44),sl_q44⟩) (c_q44:PySem.W.codeIn K cd_q44 "_law_mixed"=true) (k_q44:PySem.W.keepIn K (.ref f_q44)=true)
  (a_q45:PySem.W.nsIn K mainGlobals "_law_whole"=some (some (.ref f_q45)))
  (l_q45:K.lookup f_q45=some ⟨oc_q45,od_q45,.func (PySem.W.fnOf "_law_whole" "_law_whole" (defArgs s_q45) (defBody s_q45) (defScope s_q45) .none kV_q45 dc_q45 pm_q45 an_q45 cd_q45 ct_q45),sl_q45⟩) (c_q45:PySem.W.codeIn K cd_q45 "_law_whole"=true) (k_q45:PySem.W.keepIn K (.ref f_q45)=true)
  (a_q46:PySem.W.nsIn K mainGlobals "_law_lines"=some (some (.ref f_q46)))
  (l_q46:K.lookup f_q46=some ⟨oc_q46,od_q46,.func (PySem.W.fnOf "_law_lines" "_law_lines" (defArgs s_q46) (defBody s_q46) (defScope s_q46) .none kV_q46 dc_q46 pm_q46 an_q46 cd_q46 ct_q46),sl_q46⟩) (c_q46:PySem.W.codeIn K cd_q46 "_law_lines"=true) (k_q46:PySem.W.keepIn K (.ref f_q46)=true)
  (a_Lsign:PySem.W.nsIn K mainGlobals "_law_sign"=some (some (.ref f_Lsign)))
  (l_Lsign:K.lookup f_Lsign=some ⟨oc_Lsign,od_Lsign,.func (PySem.W.fnOf "_law_sign" "_law_sign" (defArgs z139) (defBody z139) (defScope z139) .none kV_Lsign dc_Lsign pm_Lsign an_Lsign cd_Lsign ct_Lsign),sl_Lsign⟩) (c_Lsign:PySem.W.codeIn K cd_Lsign "_law_sign"=true) (k_Lsign:PySem.W.keepIn K (.ref f_Lsign)=true)
  (a_q47:PySem.W.nsIn K mainGlobals "_law_cells"=some (some (.ref f_q47)))
  (l_q47:K.lookup f_q47=some ⟨oc_q47,od_q47,.func (PySem.W.fnOf "_law_cells" "_law_cells" (defArgs s_q47) (defBody s_q47) (defScope s_q47) .none kV_q47 dc_q47 pm_q47 an_q47 cd_q47 ct_q47),sl_q47⟩) (c_q47:PySem.W.codeIn K cd_q47 "_law_cells"=true) (k_q47:PySem.W.keepIn K (.ref f_q47)=true)
  (a_q40:PySem.W.nsIn K mainGlobals "_law_beside"=some (some (.ref f_q40)))
  (l_q40:K.lookup f_q40=some ⟨oc_q40,od_q40,.func (PySem.W.fnOf "_law_beside" "_law_beside" (defArgs s_q40) (defBody s_q40) (defScope s_q40) .none kV_q40 dc_q40 pm_q40 an_q40 cd_q40 ct_q40),sl_q40⟩) (c_q40:PySem.W.codeIn K cd_q40 "_law_beside"=true) (k_q40:PySem.W.keepIn K (.ref f_q40)=true)
  (a_q41:PySem.W.nsIn K mainGlobals "_law_stands"=some (some (.ref f_q41)))
  (l_q41:K.lookup f_q41=some ⟨oc_q41,od_q41,.func (PySem.W.fnOf "_law_stands" "_law_stands" (defArgs s_q41) (defBody s_q41) (defScope s_q41) .none kV_q41 dc_q41 pm_q41 an_q41 cd_q41 ct_q41),sl_q41⟩) (c_q41:PySem.W.codeIn K cd_q41 "_law_stands"=true) (k_q41:PySem.W.keepIn K (.ref f_q41)=true)
  (a_Lcost:PySem.W.nsIn K mainGlobals "_law_cost"=some (some (.ref f_Lcost)))
  (l_Lcost:K.lookup f_Lcost=some ⟨oc_Lcost,od_Lcost,.func (PySem.W.fnOf "_law_cost" "_law_cost" (defArgs z68) (defBody z68) (defScope z68) .none kV_Lcost dc_Lcost pm_Lcost an_Lcost cd_Lcost ct_Lcost),sl_Lcost⟩) (c_Lcost:PySem.W.codeIn K cd_Lcost "_law_cost"=true) (k_Lcost:PySem.W.keepIn K (.ref f_Lcost)=true)
  (a_q48:PySem.W.nsIn K mainGlobals "_law_steps"=some (some (.ref f_q48)))
  (l_q48:K.lookup f_q48=some ⟨oc_q48,od_q48,.func (PySem.W.fnOf "_law_steps" "_law_steps" (defArgs s_q48) (defBody s_q48) (defScope s_q48) .none kV_q48 dc_q48 pm_q48 an_q48 cd_q48 ct_q48),sl_q48⟩) (c_q48:PySem.W.codeIn K cd_q48 "_law_steps"=true) (k_q48:PySem.W.keepIn K (.ref f_q48)=true)
  (a_q42:PySem.W.nsIn K mainGlobals "_law_closed"=some (some (.ref f_q42)))
  (l_q42:K.lookup f_q42=some ⟨oc_q42,od_q42,.func (PySem.W.fnOf "_law_closed" "_law_closed" (defArgs s_q42) (defBody s_q42) (defScope s_q42) .none kV_q42 dc_q42 pm_q42 an_q42 cd_q42 ct_q42),sl_q42⟩) (c_q42:PySem.W.codeIn K cd_q42 "_law_closed"=true) (k_q42:PySem.W.keepIn K (.ref f_q42)=true)
  (a_q43:PySem.W.nsIn K mainGlobals "_law_walked"=some (some (.ref f_q43)))
  (l_q43:K.lookup f_q43=some ⟨oc_q43,od_q43,.func (PySem.W.fnOf "_law_walked" "_law_walked" (defArgs s_q43) (defBody s_q43) (defScope s_q43) .none kV_q43 dc_q43 pm_q43 an_q43 cd_q43 ct_q43),sl_q43⟩) (c_q43:PySem.W.codeIn K cd_q43 "_law_walked"=true) (k_q43:PySem.W.keepIn K (.ref f_q43)=true)
  (a_Leach:PySem.W.nsIn K mainGlobals "_law_each"=some (some (.ref f_Leach)))
  (l_Leach:K.lookup f_Leach=some ⟨oc_Leach,od_Leach,.func (PySem.W.fnOf "_law_each" "_law_each" (defArgs z12) (defBody z12) (defScope z12) .none kV_Leach dc_Leach pm_Leach an_Leach cd_Leach ct_Leach),sl_Leach⟩) (c_Leach:PySem.W.codeIn K cd_Leach "_law_each"=true) (k_Leach:PySem.W.keepIn K (.ref f_Leach)=true)
  (a_law:PySem.W.nsIn K mainGlobals "law"=some (some (.ref f_law)))
  (l_law:K.lookup f_law=some ⟨oc_law,od_law,.func (PySem.W.fnOf "law" "law" (defArgs s_law) (defBody s_law) (defScope s_law) .none kV_law dc_law pm_law an_law cd_law ct_law),sl_law⟩) (c_law:PySem.W.codeIn K cd_law "law"=true) (k_law:PySem.W.keepIn K (.ref f_law)=true)
  (as_Cart_may_stand:PySem.W.findIn K (.ref C_Cart) "may_stand"=some (some (.ref f_q2)))
  (as_Cart_fare:PySem.W.findIn K (.ref C_Cart) "fare"=some (some (.ref f_q13)))
  (as_Cart_steps:PySem.W.findIn K (.ref C_Cart) "steps"=some (some (.ref f_q8)))
  (as_Cart_fare_if_standing:PySem.W.findIn K (.ref C_Cart) "fare_if_standing"=some (some (.ref f_q0)))
  (as_Crawler_steps:PySem.W.findIn K (.ref C_Crawler) "steps"=some (some (.ref f_q8)))
  (as_q15_if_standing:PySem.W.findIn K (.ref C_Crawler) "fare_if_standing"=some (some (.ref f_q0)))
  (as_Runner_may_stand:PySem.W.findIn K (.ref C_Runner) "may_stand"=some (some (.ref f_q2)))
  (as_Runner_steps:PySem.W.findIn K (.ref C_Runner) "steps"=some (some (.ref f_q8)))
  (as_q19_if_standing:PySem.W.findIn K (.ref C_Runner) "fare_if_standing"=some (some (.ref f_q0)))
  (as_Cart_init:PySem.W.findIn K (.ref C_Cart) "__init__"=some (some (.ref f_q11)))
  (as_Crawler_init:PySem.W.findIn K (.ref C_Crawler) "__init__"=some (some (.ref f_q11)))
  (as_Runner_init:PySem.W.findIn K (.ref C_Runner) "__init__"=some (some (.ref f_q11)))
  (z_len:PySem.W.nsIn K mainGlobals "len"=some none)
  (z_range:PySem.W.nsIn K mainGlobals "range"=some none)
  (z_isinstance:PySem.W.nsIn K mainGlobals "isinstance"=some none)
  (z_all:PySem.W.nsIn K mainGlobals "all"=some none)
  (z_int:PySem.W.nsIn K mainGlobals "int"=some none)
  (z_bool:PySem.W.nsIn K mainGlobals "bool"=some none)
  (z_str:PySem.W.nsIn K mainGlobals "str"=some none)
  (z_list:PySem.W.nsIn K mainGlobals "list"=some none)
  (z_tuple:PySem.W.nsIn K mainGlobals "tuple"=some none)
  (z_dict:PySem.W.nsIn K mainGlobals "dict"=some none)
  (z_min:PySem.W.nsIn K mainGlobals "min"=some none)
  (z_max:PySem.W.nsIn K mainGlobals "max"=some none)
  (z_set:PySem.W.nsIn K mainGlobals "set"=some none)
  (z_sorted:PySem.W.nsIn K mainGlobals "sorted"=some none)
  (z_zip:PySem.W.nsIn K mainGlobals "zip"=some none)
  (x_WALL:PySem.W.nsIn K mainGlobals "WALL"=some (some (.str (Str.ofString "#") t_WALL)))
  (x_CHARGER:PySem.W.nsIn K mainGlobals "CHARGER"=some (some (.str (Str.ofString "+") t_CHARGER)))
  (x_SIGNS:PySem.W.nsIn K mainGlobals "SIGNS"=some (some (.str (Str.ofString ".#+~|") t_SIGNS)))
  (x_MOST_ROWS:PySem.W.nsIn K mainGlobals "MOST_ROWS"=some (some (.int 10 t_MOST_ROWS)))
  (x_MOST_SIGNS:PySem.W.nsIn K mainGlobals "MOST_SIGNS"=some (some (.int 10 t_MOST_SIGNS)))
  (x_MOST_FULL:PySem.W.nsIn K mainGlobals "MOST_FULL"=some (some (.int 60 t_MOST_FULL)))
  (x_ROUGH:PySem.W.nsIn K mainGlobals "ROUGH"=some (some (.str (Str.ofString "~") t_ROUGH)))
  (x_LANE:PySem.W.nsIn K mainGlobals "LANE"=some (some (.str (Str.ofString "|") t_LANE)))
  : ∃ fd:FuncData,(∀ (s:Shared) (v:Value),BindsTo s fd ⟨[v],[]⟩ [("_law_script",v)])∧∀ base:Heap,K.In base→base.Ns mainGlobals mg→FnOk l.prog w K mg base CX0 10 fa fd ["_law_script"] (spLaw K):=by
 obtain rfl:f_law=fa:=by
  have e:=hfa.symm.trans (PySem.W.mg_of X G a_law)
  cases e
  rfl
 let A0:Ad:=⟨f_q26,f_q34,f_q20,f_q27,f_q28,f_q5,f_q4,f_q1,f_q29,f_q21,f_q6,f_q35,f_q36,f_q37,f_q22,f_q38,f_q39,f_q30,f_q16,f_q23,f_q31,f_q24,f_q9,f_q32,f_q17,f_q7,f_q10,f_q11,f_q12,f_q2,f_q13,f_q8,f_q0,f_q33,f_q14,f_q3,f_q15,f_q18,f_q19,f_q25,f_Lat,f_q44,f_q45,f_q46,f_Lsign,f_q47,f_q40,f_q41,f_Lcost,f_q48,f_q42,f_q43,f_Leach,f_law,C_Floor,C_Cart,C_Crawler,C_Runner,C_Carrier,C_Heap,K_KINDS,K_COMMON_SIGNS⟩
 have T:Txt K mg A0:=by
  constructor
  ·exact PySem.W.mg_none_of X G z_len
  ·exact PySem.W.mg_none_of X G z_range
  ·exact PySem.W.mg_none_of X G z_isinstance
  ·exact PySem.W.mg_none_of X G z_all
  ·exact PySem.W.mg_none_of X G z_int
  ·exact PySem.W.mg_none_of X G z_bool
  ·exact PySem.W.mg_none_of X G z_str
  ·exact PySem.W.mg_none_of X G z_list
  ·exact PySem.W.mg_none_of X G z_tuple
  ·exact PySem.W.mg_none_of X G z_dict
  ·exact PySem.W.mg_none_of X G z_min
  ·exact PySem.W.mg_none_of X G z_max
  ·exact PySem.W.mg_none_of X G z_set
  ·exact PySem.W.mg_none_of X G z_sorted
  ·exact PySem.W.mg_none_of X G z_zip
  ·exact⟨_,PySem.W.mg_of X G x_WALL,⟨_,rfl⟩⟩
  ·exact⟨_,PySem.W.mg_of X G x_CHARGER,⟨_,rfl⟩⟩
  ·exact⟨_,PySem.W.mg_of X G x_ROUGH,⟨_,rfl⟩⟩
  ·exact⟨_,PySem.W.mg_of X G x_LANE,⟨_,rfl⟩⟩
  ·exact⟨_,PySem.W.mg_of X G x_SIGNS,⟨_,rfl⟩⟩
  ·exact⟨_,PySem.W.mg_of X G x_MOST_ROWS,⟨_,rfl⟩⟩
  ·exact⟨_,PySem.W.mg_of X G x_MOST_SIGNS,⟨_,rfl⟩⟩
  ·exact⟨_,PySem.W.mg_of X G x_KINDS,rfl⟩
  ·exact⟨_,PySem.W.mg_of X G x_MOST_FULL,⟨_,rfl⟩⟩
  ·exact⟨_,PySem.W.mg_of X G x_COMMON_SIGNS,rfl⟩
  ·exact⟨a_q34,i_q34,k_q34⟩
  ·exact⟨a_q20,i_q20,k_q20⟩
  ·exact⟨a_q27,i_q27,k_q27⟩
  ·exact⟨a_q28,i_q28,k_q28⟩
  ·exact⟨a_q5,i_q5,k_q5⟩
  ·exact⟨a_q4,i_q4,k_q4⟩
  ·exact⟨a_q1,i_q1,k_q1⟩
  ·exact⟨a_q29,i_q29,k_q29⟩
  ·exact PySem.W.mg_of X G a_q21
  ·exact k_q21
  ·exact PySem.W.mg_of X G a_q6
  ·exact k_q6
  ·exact PySem.W.mg_of X G a_q35
  ·exact k_q35
  ·exact PySem.W.mg_of X G a_q36
  ·exact k_q36
  ·exact PySem.W.mg_of X G a_q37
  ·exact k_q37
  ·exact PySem.W.mg_of X G a_q22
  ·exact k_q22
  ·exact PySem.W.mg_of X G a_q38
  ·exact k_q38
  ·exact PySem.W.mg_of X G a_q39
  ·exact k_q39
  ·exact PySem.W.mg_of X G a_q30
  ·exact k_q30
  ·exact PySem.W.mg_of X G a_q16
  ·exact k_q16
  ·exact⟨a_q31,i_q31,k_q31⟩
  ·exact⟨a_q24,i_q24,k_q24⟩
  ·exact⟨a_q9,i_q9,k_q9⟩
  ·exact⟨a_q32,i_q32,k_q32⟩
  ·exact⟨a_q17,i_q17,k_q17⟩
  ·exact⟨a_q7,i_q7,k_q7⟩
  ·exact⟨a_q10,i_q10,k_q10⟩
  ·exact⟨a_q12,i_q12,k_q12⟩
  ·exact⟨a_q2,i_q2,k_q2⟩
  ·exact⟨a_q13,i_q13,k_q13⟩
  ·exact⟨a_q8,i_q8,k_q8⟩
  ·exact⟨a_q0,i_q0,k_q0⟩
  ·exact⟨a_q33,i_q33,k_q33⟩
  ·exact⟨a_q14,i_q14,k_q14⟩
  ·exact⟨a_q3,i_q3,k_q3⟩
  ·exact⟨a_q15,i_q15,k_q15⟩
  ·exact⟨a_q18,i_q18,k_q18⟩
  ·exact⟨a_q19,i_q19,k_q19⟩
  ·exact PySem.W.mg_of X G a_q25
  ·exact k_q25
  ·exact PySem.W.mg_of X G a_Lat
  ·exact k_Lat
  ·exact PySem.W.mg_of X G a_q44
  ·exact k_q44
  ·exact PySem.W.mg_of X G a_q45
  ·exact k_q45
  ·exact PySem.W.mg_of X G a_q46
  ·exact k_q46
  ·exact PySem.W.mg_of X G a_Lsign
  ·exact k_Lsign
  ·exact PySem.W.mg_of X G a_q47
  ·exact k_q47
  ·exact PySem.W.mg_of X G a_q40
  ·exact k_q40
  ·exact PySem.W.mg_of X G a_q41
  ·exact k_q41
  ·exact PySem.W.mg_of X G a_Lcost
  ·exact k_Lcost
  ·exact PySem.W.mg_of X G a_q48
  ·exact k_q48
  ·exact PySem.W.mg_of X G a_q42
  ·exact k_q42
  ·exact PySem.W.mg_of X G a_q43
  ·exact k_q43
  ·exact PySem.W.mg_of X G a_Leach
  ·exact k_Leach
  ·exact PySem.W.mg_of X G a_law
  ·exact k_law
  ·exact PySem.W.mg_of X G aC_Floor
  ·exact⟨pg_Floor,hd_Floor,po_Floor,sa_Floor⟩
  ·exact n_Floor_wide
  ·exact n_Floor_high
  ·exact n_Floor_lines
  ·exact n_Floor_signs
  ·exact⟨mk_Floor,a_q23,i_q23,kc_Floor⟩
  ·exact PySem.W.mg_of X G aC_Cart
  ·exact⟨pg_Cart,hd_Cart,po_Cart,sa_Cart⟩
  ·exact n_Cart_full
  ·exact⟨mk_Cart,as_Cart_init,i_q11,kc_Cart⟩
  ·exact PySem.W.mg_of X G aC_Crawler
  ·exact⟨pg_Crawler,hd_Crawler,po_Crawler,sa_Crawler⟩
  ·exact n_Crawler_full
  ·exact⟨mk_Crawler,as_Crawler_init,i_q11,kc_Crawler⟩
  ·exact PySem.W.mg_of X G aC_Runner
  ·exact⟨pg_Runner,hd_Runner,po_Runner,sa_Runner⟩
  ·exact n_Runner_full
  ·exact⟨mk_Runner,as_Runner_init,i_q11,kc_Runner⟩
  ·exact PySem.W.mg_of X G aC_Carrier
  ·exact⟨pg_Carrier,hd_Carrier,po_Carrier,sa_Carrier⟩
  ·exact n_Carrier_full
  ·exact⟨mk_Carrier,a_q11,i_q11,kc_Carrier⟩
  ·exact PySem.W.mg_of X G aC_Heap
  ·exact⟨pg_Heap,hd_Heap,po_Heap,sa_Heap⟩
  ·exact n_Heap_things
  ·exact⟨mk_Heap,a_q26,i_q26,kc_Heap⟩
  ·exact⟨as_Cart_may_stand,i_q2,k_q2⟩
  ·exact⟨as_Cart_fare,i_q13,k_q13⟩
  ·exact⟨as_Cart_steps,i_q8,k_q8⟩
  ·exact⟨as_Cart_fare_if_standing,i_q0,k_q0⟩
  ·exact⟨as_Crawler_steps,i_q8,k_q8⟩
  ·exact⟨as_q15_if_standing,i_q0,k_q0⟩
  ·exact⟨as_Runner_may_stand,i_q2,k_q2⟩
  ·exact⟨as_Runner_steps,i_q8,k_q8⟩
  ·exact⟨as_q19_if_standing,i_q0,k_q0⟩
  ·exact cgx
  ·exact ctx
  ·exact ca_Cart
  ·exact cm_Cart
  ·exact is_Cart_Carrier
  ·exact is_Cart_Cart
  ·exact is_Cart_Crawler
  ·exact is_Cart_Runner
  ·exact ca_Crawler
  ·exact cm_Crawler
  ·exact is_Crawler_Carrier
  ·exact is_Crawler_Cart
  ·exact is_Crawler_Crawler
  ·exact is_Crawler_Runner
  ·exact ca_Runner
  ·exact cm_Runner
  ·exact is_Runner_Carrier
  ·exact is_Runner_Cart
  ·exact is_Runner_Crawler
  ·exact is_Runner_Runner
  ·exact ca_Carrier
  ·exact cm_Carrier
  ·exact is_Carrier_Carrier
  ·exact is_Carrier_Cart
  ·exact is_Carrier_Crawler
  ·exact is_Carrier_Runner
  ·exact fun H=>.inr ⟨_,_,_,lk_KINDS,rfl,rfl,(show (3:Nat)≤sizeLine by rw [sizeLine_eq];decide),.cons ⟨_,rfl⟩ (.cons ⟨_,rfl⟩ (.cons ⟨_,rfl⟩  .nil))⟩
  ·exact fun H=>.inr ⟨_,_,_,lk_COMMON_SIGNS,rfl,rfl,(show (3:Nat)≤sizeLine by rw [sizeLine_eq];decide),.cons ⟨_,rfl⟩ (.cons ⟨_,rfl⟩ (.cons ⟨_,rfl⟩  .nil))⟩
 have F_q26:=fun_mk (st:=s_q26) l_q26 c_q26 k_q26
 have B_q26:=F_q26.binds (ps:=["self"]) fun _ _ _ _ _ _ us hl=>match us,hl with | [_],_=>rfl
 have F_q34:=fun_mk (st:=s_q34) l_q34 c_q34 k_q34
 have B_q34:=F_q34.binds (ps:=["self","thing"]) fun _ _ _ _ _ _ us hl=>match us,hl with | [_,_],_=>rfl
 have F_q20:=fun_mk (st:=s_q20) l_q20 c_q20 k_q20
 have B_q20:=F_q20.binds (ps:=["self"]) fun _ _ _ _ _ _ us hl=>match us,hl with | [_],_=>rfl
 have F_q27:=fun_mk (st:=s_q27) l_q27 c_q27 k_q27
 have B_q27:=F_q27.binds (ps:=["self"]) fun _ _ _ _ _ _ us hl=>match us,hl with | [_],_=>rfl
 have F_q28:=fun_mk (st:=s_q28) l_q28 c_q28 k_q28
 have B_q28:=F_q28.binds (ps:=["self"]) fun _ _ _ _ _ _ us hl=>match us,hl with | [_],_=>rfl
 have F_q5:=fun_mk (st:=s_q5) l_q5 c_q5 k_q5
 have B_q5:=F_q5.binds (ps:=["self"]) fun _ _ _ _ _ _ us hl=>match us,hl with | [_],_=>rfl
 have F_q4:=fun_mk (st:=s_q4) l_q4 c_q4 k_q4
 have B_q4:=F_q4.binds (ps:=["self"]) fun _ _ _ _ _ _ us hl=>match us,hl with | [_],_=>rfl
 have F_q1:=fun_mk (st:=s_q1) l_q1 c_q1 k_q1
 have B_q1:=F_q1.binds (ps:=["self","place"]) fun _ _ _ _ _ _ us hl=>match us,hl with | [_,_],_=>rfl
 have F_q29:=fun_mk (st:=s_q29) l_q29 c_q29 k_q29
 have B_q29:=F_q29.binds (ps:=["self","place","other"]) fun _ _ _ _ _ _ us hl=>match us,hl with | [_,_,_],_=>rfl
 have F_q21:=fun_mk (st:=s_q21) l_q21 c_q21 k_q21
 have B_q21:=F_q21.binds (ps:=["floor","carrier"]) fun _ _ _ _ _ _ us hl=>match us,hl with | [_,_],_=>rfl
 have F_q6:=fun_mk (st:=s_q6) l_q6 c_q6 k_q6
 have B_q6:=F_q6.binds (ps:=["floor","carrier"]) fun _ _ _ _ _ _ us hl=>match us,hl with | [_,_],_=>rfl
 have F_q35:=fun_mk (st:=s_q35) l_q35 c_q35 k_q35
 have B_q35:=F_q35.binds (ps:=["floor","carrier","goals"]) fun _ _ _ _ _ _ us hl=>match us,hl with | [_,_,_],_=>rfl
 have F_q36:=fun_mk (st:=s_q36) l_q36 c_q36 k_q36
 have B_q36:=F_q36.binds (ps:=["floor","carrier"]) fun _ _ _ _ _ _ us hl=>match us,hl with | [_,_],_=>rfl
 have F_q37:=fun_mk (st:=s_q37) l_q37 c_q37 k_q37
 have B_q37:=F_q37.binds (ps:=["floor","carrier","cell","goals"]) fun _ _ _ _ _ _ us hl=>match us,hl with | [_,_,_,_],_=>rfl
 have F_q22:=fun_mk (st:=s_q22) l_q22 c_q22 k_q22
 have B_q22:=F_q22.binds (ps:=["floor","carrier","cell","costs"]) fun _ _ _ _ _ _ us hl=>match us,hl with | [_,_,_,_],_=>rfl
 have F_q38:=fun_mk (st:=s_q38) l_q38 c_q38 k_q38
 have B_q38:=F_q38.binds (ps:=["thing"]) fun _ _ _ _ _ _ us hl=>match us,hl with | [_],_=>rfl
 have F_q39:=fun_mk (st:=s_q39) l_q39 c_q39 k_q39
 have B_q39:=F_q39.binds (ps:=["thing","least","most"]) fun _ _ _ _ _ _ us hl=>match us,hl with | [_,_,_],_=>rfl
 have F_q30:=fun_mk (st:=s_q30) l_q30 c_q30 k_q30
 have B_q30:=F_q30.binds (ps:=["line","wide"]) fun _ _ _ _ _ _ us hl=>match us,hl with | [_,_],_=>rfl
 have F_q16:=fun_mk (st:=s_q16) l_q16 c_q16 k_q16
 have B_q16:=F_q16.binds (ps:=["lines"]) fun _ _ _ _ _ _ us hl=>match us,hl with | [_],_=>rfl
 have F_q23:=fun_mk (st:=s_q23) l_q23 c_q23 k_q23
 have B_q23:=F_q23.binds (ps:=["self","lines"]) fun _ _ _ _ _ _ us hl=>match us,hl with | [_,_],_=>rfl
 have F_q31:=fun_mk (st:=s_q31) l_q31 c_q31 k_q31
 have B_q31:=F_q31.binds (ps:=["self","cell"]) fun _ _ _ _ _ _ us hl=>match us,hl with | [_,_],_=>rfl
 have F_q24:=fun_mk (st:=s_q24) l_q24 c_q24 k_q24
 have B_q24:=F_q24.binds (ps:=["self","cell"]) fun _ _ _ _ _ _ us hl=>match us,hl with | [_,_],_=>rfl
 have F_q9:=fun_mk (st:=s_q9) l_q9 c_q9 k_q9
 have B_q9:=F_q9.binds (ps:=["self","cell"]) fun _ _ _ _ _ _ us hl=>match us,hl with | [_,_],_=>rfl
 have F_q32:=fun_mk (st:=s_q32) l_q32 c_q32 k_q32
 have B_q32:=F_q32.binds (ps:=["self","cell"]) fun _ _ _ _ _ _ us hl=>match us,hl with | [_,_],_=>rfl
 have F_q17:=fun_mk (st:=s_q17) l_q17 c_q17 k_q17
 have B_q17:=F_q17.binds (ps:=["self"]) fun _ _ _ _ _ _ us hl=>match us,hl with | [_],_=>rfl
 have F_q7:=fun_mk (st:=s_q7) l_q7 c_q7 k_q7
 have B_q7:=F_q7.binds (ps:=["self"]) fun _ _ _ _ _ _ us hl=>match us,hl with | [_],_=>rfl
 have F_q10:=fun_mk (st:=s_q10) l_q10 c_q10 k_q10
 have B_q10:=F_q10.binds (ps:=["self","cell"]) fun _ _ _ _ _ _ us hl=>match us,hl with | [_,_],_=>rfl
 have F_q11:=fun_mk (st:=s_q11) l_q11 c_q11 k_q11
 have B_q11:=F_q11.binds (ps:=["self","full"]) fun _ _ _ _ _ _ us hl=>match us,hl with | [_,_],_=>rfl
 have F_q12:=fun_mk (st:=s_q12) l_q12 c_q12 k_q12
 have B_q12:=F_q12.binds (ps:=["self"]) fun _ _ _ _ _ _ us hl=>match us,hl with | [_],_=>rfl
 have F_q2:=fun_mk (st:=s_q2) l_q2 c_q2 k_q2
 have B_q2:=F_q2.binds (ps:=["self","sign"]) fun _ _ _ _ _ _ us hl=>match us,hl with | [_,_],_=>rfl
 have F_q13:=fun_mk (st:=s_q13) l_q13 c_q13 k_q13
 have B_q13:=F_q13.binds (ps:=["self","floor","cell","other"]) fun _ _ _ _ _ _ us hl=>match us,hl with | [_,_,_,_],_=>rfl
 have F_q8:=fun_mk (st:=s_q8) l_q8 c_q8 k_q8
 have B_q8:=F_q8.binds (ps:=["self","floor","cell"]) fun _ _ _ _ _ _ us hl=>match us,hl with | [_,_,_],_=>rfl
 have F_q0:=fun_mk (st:=s_q0) l_q0 c_q0 k_q0
 have B_q0:=F_q0.binds (ps:=["self","floor","cell","other"]) fun _ _ _ _ _ _ us hl=>match us,hl with | [_,_,_,_],_=>rfl
 have F_q33:=fun_mk (st:=s_q33) l_q33 c_q33 k_q33
 have B_q33:=F_q33.binds (ps:=["self"]) fun _ _ _ _ _ _ us hl=>match us,hl with | [_],_=>rfl
 have F_q14:=fun_mk (st:=s_q14) l_q14 c_q14 k_q14
 have B_q14:=F_q14.binds (ps:=["self"]) fun _ _ _ _ _ _ us hl=>match us,hl with | [_],_=>rfl
 have F_q3:=fun_mk (st:=s_q3) l_q3 c_q3 k_q3
 have B_q3:=F_q3.binds (ps:=["self","sign"]) fun _ _ _ _ _ _ us hl=>match us,hl with | [_,_],_=>rfl
 have F_q15:=fun_mk (st:=s_q15) l_q15 c_q15 k_q15
 have B_q15:=F_q15.binds (ps:=["self","floor","cell","other"]) fun _ _ _ _ _ _ us hl=>match us,hl with | [_,_,_,_],_=>rfl
 have F_q18:=fun_mk (st:=s_q18) l_q18 c_q18 k_q18
 have B_q18:=F_q18.binds (ps:=["self"]) fun _ _ _ _ _ _ us hl=>match us,hl with | [_],_=>rfl
 have F_q19:=fun_mk (st:=s_q19) l_q19 c_q19 k_q19
 have B_q19:=F_q19.binds (ps:=["self","floor","cell","other"]) fun _ _ _ _ _ _ us hl=>match us,hl with | [_,_,_,_],_=>rfl
 have F_q25:=z803 (st:=s_q25) l_q25 c_q25 k_q25 df_q25
 have B_q25:=F_q25.binds (ps:=["kind","full"]) (ds:=[]) fun _ _ _ _ _ _ _ us hl=>match us,hl with | [_,_],_=>⟨_,rfl,rfl⟩
 have BD_q25:=F_q25.binds (ps:=["kind","full"]) (ds:=[.int 20 td_carrier_of0]) fun _ _ _ _ _ _ _ us hl=>match us,hl with | [],hl=>by simp at hl | [_],_=>⟨_,rfl,rfl⟩ | (_::_::_),hl=>by simp at hl
 have F_Lat:=fun_mk (st:=s_Lat) l_Lat c_Lat k_Lat
 have B_Lat:=F_Lat.binds (ps:=["_law_script","_law_k"]) fun _ _ _ _ _ _ us hl=>match us,hl with | [_,_],_=>rfl
 have F_q44:=fun_mk (st:=s_q44) l_q44 c_q44 k_q44
 have B_q44:=F_q44.binds (ps:=["_law_cell","_law_k"]) fun _ _ _ _ _ _ us hl=>match us,hl with | [_,_],_=>rfl
 have F_q45:=fun_mk (st:=s_q45) l_q45 c_q45 k_q45
 have B_q45:=F_q45.binds (ps:=["_law_thing"]) fun _ _ _ _ _ _ us hl=>match us,hl with | [_],_=>rfl
 have F_q46:=fun_mk (st:=s_q46) l_q46 c_q46 k_q46
 have B_q46:=F_q46.binds (ps:=["_law_script","_law_k","_law_most"]) fun _ _ _ _ _ _ us hl=>match us,hl with | [_,_,_],_=>rfl
 have F_Lsign:=fun_mk (st:=z139) l_Lsign c_Lsign k_Lsign
 have B_Lsign:=F_Lsign.binds (ps:=["_law_lines_here","_law_cell"]) fun _ _ _ _ _ _ us hl=>match us,hl with | [_,_],_=>rfl
 have F_q47:=fun_mk (st:=s_q47) l_q47 c_q47 k_q47
 have B_q47:=F_q47.binds (ps:=["_law_lines_here"]) fun _ _ _ _ _ _ us hl=>match us,hl with | [_],_=>rfl
 have F_q40:=fun_mk (st:=s_q40) l_q40 c_q40 k_q40
 have B_q40:=F_q40.binds (ps:=["_law_lines_here","_law_cell"]) fun _ _ _ _ _ _ us hl=>match us,hl with | [_,_],_=>rfl
 have F_q41:=fun_mk (st:=s_q41) l_q41 c_q41 k_q41
 have B_q41:=F_q41.binds (ps:=["_law_kind","_law_sign_here"]) fun _ _ _ _ _ _ us hl=>match us,hl with | [_,_],_=>rfl
 have F_Lcost:=fun_mk (st:=z68) l_Lcost c_Lcost k_Lcost
 have B_Lcost:=F_Lcost.binds (ps:=["_law_kind","_law_lines_here","_law_cell","_law_other"]) fun _ _ _ _ _ _ us hl=>match us,hl with | [_,_,_,_],_=>rfl
 have F_q48:=fun_mk (st:=s_q48) l_q48 c_q48 k_q48
 have B_q48:=F_q48.binds (ps:=["_law_kind","_law_lines_here","_law_cell"]) fun _ _ _ _ _ _ us hl=>match us,hl with | [_,_,_],_=>rfl
 have F_q42:=fun_mk (st:=s_q42) l_q42 c_q42 k_q42
 have B_q42:=F_q42.binds (ps:=["_law_kind","_law_lines_here","_law_able","_law_goals","_law_left"]) fun _ _ _ _ _ _ us hl=>match us,hl with | [_,_,_,_,_],_=>rfl
 have F_q43:=fun_mk (st:=s_q43) l_q43 c_q43 k_q43
 have B_q43:=F_q43.binds (ps:=["_law_kind","_law_lines_here","_law_left","_law_found","_law_cell"]) fun _ _ _ _ _ _ us hl=>match us,hl with | [_,_,_,_,_],_=>rfl
 have F_Leach:=fun_mk (st:=z12) l_Leach c_Leach k_Leach
 have B_Leach:=F_Leach.binds (ps:=["_law_script","_law_carrier","_law_floor","_law_lines_here","_law_left","_law_goals","_law_able"]) fun _ _ _ _ _ _ us hl=>match us,hl with | [_,_,_,_,_,_,_],_=>rfl
 have F_law:=fun_mk (st:=s_law) l_law c_law k_law
 refine⟨PySem.W.fnOf "law" "law" (defArgs s_law) (defBody s_law) (defScope s_law) .none kV_law dc_law pm_law an_law cd_law ct_law,?bd,fun base _ _=>?fn⟩
 case fn=>
  have G_q38:FnOk l.prog w K mg base CX0 1 f_q38 _ ["thing"] (z367 K):=ok_q38 (ad:=A0) F_q38 T
  have G_q39:FnOk l.prog w K mg base CX0 2 f_q39 _ ["thing","least","most"] (z420 K):=ok_q39 (ad:=A0) F_q39 T B_q38 G_q38
  have G_q30:FnOk l.prog w K mg base CX0 1 f_q30 _ ["line","wide"] (spRow):=ok_q30 (ad:=A0) F_q30 T
  have G_q16:FnOk l.prog w K mg base CX0 3 f_q16 _ ["lines"] (z638):=ok_q16 (ad:=A0) F_q16 T B_q39 G_q39 B_q30 G_q30
  have G_q23:FnOk l.prog w K mg base CX0 4 f_q23 _ ["self","lines"] (spInit C_Floor):=ok_q23 (ad:=A0) F_q23 T B_q16 G_q16
  have G_q31:FnOk l.prog w K mg base CX0 3 f_q31 _ ["self","cell"] (spHas K C_Floor):=ok_q31 (ad:=A0) F_q31 T B_q39 G_q39
  have G_q24:FnOk l.prog w K mg base CX0 1 f_q24 _ ["self","cell"] (spSign C_Floor):=ok_q24 (ad:=A0) F_q24 T
  have G_q9:FnOk l.prog w K mg base CX0 1 f_q9 _ ["self","cell"] (spCol C_Floor):=ok_q9 (ad:=A0) F_q9 T
  have G_q32:FnOk l.prog w K mg base CX0 1 f_q32 _ ["self","cell"] (z613 C_Floor):=ok_q32 (ad:=A0) F_q32 T
  have G_q10:FnOk l.prog w K mg base CX0 4 f_q10 _ ["self","cell"] (z459 C_Floor):=ok_q10 (ad:=A0) F_q10 T B_q9 G_q9 B_q31 G_q31
  have G_q17:FnOk l.prog w K mg base CX0 4 f_q17 _ ["self"] (z504 C_Floor):=ok_q17 (ad:=A0) F_q17 T B_q31 G_q31
  have G_q7:FnOk l.prog w K mg base CX0 1 f_q7 _ ["self"] (z275 C_Floor):=ok_q7 (ad:=A0) F_q7 T
  have G_q11:FnOk l.prog w K mg base CX0 1 f_q11 _ ["self","full"] (z500 A0):=ok_q11 (ad:=A0) F_q11 T
  have G_q12:FnOk l.prog w K mg base CX0 1 f_q12 _ ["self"] (spKind "carrier"):=ok_q12 (ad:=A0) F_q12 T
  have G_q33:FnOk l.prog w K mg base CX0 1 f_q33 _ ["self"] (spKind "cart"):=ok_q33 (ad:=A0) F_q33 T
  have G_q14:FnOk l.prog w K mg base CX0 1 f_q14 _ ["self"] (spKind "crawler"):=ok_q14 (ad:=A0) F_q14 T
  have G_q18:FnOk l.prog w K mg base CX0 1 f_q18 _ ["self"] (spKind "runner"):=ok_q18 (ad:=A0) F_q18 T
  have G_q2:FnOk l.prog w K mg base CX0 1 f_q2 _ ["self","sign"] (spMay 0):=ok_q2 (ad:=A0) F_q2 T
  have G_q3:FnOk l.prog w K mg base CX0 1 f_q3 _ ["self","sign"] (spMay 1):=ok_q3 (ad:=A0) F_q3 T
  have G_q13:FnOk l.prog w K mg base CX0 1 f_q13 _ ["self","floor","cell","other"] (spFare C_Floor 0):=ok_q13 (ad:=A0) F_q13 T
  have G_q15:FnOk l.prog w K mg base CX0 2 f_q15 _ ["self","floor","cell","other"] (spFare C_Floor 1):=ok_q15 (ad:=A0) F_q15 T B_q24 G_q24
  have G_q19:FnOk l.prog w K mg base CX0 2 f_q19 _ ["self","floor","cell","other"] (spFare C_Floor 2):=ok_q19 (ad:=A0) F_q19 T B_q32 G_q32 B_q24 G_q24
  have G_q0:FnOk l.prog w K mg base CX0 3 f_q0 _ ["self","floor","cell","other"] (z388 A0):=ok_q0 (ad:=A0) F_q0 T B_q2 G_q2 B_q3 G_q3 B_q24 G_q24 B_q13 G_q13 B_q15 G_q15 B_q19 G_q19
  have G_q8:FnOk l.prog w K mg base CX0 5 f_q8 _ ["self","floor","cell"] (z361 A0):=ok_q8 (ad:=A0) F_q8 T B_q10 G_q10 B_q0 G_q0
  have G_q25:FnOk l.prog w K mg base CX0 3 f_q25 _ ["kind","full"] (spMake A0):=ok_q25 (ad:=A0) F_q25 T B_q39 G_q39 B_q11 G_q11
  have G_Lat:FnOk l.prog w K mg base CX0 1 f_Lat _ ["_law_script","_law_k"] (spAt K):=ok_Lat (ad:=A0) F_Lat T
  have G_q44:FnOk l.prog w K mg base CX0 1 f_q44 _ ["_law_cell","_law_k"] (z591):=ok_q44 (ad:=A0) F_q44 T
  have G_q45:FnOk l.prog w K mg base CX0 1 f_q45 _ ["_law_thing"] (z367 K):=ok_q45 (ad:=A0) F_q45 T
  have G_q46:FnOk l.prog w K mg base CX0 2 f_q46 _ ["_law_script","_law_k","_law_most"] (z625 K):=ok_q46 (ad:=A0) F_q46 T B_Lat G_Lat B_q44 G_q44
  have G_Lsign:FnOk l.prog w K mg base CX0 1 f_Lsign _ ["_law_lines_here","_law_cell"] (z443):=z772 (ad:=A0) F_Lsign T
  have G_q47:FnOk l.prog w K mg base CX0 2 f_q47 _ ["_law_lines_here"] (z381):=ok_q47 (ad:=A0) F_q47 T B_Lsign G_Lsign
  have G_q40:FnOk l.prog w K mg base CX0 3 f_q40 _ ["_law_lines_here","_law_cell"] (z389):=ok_q40 (ad:=A0) F_q40 T B_q47 G_q47
  have G_q41:FnOk l.prog w K mg base CX0 1 f_q41 _ ["_law_kind","_law_sign_here"] (z393):=ok_q41 (ad:=A0) F_q41 T
  have G_Lcost:FnOk l.prog w K mg base CX0 2 f_Lcost _ ["_law_kind","_law_lines_here","_law_cell","_law_other"] (z673):=z785 (ad:=A0) F_Lcost T B_q41 G_q41 B_Lsign G_Lsign
  have G_q48:FnOk l.prog w K mg base CX0 4 f_q48 _ ["_law_kind","_law_lines_here","_law_cell"] (z377):=ok_q48 (ad:=A0) F_q48 T B_q40 G_q40 B_Lcost G_Lcost
  have G_q26:FnOk l.prog w K mg base CX0 1 f_q26 _ ["self"] (z593 A0):=ok_q26 (ad:=A0) F_q26 T
  have G_q29:FnOk l.prog w K mg base CX0 1 f_q29 _ ["self","place","other"] (spSwap A0):=ok_q29 (ad:=A0) F_q29 T
  have G_q1:FnOk l.prog w K mg base CX0 1 f_q1 _ ["self","place"] (z468 A0):=ok_q1 (ad:=A0) F_q1 T
  have G_q5:FnOk l.prog w K mg base CX0 2 f_q5 _ ["self"] (spLift A0):=ok_q5 (ad:=A0) F_q5 T B_q29 G_q29
  have G_q4:FnOk l.prog w K mg base CX0 2 f_q4 _ ["self"] (spSink A0):=ok_q4 (ad:=A0) F_q4 T B_q29 G_q29 B_q1 G_q1
  have G_q20:FnOk l.prog w K mg base CX0 1 f_q20 _ ["self"] (z602 A0):=ok_q20 (ad:=A0) F_q20 T
  have G_q34:FnOk l.prog w K mg base CX0 3 f_q34 _ ["self","thing"] (spHPut A0):=ok_q34 (ad:=A0) F_q34 T B_q5 G_q5
  have G_q27:FnOk l.prog w K mg base CX0 3 f_q27 _ ["self"] (spTake A0):=ok_q27 (ad:=A0) F_q27 T B_q20 G_q20 B_q4 G_q4
  have G_q28:FnOk l.prog w K mg base CX0 1 f_q28 _ ["self"] (spSize A0):=ok_q28 (ad:=A0) F_q28 T
  have G_q6:FnOk l.prog w K mg base CX0 5 f_q6 _ ["floor","carrier"] (z458 A0):=ok_q6 (ad:=A0) F_q6 T B_q17 G_q17 B_q24 G_q24 B_q2 G_q2 B_q3 G_q3
  have G_q21:FnOk l.prog w K mg base CX0 6 f_q21 _ ["floor","carrier"] (spInto A0):=ok_q21 (ad:=A0) F_q21 T B_q17 G_q17 B_q6 G_q6 B_q8 G_q8
  have G_q35:FnOk l.prog w K mg base CX0 7 f_q35 _ ["floor","carrier","goals"] (z415 A0):=ok_q35 (ad:=A0) F_q35 T B_q21 G_q21 B_q26 G_q26 B_q34 G_q34 B_q28 G_q28 B_q27 G_q27
  have G_q36:FnOk l.prog w K mg base CX0 8 f_q36 _ ["floor","carrier"] (z650 A0):=ok_q36 (ad:=A0) F_q36 T B_q7 G_q7 B_q24 G_q24 B_q2 G_q2 B_q3 G_q3 B_q35 G_q35
  have G_q22:FnOk l.prog w K mg base CX0 6 f_q22 _ ["floor","carrier","cell","costs"] (spNext A0):=ok_q22 (ad:=A0) F_q22 T B_q8 G_q8
  have G_q37:FnOk l.prog w K mg base CX0 8 f_q37 _ ["floor","carrier","cell","goals"] (z590 A0):=ok_q37 (ad:=A0) F_q37 T B_q35 G_q35 B_q22 G_q22
  have G_q42:FnOk l.prog w K mg base CX0 5 f_q42 _ ["_law_kind","_law_lines_here","_law_able","_law_goals","_law_left"] (z471):=ok_q42 (ad:=A0) F_q42 T B_q48 G_q48
  have G_q43:FnOk l.prog w K mg base CX0 5 f_q43 _ ["_law_kind","_law_lines_here","_law_left","_law_found","_law_cell"] (z476):=ok_q43 (ad:=A0) F_q43 T B_q45 G_q45 B_q48 G_q48
  have G_Leach:FnOk l.prog w K mg base CX0 9 f_Leach _ ["_law_script","_law_carrier","_law_floor","_law_lines_here","_law_left","_law_goals","_law_able"] (spEach A0 K):=z763 (ad:=A0) F_Leach T B_Lat G_Lat B_q37 G_q37 B_q43 G_q43 B_q12 G_q12 B_q33 G_q33 B_q14 G_q14 B_q18 G_q18
  exact ok_law F_law T B_q46 G_q46 B_Lat G_Lat B_q23 G_q23 B_q25 BD_q25 G_q25 B_q47 G_q47 B_q41 G_q41 B_Lsign G_Lsign B_q42 G_q42 B_Leach G_Leach B_q36 G_q36 B_q35 G_q35
 case bd=>exact fun s v=>.of_eq rfl
theorem walk {l:PySem.W.OpenLaw}{q:Program}{loose:List Str}{XP:(Str→Option Value)→Heap→Prop}{YP:World→Heap→Prop}{d:DefRec}{K:Params→PySem.W.Frag}(hn:l.most=some 63) (hdf:d.params.defaults=[])
  (hY:∀ (w:World) (h:Heap),YP w h→(K w.params).In h)
  (F:∀ (w:World) (mg:Str→Option Value) (fa:Addr) (h:Heap),(K w.params).In h→h.Ns mainGlobals mg→mg d.name=some (.ref fa)→
   ∃ fd:FuncData,(∀ (s:Shared) (u:Value),BindsTo s fd ⟨[u],[]⟩ [("_law_script",u)])∧∀ base:Heap,(K w.params).In base→base.Ns mainGlobals mg→FnOk l.prog w (K w.params) mg base CX0 10 fa fd ["_law_script"] (spLaw (K w.params))):
  PySem.W.WalkO q loose XP YP l.row.toRowW d [] (fun f vs=>PySem.call f vs):=
 L2.walk_of (n:=63) (k:=10) (x:="_law_script") (CX:=fun _=>CX0) (sp:=fun w=>spLaw (K w.params)) hn (by decide) hdf ⟨rfl,by decide,by decide⟩ hY F (fun _ _ a ns hl _ hS=>⟨a,ns,rfl,hS,hl,fun _=>rfl⟩) fun _ _ _ _ _ z=>z
end Pf
open PySem PySem.W PyProof.Rows
set_option maxRecDepth 100000 in
set_option maxHeartbeats 0 in
theorem PySem.Challenge.cw_floorways_k09_whole_needs_walked_holds : PySem.Challenge.rw_floorways_k09_whole_needs_walked.Holds := by
 w_on;o_law;k_head;(case hw=>w_witness2)
 k_fill
 refine Pf.walk (l:=PySem.Challenge.rw_floorways_k09_whole_needs_walked) rfl rfl (fun w h Y=>PySem.W.kIn_of Y) ?F
 case F=>
  intro w mg fa h KX G hmg
  refine' Pf.all_mk KX G hmg ?aC_Floor ?pg_Floor ?hd_Floor ?po_Floor ?sa_Floor ?kc_Floor ?mk_Floor ?n_Floor_wide ?n_Floor_high ?n_Floor_lines ?n_Floor_signs ?aC_Cart ?pg_Cart ?hd_Cart ?po_Cart ?sa_Cart ?kc_Cart ?mk_Cart ?n_Cart_full ?aC_Crawler ?pg_Crawler ?hd_Crawler ?po_Crawler ?sa_Crawler ?kc_Crawler ?mk_Crawler ?n_Crawler_full ?aC_Runner ?pg_Runner ?hd_Runner ?po_Runner ?sa_Runner ?kc_Runner ?mk_Runner ?n_Runner_full ?aC_Carrier ?pg_Carrier ?hd_Carrier ?po_Carrier ?sa_Carrier ?kc_Carrier ?mk_Carrier ?n_Carrier_full ?aC_Heap ?pg_Heap ?hd_Heap ?po_Heap ?sa_Heap ?kc_Heap ?mk_Heap ?n_Heap_things ?x_KINDS ?lk_KINDS ?x_COMMON_SIGNS ?lk_COMMON_SIGNS ?cgx ?ctx ?ca_Cart ?cm_Cart ?is_Cart_Carrier ?is_Cart_Cart ?is_Cart_Crawler ?is_Cart_Runner ?ca_Crawler ?cm_Crawler ?is_Crawler_Carrier ?is_Crawler_Cart ?is_Crawler_Crawler ?is_Crawler_Runner ?ca_Runner ?cm_Runner ?is_Runner_Carrier ?is_Runner_Cart ?is_Runner_Crawler ?is_Runner_Runner ?ca_Carrier ?cm_Carrier ?is_Carrier_Carrier ?is_Carrier_Cart ?is_Carrier_Crawler ?is_Carrier_Runner ?a_q26 ?i_q26 ?l_q26 ?c_q26 ?k_q26 ?a_q34 ?i_q34 ?l_q34 ?c_q34 ?k_q34 ?a_q20 ?i_q20 ?l_q20 ?c_q20 ?k_q20 ?a_q27 ?i_q27 ?l_q27 ?c_q27 ?k_q27 ?a_q28 ?i_q28 ?l_q28 ?c_q28 ?k_q28 ?a_q5 ?i_q5 ?l_q5 ?c_q5 ?k_q5 ?a_q4 ?i_q4 ?l_q4 ?c_q4 ?k_q4 ?a_q1 ?i_q1 ?l_q1 ?c_q1 ?k_q1 ?a_q29 ?i_q29 ?l_q29 ?c_q29 ?k_q29 ?a_q21 ?l_q21 ?c_q21 ?k_q21 ?a_q6 ?l_q6 ?c_q6 ?k_q6 ?a_q35 ?l_q35 ?c_q35 ?k_q35 ?a_q36 ?l_q36 ?c_q36 ?k_q36 ?a_q37 ?l_q37 ?c_q37 ?k_q37 ?a_q22 ?l_q22 ?c_q22 ?k_q22 ?a_q38 ?l_q38 ?c_q38 ?k_q38 ?a_q39 ?l_q39 ?c_q39 ?k_q39 ?a_q30 ?l_q30 ?c_q30 ?k_q30 ?a_q16 ?l_q16 ?c_q16 ?k_q16 ?a_q23 ?i_q23 ?l_q23 ?c_q23 ?k_q23 ?a_q31 ?i_q31 ?l_q31 ?c_q31 ?k_q31 ?a_q24 ?i_q24 ?l_q24 ?c_q24 ?k_q24 ?a_q9 ?i_q9 ?l_q9 ?c_q9 ?k_q9 ?a_q32 ?i_q32 ?l_q32 ?c_q32 ?k_q32 ?a_q17 ?i_q17 ?l_q17 ?c_q17 ?k_q17 ?a_q7 ?i_q7 ?l_q7 ?c_q7 ?k_q7 ?a_q10 ?i_q10 ?l_q10 ?c_q10 ?k_q10 ?a_q11 ?i_q11 ?l_q11 ?c_q11 ?k_q11 ?a_q12 ?i_q12 ?l_q12 ?c_q12 ?k_q12 ?a_q2 ?i_q2 ?l_q2 ?c_q2 ?k_q2 ?a_q13 ?i_q13 ?l_q13 ?c_q13 ?k_q13 ?a_q8 ?i_q8 ?l_q8 ?c_q8 ?k_q8 ?a_q0 ?i_q0 ?l_q0 ?c_q0 ?k_q0 ?a_q33 ?i_q33 ?l_q33 ?c_q33 ?k_q33 ?a_q14 ?i_q14 ?l_q14 ?c_q14 ?k_q14 ?a_q3 ?i_q3 ?l_q3 ?c_q3 ?k_q3 ?a_q15 ?i_q15 ?l_q15 ?c_q15 ?k_q15 ?a_q18 ?i_q18 ?l_q18 ?c_q18 ?k_q18 ?a_q19 ?i_q19 ?l_q19 ?c_q19 ?k_q19 ?a_q25 ?l_q25 ?c_q25 ?k_q25 ?df_q25 ?a_Lat ?l_Lat ?c_Lat ?k_Lat ?a_q44 ?l_q44 ?c_q44 ?k_q44 ?a_q45 ?l_q45 ?c_q45 ?k_q45 ?a_q46 ?l_q46 ?c_q46 ?k_q46 ?a_Lsign ?l_Lsign ?c_Lsign ?k_Lsign ?a_q47 ?l_q47 ?c_q47 ?k_q47 ?a_q40 ?l_q40 ?c_q40 ?k_q40 ?a_q41 ?l_q41 ?c_q41 ?k_q41 ?a_Lcost ?l_Lcost ?c_Lcost ?k_Lcost ?a_q48 ?l_q48 ?c_q48 ?k_q48 ?a_q42 ?l_q42 ?c_q42 ?k_q42 ?a_q43 ?l_q43 ?c_q43 ?k_q43 ?a_Leach ?l_Leach ?c_Leach ?k_Leach ?a_law ?l_law ?c_law ?k_law ?as_Cart_may_stand ?as_Cart_fare ?as_Cart_steps ?as_Cart_fare_if_standing ?as_Crawler_steps ?as_q15_if_standing ?as_Runner_may_stand ?as_Runner_steps ?as_q19_if_standing ?as_Cart_init ?as_Crawler_init ?as_Runner_init ?z_len ?z_range ?z_isinstance ?z_all ?z_int ?z_bool ?z_str ?z_list ?z_tuple ?z_dict ?z_min ?z_max ?z_set ?z_sorted ?z_zip ?x_WALL ?x_CHARGER ?x_SIGNS ?x_MOST_ROWS ?x_MOST_SIGNS ?x_MOST_FULL ?x_ROUGH ?x_LANE
  (case aC_Floor=>k_is)
  (case pg_Floor=>k_is)
  (case hd_Floor=>k_is)
  (case po_Floor=>k_is)
  (case sa_Floor=>k_is)
  (case kc_Floor=>k_is)
  (case mk_Floor=>k_is)
  (case n_Floor_wide=>k_is)
  (case n_Floor_high=>k_is)
  (case n_Floor_lines=>k_is)
  (case n_Floor_signs=>k_is)
  (case aC_Cart=>k_is)
  (case pg_Cart=>k_is)
  (case hd_Cart=>k_is)
  (case po_Cart=>k_is)
  (case sa_Cart=>k_is)
  (case kc_Cart=>k_is)
  (case mk_Cart=>k_is)
  (case n_Cart_full=>k_is)
  (case aC_Crawler=>k_is)
  (case pg_Crawler=>k_is)
  (case hd_Crawler=>k_is)
  (case po_Crawler=>k_is)
  (case sa_Crawler=>k_is)
  (case kc_Crawler=>k_is)
  (case mk_Crawler=>k_is)
  (case n_Crawler_full=>k_is)
  (case aC_Runner=>k_is)
  (case pg_Runner=>k_is)
  (case hd_Runner=>k_is)
  (case po_Runner=>k_is)
  (case sa_Runner=>k_is)
  (case kc_Runner=>k_is)
  (case mk_Runner=>k_is)
  (case n_Runner_full=>k_is)
  (case aC_Carrier=>k_is)
  (case pg_Carrier=>k_is)
  (case hd_Carrier=>k_is)
  (case po_Carrier=>k_is)
  (case sa_Carrier=>k_is)
  (case kc_Carrier=>k_is)
  (case mk_Carrier=>k_is)
  (case n_Carrier_full=>k_is)
  (case aC_Heap=>k_is)
  (case pg_Heap=>k_is)
  (case hd_Heap=>k_is)
  (case po_Heap=>k_is)
  (case sa_Heap=>k_is)
  (case kc_Heap=>k_is)
  (case mk_Heap=>k_is)
  (case n_Heap_things=>k_is)
  (case x_KINDS=>k_is)
  (case lk_KINDS=>k_is)
  (case x_COMMON_SIGNS=>k_is)
  (case lk_COMMON_SIGNS=>k_is)
  (case cgx=>k_is)
  (case ctx=>k_is)
  (case ca_Cart=>k_is)
  (case cm_Cart=>k_is)
  (case is_Cart_Carrier=>first | k_is | kit_is | kernel_rfl)
  (case is_Cart_Cart=>first | k_is | kit_is | kernel_rfl)
  (case is_Cart_Crawler=>first | k_is | kit_is | kernel_rfl)
  (case is_Cart_Runner=>first | k_is | kit_is | kernel_rfl)
  (case ca_Crawler=>k_is)
  (case cm_Crawler=>k_is)
  (case is_Crawler_Carrier=>first | k_is | kit_is | kernel_rfl)
  (case is_Crawler_Cart=>first | k_is | kit_is | kernel_rfl)
  (case is_Crawler_Crawler=>first | k_is | kit_is | kernel_rfl)
  (case is_Crawler_Runner=>first | k_is | kit_is | kernel_rfl)
  (case ca_Runner=>k_is)
  (case cm_Runner=>k_is)
  (case is_Runner_Carrier=>first | k_is | kit_is | kernel_rfl)
  (case is_Runner_Cart=>first | k_is | kit_is | kernel_rfl)
  (case is_Runner_Crawler=>first | k_is | kit_is | kernel_rfl)
  (case is_Runner_Runner=>first | k_is | kit_is | kernel_rfl)
  (case ca_Carrier=>k_is)
  (case cm_Carrier=>k_is)
  (case is_Carrier_Carrier=>first | k_is | kit_is | kernel_rfl)
  (case is_Carrier_Cart=>first | k_is | kit_is | kernel_rfl)
  (case is_Carrier_Crawler=>first | k_is | kit_is | kernel_rfl)
  (case is_Carrier_Runner=>first | k_is | kit_is | kernel_rfl)
  (case a_q26=>k_is)
  (case i_q26=>k_is)
  (case l_q26=>k_is)
  (case c_q26=>k_is)
  (case k_q26=>k_is)
  (case a_q34=>k_is)
  (case i_q34=>k_is)
  (case l_q34=>k_is)
  (case c_q34=>k_is)
  (case k_q34=>k_is)
  (case a_q20=>k_is)
  (case i_q20=>k_is)
  (case l_q20=>k_is)
  (case c_q20=>k_is)
  (case k_q20=>k_is)
  (case a_q27=>k_is)
  (case i_q27=>k_is)
  (case l_q27=>k_is)
  (case c_q27=>k_is)
  (case k_q27=>k_is)
  (case a_q28=>k_is)
  (case i_q28=>k_is)
  (case l_q28=>k_is)
  (case c_q28=>k_is)
  (case k_q28=>k_is)
  (case a_q5=>k_is)
  (case i_q5=>k_is)
  (case l_q5=>k_is)
  (case c_q5=>k_is)
  (case k_q5=>k_is)
  (case a_q4=>k_is)
  (case i_q4=>k_is)
  (case l_q4=>k_is)
  (case c_q4=>k_is)
  (case k_q4=>k_is)
  (case a_q1=>k_is)
  (case i_q1=>k_is)
  (case l_q1=>k_is)
  (case c_q1=>k_is)
  (case k_q1=>k_is)
  (case a_q29=>k_is)
  (case i_q29=>k_is)
  (case l_q29=>k_is)
  (case c_q29=>k_is)
  (case k_q29=>k_is)
  (case a_q21=>k_is)
  (case l_q21=>k_is)
  (case c_q21=>k_is)
  (case k_q21=>k_is)
  (case a_q6=>k_is)
  (case l_q6=>k_is)
  (case c_q6=>k_is)
  (case k_q6=>k_is)
  (case a_q35=>k_is)
  (case l_q35=>k_is)
  (case c_q35=>k_is)
  (case k_q35=>k_is)
  (case a_q36=>k_is)
  (case l_q36=>k_is)
  (case c_q36=>k_is)
  (case k_q36=>k_is)
  (case a_q37=>k_is)
  (case l_q37=>k_is)
  (case c_q37=>k_is)
  (case k_q37=>k_is)
  (case a_q22=>k_is)
  (case l_q22=>k_is)
  (case c_q22=>k_is)
  (case k_q22=>k_is)
  (case a_q38=>k_is)
  (case l_q38=>k_is)
  (case c_q38=>k_is)
  (case k_q38=>k_is)
  (case a_q39=>k_is)
  (case l_q39=>k_is)
  (case c_q39=>k_is)
  (case k_q39=>k_is)
  (case a_q30=>k_is)
  (case l_q30=>k_is)
  (case c_q30=>k_is)
  (case k_q30=>k_is)
  (case a_q16=>k_is)
  (case l_q16=>k_is)
  (case c_q16=>k_is)
  (case k_q16=>k_is)
  (case a_q23=>k_is)
  (case i_q23=>k_is)
  (case l_q23=>k_is)
  (case c_q23=>k_is)
  (case k_q23=>k_is)
  (case a_q31=>k_is)
  (case i_q31=>k_is)
  (case l_q31=>k_is)
  (case c_q31=>k_is)
  (case k_q31=>k_is)
  (case a_q24=>k_is)
  (case i_q24=>k_is)
  (case l_q24=>k_is)
  (case c_q24=>k_is)
  (case k_q24=>k_is)
  (case a_q9=>k_is)
  (case i_q9=>k_is)
  (case l_q9=>k_is)
  (case c_q9=>k_is)
  (case k_q9=>k_is)
  (case a_q32=>k_is)
  (case i_q32=>k_is)
  (case l_q32=>k_is)
  (case c_q32=>k_is)
  (case k_q32=>k_is)
  (case a_q17=>k_is)
  (case i_q17=>k_is)
  (case l_q17=>k_is)
  (case c_q17=>k_is)
  (case k_q17=>k_is)
  (case a_q7=>k_is)
  (case i_q7=>k_is)
  (case l_q7=>k_is)
  (case c_q7=>k_is)
  (case k_q7=>k_is)
  (case a_q10=>k_is)
  (case i_q10=>k_is)
  (case l_q10=>k_is)
  (case c_q10=>k_is)
  (case k_q10=>k_is)
  (case a_q11=>k_is)
  (case i_q11=>k_is)
  (case l_q11=>k_is)
  (case c_q11=>k_is)
  (case k_q11=>k_is)
  (case a_q12=>k_is)
  (case i_q12=>k_is)
  (case l_q12=>k_is)
  (case c_q12=>k_is)
  (case k_q12=>k_is)
  (case a_q2=>k_is)
  (case i_q2=>k_is)
  (case l_q2=>k_is)
  (case c_q2=>k_is)
  (case k_q2=>k_is)
  (case a_q13=>k_is)
  (case i_q13=>k_is)
  (case l_q13=>k_is)
  (case c_q13=>k_is)
  (case k_q13=>k_is)
  (case a_q8=>k_is)
  (case i_q8=>k_is)
  (case l_q8=>k_is)
  (case c_q8=>k_is)
  (case k_q8=>k_is)
  (case a_q0=>k_is)
  (case i_q0=>k_is)
  (case l_q0=>k_is)
  (case c_q0=>k_is)
  (case k_q0=>k_is)
  (case a_q33=>k_is)
  (case i_q33=>k_is)
  (case l_q33=>k_is)
  (case c_q33=>k_is)
  (case k_q33=>k_is)
  (case a_q14=>k_is)
  (case i_q14=>k_is)
  (case l_q14=>k_is)
  (case c_q14=>k_is)
  (case k_q14=>k_is)
  (case a_q3=>k_is)
  (case i_q3=>k_is)
  (case l_q3=>k_is)
  (case c_q3=>k_is)
  (case k_q3=>k_is)
  (case a_q15=>k_is)
  (case i_q15=>k_is)
  (case l_q15=>k_is)
  (case c_q15=>k_is)
  (case k_q15=>k_is)
  (case a_q18=>k_is)
  (case i_q18=>k_is)
  (case l_q18=>k_is)
  (case c_q18=>k_is)
  (case k_q18=>k_is)
  (case a_q19=>k_is)
  (case i_q19=>k_is)
  (case l_q19=>k_is)
  (case c_q19=>k_is)
  (case k_q19=>k_is)
  (case a_q25=>k_is)
  (case l_q25=>k_is)
  (case c_q25=>k_is)
  (case k_q25=>k_is)
  (case df_q25=>k_is)
  (case a_Lat=>k_is)
  (case l_Lat=>k_is)
  (case c_Lat=>k_is)
  (case k_Lat=>k_is)
  (case a_q44=>k_is)
  (case l_q44=>k_is)
  (case c_q44=>k_is)
  (case k_q44=>k_is)
  (case a_q45=>k_is)
  (case l_q45=>k_is)
  (case c_q45=>k_is)
  (case k_q45=>k_is)
  (case a_q46=>k_is)
  (case l_q46=>k_is)
  (case c_q46=>k_is)
  (case k_q46=>k_is)
  (case a_Lsign=>k_is)
  (case l_Lsign=>k_is)
  (case c_Lsign=>k_is)
  (case k_Lsign=>k_is)
  (case a_q47=>k_is)
  (case l_q47=>k_is)
  (case c_q47=>k_is)
  (case k_q47=>k_is)
  (case a_q40=>k_is)
  (case l_q40=>k_is)
  (case c_q40=>k_is)
  (case k_q40=>k_is)
  (case a_q41=>k_is)
  (case l_q41=>k_is)
  (case c_q41=>k_is)
  (case k_q41=>k_is)
  (case a_Lcost=>k_is)
  (case l_Lcost=>k_is)
  (case c_Lcost=>k_is)
  (case k_Lcost=>k_is)
  (case a_q48=>k_is)
  (case l_q48=>k_is)
  (case c_q48=>k_is)
  (case k_q48=>k_is)
  (case a_q42=>k_is)
  (case l_q42=>k_is)
  (case c_q42=>k_is)
  (case k_q42=>k_is)
  (case a_q43=>k_is)
  (case l_q43=>k_is)
  (case c_q43=>k_is)
  (case k_q43=>k_is)
  (case a_Leach=>k_is)
  (case l_Leach=>k_is)
  (case c_Leach=>k_is)
  (case k_Leach=>k_is)
  (case a_law=>k_is)
  (case l_law=>k_is)
  (case c_law=>k_is)
  (case k_law=>k_is)
  (case as_Cart_may_stand=>k_is)
  (case as_Cart_fare=>k_is)
  (case as_Cart_steps=>k_is)
  (case as_Cart_fare_if_standing=>k_is)
  (case as_Crawler_steps=>k_is)
  (case as_q15_if_standing=>k_is)
  (case as_Runner_may_stand=>k_is)
  (case as_Runner_steps=>k_is)
  (case as_q19_if_standing=>k_is)
  (case as_Cart_init=>k_is)
  (case as_Crawler_init=>k_is)
  (case as_Runner_init=>k_is)
  (case z_len=>k_is)
  (case z_range=>k_is)
  (case z_isinstance=>k_is)
  (case z_all=>k_is)
  (case z_int=>k_is)
  (case z_bool=>k_is)
  (case z_str=>k_is)
  (case z_list=>k_is)
  (case z_tuple=>k_is)
  (case z_dict=>k_is)
  (case z_min=>k_is)
  (case z_max=>k_is)
  (case z_set=>k_is)
  (case z_sorted=>k_is)
  (case z_zip=>k_is)
  (case x_WALL=>k_is)
  (case x_CHARGER=>k_is)
  (case x_SIGNS=>k_is)
  (case x_MOST_ROWS=>k_is)
  (case x_MOST_SIGNS=>k_is)
  (case x_MOST_FULL=>k_is)
  (case x_ROUGH=>k_is)
  (case x_LANE=>k_is)
