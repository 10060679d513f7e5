import PyProof.Rows.All
import PyProof.StrLoop
import PyProof.TupleIter
import PyProof.RangeIter
import Wide.All
import OpenK.AllK
import Wide.FinOn
import Lean
import PyProof.EqAt
import PyProof.EqKinds
import PyProof.TupleCall
import KE.KRevIter
import PyProof.CollectIter
import PyProof.ListRange
import PyProof.StationsW
import KE.KTryMore
import PyProof.RulesAs
import PyProof.Rows.TupDisplay
import KE.KEqDict
import PyProof.SeqI3
import KE.KDictOf
import PyProof.AttrMissHeap
import PyProof.AttrMissSeq
import PyProof.CollectWalk
import PyProof.ListStr
import KE.KDictList
import PyProof.Rows.SortShell
import PyProof.Rows.SortWalk
import PyProof.NeKinds
import KE.KSortTup
import PyProof.ZipIter
import PyProof.Rows.ZipGen
import PyProof.ExcClass2
import PyProof.ExcInit
import PyProof.Draws
import PyProof.EnumMake
import PyProof.DictValues
import PyProof.DictWalks
import PyProof.Rows.CallKwBuiltin
import PyProof.DictUpdate
import PySem.Challenge.RW_floorways_k18_whole_layers
def PySem.W.Fast.tw10862271516153149420:Unit:=()
def PySem.W.Fast.tw12659140304095528834:Unit:=()
def PySem.W.Fast.tw16165324799847072567:Unit:=()
def PySem.W.Fast.tw2925809607787696252:Unit:=()
def PySem.W.Fast.tw15064384883734932415:Unit:=()
def PySem.W.Fast.tw12592469499886271142:Unit:=()
def PySem.W.Fast.tw15483927995605508270:Unit:=()
def PySem.W.Fast.tw11465532386120183805:Unit:=()
def PySem.W.Fast.tw3748196620514732783:Unit:=()
def PySem.W.Fast.tw6032460920122453193:Unit:=()
def PySem.W.Fast.tw7368243523637968857:Unit:=()
def PySem.W.Fast.tw4221065800393630798:Unit:=()
def PySem.W.Fast.tw1244392142256805759:Unit:=()
def PySem.W.Fast.tw13085352103090441565:Unit:=()
def PySem.W.Fast.tw16364995893341115921:Unit:=()
def PySem.W.Fast.tw15161608235985364430:Unit:=()
def PySem.W.Fast.tw15510911942996481137:Unit:=()
def PySem.W.Fast.tw14617874658606776654:Unit:=()
def PySem.W.Fast.tw43117541084580929:Unit:=()
def PySem.W.Fast.tw12100542974009334927:Unit:=()
def PySem.W.Fast.tw15393777020235402364:Unit:=()
def PySem.W.Fast.tw16165370256796353590:Unit:=()
def PySem.W.Fast.tw14805173945318285054:Unit:=()
def PySem.W.Fast.tw9734639090488296478:Unit:=()
def PySem.W.Fast.tw6818551291605511371:Unit:=()
def PySem.W.Fast.tw6458140635580830754:Unit:=()
def PySem.W.Fast.tw8376015599327875792:Unit:=()
def PySem.W.Fast.tw2069919953066764425:Unit:=()
def PySem.W.Fast.tw9007347156719405145:Unit:=()
def PySem.W.Fast.tw12128460615731944911:Unit:=()
def PySem.W.Fast.tw3410967102814314931:Unit:=()
def PySem.W.Fast.tw3912021856470782223:Unit:=()
def PySem.W.Fast.tw13100071029435248475:Unit:=()
def PySem.W.Fast.tw14252914087015978853:Unit:=()
def PySem.W.Fast.tw2008651954789705165:Unit:=()
def PySem.W.Fast.tw8889524541926246997:Unit:=()
def PySem.W.Fast.tw747995434655098343:Unit:=()
def PySem.W.Fast.tw13107452084009811061:Unit:=()
def PySem.W.Fast.tw13943016689862463767:Unit:=()
def PySem.W.Fast.tw12819127220455614151:Unit:=()
def PySem.W.Fast.tw12217605337529127160:Unit:=()
def PySem.W.Fast.tw10691015790138880982:Unit:=()
def PySem.W.Fast.tw13257322395065497070:Unit:=()
def PySem.W.Fast.tw16119812936153420755:Unit:=()
def PySem.W.Fast.tw5316810537210008363:Unit:=()
def PySem.W.Fast.tw8583083672344029194:Unit:=()
def PySem.W.Fast.tw1807765420723392121:Unit:=()
def PySem.W.Fast.tw8574270030939597468:Unit:=()
def PySem.W.Fast.tw3667392591768091840:Unit:=()
def PySem.W.Fast.tw3871359541303199992:Unit:=()
def PySem.W.Fast.tw7373117307317978077:Unit:=()
def PySem.W.Fast.tw4637562911625700601:Unit:=()
def PySem.W.Fast.tw2527040546330690018:Unit:=()
def PySem.W.Fast.tw17501675068554892065:Unit:=()
def PySem.W.Fast.tw2669287167790307740:Unit:=()
def PySem.W.Fast.tw2653326350776483014:Unit:=()
def PySem.W.Fast.tw10257581505589941416:Unit:=()
def PySem.W.Fast.tw10482142093759242762:Unit:=()
def PySem.W.Fast.tw369717861072118549:Unit:=()
def PySem.W.Fast.tw10678809393712106795:Unit:=()
def PySem.W.Fast.tw9763112210968912266:Unit:=()
def PySem.W.Fast.tw5669332083153292130:Unit:=()
def PySem.W.Fast.tw16813091396355857586:Unit:=()
def PySem.W.Fast.tw10105912910036356416:Unit:=()
def PySem.W.Fast.tw716078345554628774:Unit:=()
def PySem.W.Fast.tw12085844876210522429:Unit:=()
def PySem.W.Fast.tw12118839044798477872:Unit:=()
def PySem.W.Fast.tw6278770426087801098:Unit:=()
def PySem.W.Fast.tw7947559243682436962:Unit:=()
def PySem.W.Fast.tw17649572564721134442:Unit:=()
def PySem.W.Fast.tw8891178284616282465:Unit:=()
def PySem.W.Fast.tw1352735792273790215:Unit:=()
def PySem.W.Fast.tw12557258615306082125:Unit:=()
def PySem.W.Fast.tw147487063010058434:Unit:=()
def PySem.W.Fast.tw6738571443963718839:Unit:=()
def PySem.W.Fast.tw12448238736073773493:Unit:=()
def PySem.W.Fast.tw13810964490480437843:Unit:=()
def PySem.W.Fast.tw2015670745281362387:Unit:=()
def PySem.W.Fast.tw17393124118746114235:Unit:=()
def PySem.W.Fast.tw3253614981856366333:Unit:=()
def PySem.W.Fast.tw5035454270321131047:Unit:=()
def PySem.W.Fast.tw10865110479871938582:Unit:=()
def PySem.W.Fast.tw16749556175674457056:Unit:=()
def PySem.W.Fast.tw4665686669182529748:Unit:=()
def PySem.W.Fast.tw11892332038616830322:Unit:=()
def PySem.W.Fast.tw5064247137485290948:Unit:=()
def PySem.W.Fast.tw7010436185941860828:Unit:=()
def PySem.W.Fast.tw2029807197198497723:Unit:=()
def PySem.W.Fast.tw13706011978499240687:Unit:=()
def PySem.W.Fast.tw12458674431522426669:Unit:=()
def PySem.W.Fast.tw18130890974554489285:Unit:=()
def PySem.W.Fast.tw7003233534454481022:Unit:=()
def PySem.W.Fast.tw14861524426287492379:Unit:=()
def PySem.W.Fast.tw12182228678500293514:Unit:=()
def PySem.W.Fast.tw991146906585137569:Unit:=()
def PySem.W.Fast.tw8377408078551779464:Unit:=()
def PySem.W.Fast.tw13674139670545705669:Unit:=()
def PySem.W.Fast.tw13594413358819619636:Unit:=()
def PySem.W.Fast.tw11049683673347212282:Unit:=()
def PySem.W.Fast.tw7660026713735053506:Unit:=()
def PySem.W.Fast.tw14235912541261766440:Unit:=()
def PySem.W.Fast.tw1151353817584289757:Unit:=()
def PySem.W.Fast.tw8528343239377505001:Unit:=()
def PySem.W.Fast.tw9412501840964641069:Unit:=()
def PySem.W.Fast.tw17022946001354825344:Unit:=()
def PySem.W.Fast.tw10038639333323334089:Unit:=()
def PySem.W.Fast.tw11958242146657812114:Unit:=()
def PySem.W.Fast.tw2012889817230061578:Unit:=()
def PySem.W.Fast.tw7768703172683517505:Unit:=()
def PySem.W.Fast.tw2779567846580253220:Unit:=()
def PySem.W.Fast.tw555759487954608864:Unit:=()
def PySem.W.Fast.tw12552891894055883361:Unit:=()
def PySem.W.Fast.tw988692571715413769:Unit:=()
def PySem.W.Fast.tw13519435085695015440:Unit:=()
def PySem.W.Fast.tw3025743615168523387:Unit:=()
def PySem.W.Fast.tw6197999467423742894:Unit:=()
def PySem.W.Fast.tw16127060481102244360:Unit:=()
def PySem.W.Fast.tw10844927275619641167:Unit:=()
def PySem.W.Fast.tw6395529527705358774:Unit:=()
def PySem.W.Fast.tw17694845572800342854:Unit:=()
def PySem.W.Fast.tw18279691719965667389:Unit:=()
def PySem.W.Fast.tw10805723420315401430:Unit:=()
def PySem.W.Fast.tw1720862052978575269:Unit:=()
def PySem.W.Fast.tw9450154611733524998:Unit:=()
def PySem.W.Fast.tw17313866600028687783:Unit:=()
def PySem.W.Fast.tw10293295194139027844:Unit:=()
def PySem.W.Fast.tw14932867545401936479:Unit:=()
def PySem.W.Fast.tw3450367282294413162:Unit:=()
def PySem.W.Fast.tw13187483742916517576:Unit:=()
def PySem.W.Fast.tw3640564814434757719:Unit:=()
def PySem.W.Fast.tw11596035822422542822:Unit:=()
def PySem.W.Fast.tw15252646263536346206:Unit:=()
def PySem.W.Fast.tw3046903868148705045:Unit:=()
def PySem.W.Fast.tw5311515979537318752:Unit:=()
def PySem.W.Fast.tw14839137883120070790:Unit:=()
def PySem.W.Fast.tw13601431122695204936:Unit:=()
def PySem.W.Fast.tw3709562434166703298:Unit:=()
def PySem.W.Fast.tw11294708817129098651:Unit:=()
def PySem.W.Fast.tw4139591041352542611:Unit:=()
def PySem.W.Fast.tw1700309711539503450:Unit:=()
def PySem.W.Fast.tw6621164987595641217:Unit:=()
def PySem.W.Fast.tw7600997194871525989:Unit:=()
def PySem.W.Fast.tw18003400789110985291:Unit:=()
def PySem.W.Fast.tw4852505370694082519:Unit:=()
def PySem.W.Fast.tw10506157488808538017:Unit:=()
def PySem.W.Fast.tw17108854301304188602:Unit:=()
def PySem.W.Fast.tw13525069706691334337:Unit:=()
def PySem.W.Fast.tw11528395662976268491:Unit:=()
def PySem.W.Fast.tw4519562987694618710:Unit:=()
def PySem.W.Fast.tw8527015842535649057:Unit:=()
def PySem.W.Fast.tw8731848870658321601:Unit:=()
def PySem.W.Fast.tw1264779496351971672:Unit:=()
def PySem.W.Fast.tw3062774017024918022:Unit:=()
def PySem.W.Fast.tw10286613576669652131:Unit:=()
def PySem.W.Fast.tw795209115634824916:Unit:=()
def PySem.W.Fast.tw15738016029144359794:Unit:=()
def PySem.W.Fast.tw14717146148443635936:Unit:=()
def PySem.W.Fast.tw8420017093040920997:Unit:=()
def PySem.W.Fast.tw15132371844251655104:Unit:=()
def PySem.W.Fast.tw8461042308414401650:Unit:=()
def PySem.W.Fast.tw8386638255469548959:Unit:=()
def PySem.W.Fast.tw4555127412965117374:Unit:=()
def PySem.W.Fast.tw12243085470984504566:Unit:=()
def PySem.W.Fast.tw944146919375464953:Unit:=()
def PySem.W.Fast.tw9715164577135681053:Unit:=()
def PySem.W.Fast.tw12813988628915166293:Unit:=()
def PySem.W.Fast.tw7229817303914202673:Unit:=()
def PySem.W.Fast.tw6114523961202450490:Unit:=()
def PySem.W.Fast.tw3604530553561460683:Unit:=()
def PySem.W.Fast.tw13711567456255106541:Unit:=()
def PySem.W.Fast.tw10459143522745060964:Unit:=()
def PySem.W.Fast.tw4897087813678377953:Unit:=()
def PySem.W.Fast.tw12819816644448355323:Unit:=()
def PySem.W.Fast.tw14238401979932814996:Unit:=()
def PySem.W.Fast.tw9663174859200153638:Unit:=()
def PySem.W.Fast.tw10574677344963727813:Unit:=()
def PySem.W.Fast.tw17094570597058447544:Unit:=()
def PySem.W.Fast.tw17960643419960758935:Unit:=()
def PySem.W.Fast.tw4697846607859392257:Unit:=()
def PySem.W.Fast.tw7500312064971947164:Unit:=()
def PySem.W.Fast.tw5253972483399256630:Unit:=()
def PySem.W.Fast.tw14080935468499617032:Unit:=()
def PySem.W.Fast.tw4654108726573109029:Unit:=()
def PySem.W.Fast.tw5233674795052116691:Unit:=()
def PySem.W.Fast.tw10258931046133112793:Unit:=()
def PySem.W.Fast.tw235365337950075884:Unit:=()
def PySem.W.Fast.tw17986620031004188671:Unit:=()
def PySem.W.Fast.tw8601321512422559281:Unit:=()
def PySem.W.Fast.tw11554918248382611467:Unit:=()
def PySem.W.Fast.tw11932515671726444571:Unit:=()
def PySem.W.Fast.tw5287080473834253943:Unit:=()
def PySem.W.Fast.tw781475844341342591:Unit:=()
def PySem.W.Fast.tw13895061051049851506:Unit:=()
def PySem.W.Fast.tw5292465118980227443:Unit:=()
def PySem.W.Fast.tw11858377460892955637:Unit:=()
def PySem.W.Fast.tw12173688714901638118:Unit:=()
def PySem.W.Fast.tw14418108144596556944:Unit:=()
def PySem.W.Fast.tw12612178555337449778:Unit:=()
def PySem.W.Fast.tw9584762081266003245:Unit:=()
def PySem.W.Fast.tw13494730524874377387:Unit:=()
def PySem.W.Fast.tw1981118943539695355:Unit:=()
def PySem.W.Fast.tw17170631641680397864:Unit:=()
def PySem.W.Fast.tw8940452940099005005:Unit:=()
def PySem.W.Fast.tw7042794870503841168:Unit:=()
def PySem.W.Fast.tw18250799034995047388:Unit:=()
def PySem.W.Fast.tw15101968022766576053:Unit:=()
def PySem.W.Fast.tw16379683135711275331:Unit:=()
def PySem.W.Fast.tw11956632838270738839:Unit:=()
def PySem.W.Fast.tw8733497467223567831:Unit:=()
def PySem.W.Fast.tw3424932970498469105:Unit:=()
set_option Elab.async false
set_option linter.all false
set_option maxRecDepth 100000
namespace L2
open PySem PyProof.Rows PySem.Calls
def Hd (A:Around) (h:Heap):Prop:=
 A.handled=none∨∃ (ea C:Addr) (dx:Option Addr) (vs:Array Value) (sl:Array (Option Value)),A.handled=some (.ref ea)∧h.get? ea=some ⟨.ref C,dx,.fields vs,sl⟩∧vs[2]?=some Value.none
theorem Hd.keeps {A:Around}{h h':Heap}(d:Hd A h) (k:∀ b o,h.get? b=some o→h'.get? b=some o):Hd A h':=by
 rcases d with d | ⟨ea,C,dx,vs,sl,d1,d2,d3⟩
 ·exact .inl d
 ·exact .inr ⟨ea,C,dx,vs,sl,d1,k _ _ d2,d3⟩
theorem Hd.update {A:Around}{h:Heap}(d:Hd A h){it:Addr}{o:Obj}{n:String}(ho:h.get? it=some o) (hc:o.cls=.type n) (f:Obj→Obj):Hd A (h.update it f):=by
 rcases d with d | ⟨ea,C,dx,vs,sl,d1,d2,d3⟩
 ·exact .inl d
 ·refine .inr ⟨ea,C,dx,vs,sl,d1,?_,d3⟩
  rw [Heap.get?_update_other h f (fun z=>?_)]
  ·exact d2
  ·subst z
   rw [ho] at d2
   cases d2
   cases hc
section
variable {prog:Program}{w:World}{A:Around}{E:Value→Shared→Prop}{s:Shared}
theorem z271:entryFor table "proto.unchain"=some Builtin.«proto.unchain»:=entryFor_of_tree (by kernel_rfl)
theorem z529 {α:Type}{Q:α→Shared→Prop}{e:Addr}{c:Value}{d:Option Addr}{ws:Array Value}{sl:Array (Option Value)} (hd:Hd A s.heap) (hn:∀ ea,A.handled=some (.ref ea)→ea≠e) (he:s.heap.get? e=some ⟨c,d,.fields ws,sl⟩) (hz:2 < ws.size)
  (k:∀ h',(∀ b o,b≠e→s.heap.get? b=some o→h'.get? b=some o)→(∃ o,h'.get? e=some o∧o.cls=c)→E (.ref e) { s with heap:=h' }):wpAny (model prog w) A (raiseNew (.ref e):Sem α) Q E s:=by
 rcases hd with hd | ⟨ea,C,dx,vs,sl2,d1,d2,d3⟩
 ·unfold raiseNew
  refine wpAny_bind (wpAny_handled ?_)
  rw [hd]
  exact wpAny_bind (wpAny_pure (wpAny_throw (k _ (fun _ _ _ z=>z) ⟨_,he,rfl⟩)))
 ·have ne:=hn ea d1
  unfold raiseNew
  refine wpAny_bind (wpAny_handled ?_)
  rw [d1]
  have hb:(Value.ref ea != Value.ref e)=true:=by simp [ne]
  dsimp only
  rw [if_pos hb]
  refine wpAny_bind (wpAny_holding (wpAny_runValue (codeAny_builtin z271 ?_)))
  show wpAny _ _ (field (.ref ea) 2 >>= _) _ _ s
  refine wpAny_bind (wpAny_field d2 rfl d3 ?_)
  rw [if_pos (by decide)]
  refine wpAny_bind (wpAny_pure (wpAny_pure ?_))
  unfold updateField
  refine wpAny_bind (wpAny_bind (wpAny_load he ?_))
  show wpAny _ _ (if 2 < ws.size then _ else _) _ _ s
  rw [if_pos hz]
  refine wpAny_update he (wpAny_throw (k _ (fun b o hb z=>?_) ⟨_,Heap.get?_update_self _ he rfl,rfl⟩))
  rw [Heap.get?_update_other _ _ (Ne.symm hb)]
  exact z
theorem z124 {α:Type}{Q:α→Shared→Prop}(hd:Hd A s.heap) (k:∀ h' e,(∀ b o,s.heap.get? b=some o→h'.get? b=some o)→(∃ o,h'.get? e=some o∧o.cls=.type "StopIteration")→E (.ref e) { s with heap:=h' }):
  wpAny (model prog w) A (newExc (.type "StopIteration") [] >>= fun e=>(raiseNew e:Sem α)) Q E s:=by
 refine wpAny_bind ?_
 simp only [newExc,newTuple]
 refine wpAny_bind (wpAny_newObj_type ?_ (by size_fits))
 refine wpAny_bind (m:=firstArgMember _ _) (wpAny_of_eq (a:=Value.none) (by first | rfl | (simp only [firstArgMember];rfl)) ?_)
 refine wpAny_newObj_type ?_ (by size_fits)
 have up:∀ b o,s.heap.get? b=some o→((s.heap.push { cls:=.type "tuple",data:=.seq #[] }).push { cls:=.type "StopIteration",data:=.fields (#[Value.ref s.heap.objs.size,.none,.none,.none,.bool false,.none]++ownMembersOf (.type "StopIteration") []) }).get? b=some o:=
  fun b o z=>Heap.get?_push_of_some _ (Heap.get?_push_of_some _ z)
 have lt:∀ b o,s.heap.get? b=some o→b≠(s.heap.push { cls:=.type "tuple",data:=.seq #[] }).objs.size:=fun b o z=>Nat.ne_of_lt (Heap.lt_size (Heap.get?_push_of_some _ z))
 refine z529 (hd.keeps up) (fun ea z=>?_) (Heap.get?_push_size _ rfl) (by rw [Array.size_append];exact Nat.lt_of_lt_of_le (show 2 < 6 by decide) (Nat.le_add_right 6 _)) fun h' k1 k2=>k h' _ (fun b o z=>k1 b o (lt b o z) (up b o z)) k2
 rcases hd with hd | ⟨eb,C,dx,vs,sl,d1,d2,d3⟩
 ·rw [hd] at z
  cases z
 ·rw [d1] at z
  cases z
  exact lt _ _ d2
theorem z128 {Q:Option Value→Shared→Prop}{e:Addr}(he:∃ o,s.heap.get? e=some o∧o.cls=.type "StopIteration") (h:Q none s):
  wpAny (model prog w) A (do if ← isInstance (.ref e) (.type "StopIteration") then pure none else throw (.ref e)) Q E s:=
 wpAny_bind (wpAny_isInstance (T:="StopIteration") (b:=true) he isSubtype_stop (wpAny_pure h))
theorem z587 {it l:Addr}{i:Nat}{items:Array Value}{Q:Option Value→Shared→Prop}(hh:Hd A s.heap) (hit:s.heap.IsListIter it l i) (hl:s.heap.IsList l items) (hx:items[i]?=none)
  (hQ:∀ h',Heap.ExtBut it s.heap h'→Q none { s with heap:=h' }):wpAny (model prog w) A (pyNext (.ref it)) Q E s:=by
 obtain⟨o,ho,hc,hd⟩:=id hit
 obtain⟨_,hol,_,_,hdl⟩:=hl
 unfold pyNext
 refine wpAny_bind (wpAny_attempt (wpAny_callSpecial?_slot (name:=Str.ofString "__next__") hit.typeIs slot_listiter_next (wpAny_call_entry slot_listiter_next hit.typeIs entry_listiter_next ?_ (args_listiter_next _))))
 show wpAny _ _ (field (.ref it) 0 >>= _) _ _ s
 refine wpAny_bind (wpAny_field ho hd (x:=.ref l) rfl ?_)
 rw [if_neg (fun z:(Value.ref l == Value.none)=true=>nomatch z)]
 show wpAny _ _ (field (.ref it) 1 >>= _) _ _ s
 refine wpAny_bind (wpAny_field ho hd (x:=.int i 0) rfl ?_)
 show wpAny _ _ (seqItems? (.ref l) >>= _) _ _ s
 refine wpAny_bind (wpAny_seqItems hol hdl ?_)
 simp only [Int.toNat_natCast,hx]
 refine wpAny_bind (wpAny_rule (wpAny_bind (wpAny_setField ho hd (by simp) ?_)))
 refine z124 (hh.update (A:=A) ho hc _) fun h' e k1 k2=>z128 k2 (hQ h' fun b o hb z=>k1 b o ?_)
 rw [Heap.get?_update_other _ _ (Ne.symm hb)]
 exact z
theorem z520 {it t:Addr}{i:Nat}{items:Array Value}{Q:Option Value→Shared→Prop}(hh:Hd A s.heap) (hit:s.heap.IsTupleIter it t i) (ht:s.heap.IsTuple t items) (hx:items[i]?=none)
  (hQ:∀ h',Heap.ExtBut it s.heap h'→Q none { s with heap:=h' }):wpAny (model prog w) A (pyNext (.ref it)) Q E s:=by
 obtain⟨o,ho,hc,hd⟩:=id hit
 obtain⟨_,hol,_,_,hdl⟩:=ht
 unfold pyNext
 refine wpAny_bind (wpAny_attempt (wpAny_callSpecial?_slot (name:=Str.ofString "__next__") hit.typeIs F.slot_tuple_iterator_next (wpAny_call_entry F.slot_tuple_iterator_next hit.typeIs F.entry_tuple_iterator_next ?_ (F.args_tuple_iterator_next_1 _))))
 show wpAny _ _ (field (.ref it) 0 >>= _) _ _ s
 refine wpAny_bind (wpAny_field ho hd (x:=.ref t) rfl ?_)
 rw [if_neg (fun z:(Value.ref t == Value.none)=true=>nomatch z)]
 show wpAny _ _ (field (.ref it) 1 >>= _) _ _ s
 refine wpAny_bind (wpAny_field ho hd (x:=.int i 0) rfl ?_)
 show wpAny _ _ (seqItems? (.ref t) >>= _) _ _ s
 refine wpAny_bind (wpAny_seqItems hol hdl ?_)
 simp only [Int.toNat_natCast,hx]
 refine wpAny_bind (wpAny_rule (wpAny_bind (wpAny_setField ho hd (by simp) ?_)))
 refine z124 (hh.update (A:=A) ho hc _) fun h' e k1 k2=>z128 k2 (hQ h' fun b o hb z=>k1 b o ?_)
 rw [Heap.get?_update_other _ _ (Ne.symm hb)]
 exact z
theorem z533 {it:Addr}{x left step:Int}{Q:Option Value→Shared→Prop}(hh:Hd A s.heap) (hit:IsRangeIter s.heap it x left step) (hleft:left≤0)
  (hQ:∀ h',Heap.ExtBut it s.heap h'→Q none { s with heap:=h' }):wpAny (model prog w) A (pyNext (.ref it)) Q E s:=by
 have hT:s.TypeIs (.ref it) "range_iterator":=⟨_,hit,rfl⟩
 unfold pyNext
 refine wpAny_bind (wpAny_attempt (wpAny_callSpecial?_slot (name:=Str.ofString "__next__") hT F.slot_range_iterator_next (wpAny_call_entry F.slot_range_iterator_next hT F.entry_range_iterator_next ?_ (F.args_range_iterator_next_1 _))))
 show wpAny _ _ (field (.ref it) 0 >>= _) _ _ s
 refine wpAny_bind (wpAny_field hit rfl (x:=rawInt x) rfl ?_)
 show wpAny _ _ (field (.ref it) 1 >>= _) _ _ s
 refine wpAny_bind (wpAny_field hit rfl (x:=rawInt left) rfl ?_)
 show wpAny _ _ (field (.ref it) 2 >>= _) _ _ s
 refine wpAny_bind (wpAny_field hit rfl (x:=rawInt step) rfl ?_)
 show wpAny _ _ (if left≤0 then _ else _) _ _ s
 rw [if_pos hleft]
 refine wpAny_bind (wpAny_rule (wpAny_bind ?_))
 exact z124 (A:=A.in1) hh fun h' e k1 k2=>z128 k2 (hQ h' fun b o hb z=>k1 b o z)
theorem z347 {it:Addr}{n:String}{x:Str}{t:Tok}{i:Nat}{Q:Option Value→Shared→Prop}(hn:n="str_ascii_iterator"∨n="str_iterator") (hh:Hd A s.heap) (hit:s.heap.IsStrIter it n x t i) (hx:x.cps[i]?=none)
  (hQ:∀ h',Heap.ExtBut it s.heap h'→Q none { s with heap:=h' }):wpAny (model prog w) A (pyNext (.ref it)) Q E s:=by
 obtain⟨o,ho,hc,hd⟩:=id hit
 unfold pyNext
 rcases hn with rfl | rfl
 ·refine wpAny_bind (wpAny_attempt (wpAny_callSpecial?_slot (name:=Str.ofString "__next__") hit.typeIs F.slot_str_ascii_iterator_next (wpAny_call_entry F.slot_str_ascii_iterator_next hit.typeIs F.entry_str_ascii_iterator_next ?_ (F.args_str_ascii_iterator_next_1 _))))
  show wpAny _ _ (field (.ref it) 0 >>= _) _ _ s
  refine wpAny_bind (wpAny_field ho hd (x:=.str x t) rfl ?_)
  show wpAny _ _ (field (.ref it) 1 >>= _) _ _ s
  refine wpAny_bind (wpAny_field ho hd (x:=.int i 0) rfl ?_)
  simp only [Int.toNat_natCast,hx]
  refine wpAny_bind (wpAny_rule (wpAny_bind (wpAny_setField ho hd (by simp) (wpAny_bind (wpAny_letGo ?_)))))
  refine z124 (hh.update (A:=A) ho hc _) fun h' e k1 k2=>z128 k2 (hQ h' fun b o hb z=>k1 b o ?_)
  rw [Heap.get?_update_other _ _ (Ne.symm hb)]
  exact z
 ·refine wpAny_bind (wpAny_attempt (wpAny_callSpecial?_slot (name:=Str.ofString "__next__") hit.typeIs F.slot_str_iterator_next (wpAny_call_entry F.slot_str_iterator_next hit.typeIs F.entry_str_iterator_next ?_ (F.args_str_iterator_next_1 _))))
  show wpAny _ _ (field (.ref it) 0 >>= _) _ _ s
  refine wpAny_bind (wpAny_field ho hd (x:=.str x t) rfl ?_)
  show wpAny _ _ (field (.ref it) 1 >>= _) _ _ s
  refine wpAny_bind (wpAny_field ho hd (x:=.int i 0) rfl ?_)
  simp only [Int.toNat_natCast,hx]
  refine wpAny_bind (wpAny_rule (wpAny_bind (wpAny_setField ho hd (by simp) (wpAny_bind (wpAny_letGo ?_)))))
  refine z124 (hh.update (A:=A) ho hc _) fun h' e k1 k2=>z128 k2 (hQ h' fun b o hb z=>k1 b o ?_)
  rw [Heap.get?_update_other _ _ (Ne.symm hb)]
  exact z
theorem z309 {env:Env}{elts:List Expr}{x1}{pos:Pos}{t:Addr}{items:Array Value}{Q:Unit→Shared→Prop}(hh:Hd A s.heap) (ht:IsTup s.heap t items) (hn:(assignEach elts env).length=items.size) (hstar:(assignEach elts env).findIdx? (·.1)=none)
  (h:∀ h',Heap.ExtBut s.heap.objs.size s.heap h'→wpAny (model prog w) A (assignInOrder ((assignEach elts env).map (·.2)) items.toList) Q E { s with heap:=h' }):wpAny (model prog w) A (assign (.Tuple elts x1 pos) env (.ref t)) Q E s:=by
 have ne:t≠s.heap.objs.size:=by obtain⟨o,ho,_⟩:=ht;exact Nat.ne_of_lt (Heap.lt_size ho)
 rw [assign_Tuple]
 refine wpAny_bind (wpAny_standAt ?_)
 unfold unpack
 rw [hn,hstar]
 refine wpAny_bind (wpAny_holding ?_)
 unfold unpackItems
 refine wpAny_bind ?_
 unfold notIterableAtAll
 refine wpAny_bind (wpAny_specialOf ht.typeIs slot_tuple_iter.lookup (wpAny_pure ?_))
 simp only [Bool.false_eq_true,if_false]
 refine wpAny_bind (wpAny_holding (iter_tuple ht ?_))
 refine wpAny_bind (wpAny_holding (draw_tuple ne items.size 0 _ _ ⟨_,Heap.get?_push_size _ rfl,rfl,rfl⟩ (ht.push _) (by omega) fun h₁ hit₁ hs₁=>?_))
 rw [List.drop_zero,List.take_of_length_le (by simp)]
 rw [if_neg (by simp)]
 have k1:∀ b o,s.heap.get? b=some o→h₁.get? b=some o:=fun b o z=>(hs₁.2 b (Nat.ne_of_lt (Heap.lt_size z))).trans (Heap.get?_push_of_some _ z)
 have ht₁:IsTup h₁ t items:=(ht.push _).extBut hs₁.extBut ne
 refine wpAny_bind (wpAny_holding (z520 (s:={ s with heap:=h₁ }) (hh.keeps k1) hit₁ ht₁ (by simp) fun h₂ he₂=>?_))
 simp only [Option.isSome_none,Bool.false_eq_true,if_false]
 exact wpAny_pure (h h₂ fun b o hb z=>he₂ b o hb (k1 b o z))
end
end L2
set_option Elab.async false
set_option linter.all false
set_option maxRecDepth 100000
namespace L2
open PySem PySem.Spec PyProof.Rows
abbrev Key:=Sum Int Str
def keyIs:Key→Value→Bool
 | .inl k,v=>Value.isInt k v
 | .inr x,v=>Value.isStrOf x v
def keyH (w:World):Key→Int
 | .inl k=>hashInt k
 | .inr x=>hashStr w x
theorem keyIs_shape:∀ {k:Key}{v:Value},keyIs k v=true→(∃ i t,k=Sum.inl i∧v=Value.int i t)∨(∃ x t,k=Sum.inr x∧v=Value.str x t)
 | .inl i,v,h=>by
  obtain⟨t,e⟩:=Value.isInt_shape (k:=i) (v:=v) h
  exact .inl ⟨i,t,rfl,e⟩
 | .inr x,v,h=>by
  obtain⟨t,e⟩:=Value.isStrOf_shape (x:=x) (v:=v) h
  exact .inr ⟨x,t,rfl,e⟩
theorem keyIs_int (i:Int) (t:Tok):keyIs (.inl i) (.int i t)=true:=by simp [keyIs,Value.isInt]
theorem keyIs_str (x:Str) (t:Tok):keyIs (.inr x) (.str x t)=true:=by simp [keyIs,Value.isStrOf]
theorem key_ll (a b:Int):decide ((Sum.inl a:Key)=Sum.inl b)=(a == b):=by
 by_cases e:a=b
 ·subst e;simp
 ·have h:¬ (Sum.inl a:Key)=Sum.inl b:=fun q=>e (Sum.inl.inj q)
  rw [decide_eq_false h]
  exact(beq_eq_false_iff_ne.mpr e).symm
theorem key_rr (a b:Str):decide ((Sum.inr a:Key)=Sum.inr b)=decide (a=b):=by
 by_cases e:a=b
 ·subst e;simp
 ·have h:¬ (Sum.inr a:Key)=Sum.inr b:=fun q=>e (Sum.inr.inj q)
  rw [decide_eq_false h,decide_eq_false e]
theorem key_lr (a:Int) (b:Str):decide ((Sum.inl a:Key)=Sum.inr b)=false:=decide_eq_false (fun q=>nomatch q)
theorem key_rl (a:Str) (b:Int):decide ((Sum.inr a:Key)=Sum.inl b)=false:=decide_eq_false (fun q=>nomatch q)
def mixKind (prog:Program) (w:World):PySem.KeyKind prog w Key where
 is:=keyIs
 hash:=keyH w
 inj:=fun v a b ha hb=>by
  rcases keyIs_shape ha with ⟨i,t,rfl,rfl⟩ | ⟨x,t,rfl,rfl⟩
  ·rcases keyIs_shape hb with ⟨j,u,rfl,e⟩ | ⟨y,u,rfl,e⟩
   ·injection e with e1 _;rw [e1]
   ·exact nomatch e
  ·rcases keyIs_shape hb with ⟨j,u,rfl,e⟩ | ⟨y,u,rfl,e⟩
   ·exact nomatch e
   ·injection e with e1 _;rw [e1]
 byValue:=fun k v h=>by
  rcases keyIs_shape h with ⟨i,t,rfl,rfl⟩ | ⟨x,t,rfl,rfl⟩ <;> rfl
 pyHash:=fun hv h=>by
  rcases keyIs_shape hv with ⟨i,t,rfl,rfl⟩ | ⟨x,t,rfl,rfl⟩
  ·exact wpAny_pyHash_int h
  ·exact wpAny_pyHash_str h
 eqBool:=fun hu hv h=>by
  rcases keyIs_shape hu with ⟨i,t,rfl,rfl⟩ | ⟨x,t,rfl,rfl⟩
  ·rcases keyIs_shape hv with ⟨j,u,rfl,rfl⟩ | ⟨y,u,rfl,rfl⟩
   ·rw [key_ll] at h;exact wpAny_eqBool_int h
   ·rw [key_lr] at h;exact SeqAt.EqAt.int_str i t y u _ _ _ _ h
  ·rcases keyIs_shape hv with ⟨j,u,rfl,rfl⟩ | ⟨y,u,rfl,rfl⟩
   ·rw [key_rl] at h;exact SeqAt.EqAt.str_int x t j u _ _ _ _ h
   ·rw [key_rr] at h;exact wpAny_eqBool_str h
 «strs»:=fun k x t v h=>by
  rcases keyIs_shape h with ⟨i,u,rfl,e⟩ | ⟨y,u,rfl,e⟩
  ·exact nomatch e
  ·injection e with e1 _
   subst e1
   cases v <;> rfl
theorem mixKind_int (prog:Program) (w:World) (i:Int) (t:Tok):(mixKind prog w).is (.inl i) (.int i t)=true:=keyIs_int i t
theorem mixKind_str (prog:Program) (w:World) (x:Str) (t:Tok):(mixKind prog w).is (.inr x) (.str x t)=true:=keyIs_str x t
end L2
namespace L2
open PySem PySem.Spec PyProof.Rows
inductive V where
 | non | bl (b:Bool) | int (i:Int) | str (x:Str) | byt (b:Array UInt8) | flt (b:UInt64) | ref (a:Addr) | ty (n:String)
 deriving DecidableEq
def RelV:V→Value→Prop
 | .non,u=>u=Value.none
 | .bl b,u=>u=Value.bool b
 | .int i,u=>∃ t,u=Value.int i t
 | .str x,u=>∃ t,u=Value.str x t
 | .byt b,u=>∃ t,u=Value.bytes b t
 | .flt b,u=>∃ t,u=Value.float b t
 | .ref a,u=>u=Value.ref a
 | .ty n,u=>u=Value.type n
abbrev Vals:List V→List Value→Prop:=Paired RelV
theorem Vals.length {xs:List V}{us:List Value}(r:Vals xs us):xs.length=us.length:=Paired.length r
theorem Vals.get:∀ {xs:List V}{us:List Value}{i:Nat}{x:V},Vals xs us→xs[i]?=some x→∃ u,us[i]?=some u∧RelV x u
 | _,_,_,_,.nil,e=>by simp at e
 | _,_,0,_,.cons r _,e=>by simp at e;subst e;exact⟨_,rfl,r⟩
 | _,_,i + 1,x,.cons _ t,e=>by
  obtain⟨u,h1,h2⟩:=Vals.get (i:=i) (x:=x) t (by simpa using e)
  exact⟨u,by simpa using h1,h2⟩
theorem Vals.set {x:V}{u:Value}(r:RelV x u):∀ {xs:List V}{us:List Value}(i:Nat),Vals xs us→Vals (xs.set i x) (us.set i u)
 | _,_,_,.nil=>.nil
 | _,_,0,.cons _ t=>.cons r t
 | _,_,i + 1,.cons q t=>.cons q (Vals.set r i t)
theorem Vals.append:∀ {xs ys:List V}{us ws:List Value},Vals xs us→Vals ys ws→Vals (xs++ys) (us++ws)
 | _,_,_,_,.nil,s=>s
 | _,_,_,_,.cons r t,s=>.cons r (Vals.append t s)
theorem Vals.take:∀ {xs:List V}{us:List Value}(n:Nat),Vals xs us→Vals (xs.take n) (us.take n)
 | _,_,0,_=>.nil
 | _,_,_ + 1,.nil=>.nil
 | _,_,n + 1,.cons r t=>.cons r (Vals.take n t)
theorem Vals.drop:∀ {xs:List V}{us:List Value}(n:Nat),Vals xs us→Vals (xs.drop n) (us.drop n)
 | _,_,0,r=>r
 | _,_,_ + 1,.nil=>.nil
 | _,_,n + 1,.cons _ t=>Vals.drop n t
def RelO:Option V→Option Value→Prop
 | some v,some u=>RelV v u
 | none,none=>True
 | _,_=>False
def KV {κ:Type}:List (κ × V)→List (κ × Value)→Prop:=Paired fun(p:κ × V) (q:κ × Value)=>p.1=q.1∧RelV p.2 q.2
def kV:Key→V
 | .inl i=>.int i
 | .inr x=>.str x
inductive HO where
 | lst (xs:List V)
 | tup (xs:List V)
 | dK (kvs:List (Key × V)) | dT (kvs:List (List Key × V))
 | set (S:Int→Bool) (n:Nat)
 | ins (C dx:Addr) (fs:List (Str × V))
 | own (x:Addr)
 | xd (fs:List (Str × V))
 | met (f x:Addr)
 | rng (lo hi:Int)
 | frz (o:Obj) (u:HO)
 | tbl (ps:Array Value)
 | ext (φ:Heap→Prop)
abbrev Hp:=Addr→Option HO
def upd (H:Hp) (a:Addr) (o:HO):Hp:=fun b=>if b=a then some o else H b
theorem upd_same {H:Hp}{a:Addr}{o:HO}:upd H a o a=some o:=by unfold upd;rw [if_pos rfl]
theorem upd_ne {H:Hp}{a b:Addr}{o:HO}(h:b≠a):upd H a o b=H b:=by unfold upd;rw [if_neg h]
theorem ne_of {H:Hp}{a b:Addr}{o u:HO}(h:H a=some o) (h':H b=some u) (d:o≠u):a≠b:=by
 intro e;subst e;rw [h] at h';exact d (Option.some.inj h')
theorem ne_of_none {H:Hp}{a b:Addr}{o:HO}(h:H a=some o) (h':H b=none):a≠b:=by
 intro e;subst e;rw [h] at h';cases h'
section
variable (P:Program) (w:World)
def ObjOk (H:Hp) (h:Heap) (a:Addr):HO→Prop
 | .lst xs=>xs.length≤sizeLine∧∃ (its:List Value) (n:Nat),Vals xs its∧h.get? a=some { cls:=.type "list",data:=.seq its.toArray n }
 | .tup xs=>xs.length≤sizeLine∧∃ its:List Value,Vals xs its∧IsTup h a its.toArray
 | .dK kvs=>kvs.length≤sizeLine∧(a == sysModules)=false∧∃ vs,KV kvs vs∧h.DictOf (mixKind P w) a vs
 | .dT kvs=>kvs.length≤sizeLine∧(a == sysModules)=false∧∃ xs:List (List Key × Addr × Value),
   Paired (fun(p:List Key × V) (q:List Key × Addr × Value)=>p.1=q.1∧H q.2.1=some (.tup (p.1.map kV))∧RelV p.2 q.2.2) kvs xs∧
   ∃ o es ep,h.get? a=some o∧o.ExactDict∧o.data=.dict es ep∧es.toList=xs.map (entryOfKey (tupleKind (mixKind P w)))∧(xs.map (·.1)).Nodup
 | .set S n=>h.SetOf (intKind P w) a S n
 | .ins C dx fs=>H dx=some (.own a)∧fs.length≤1000∧dx≠a∧h.get? a=some (PySem.W.instObj C dx)∧
   ∃ mA,h.Ns1 dx mA∧(∀ f,RelO (fs.lookup f) (mA f))∧PySem.Within mA (fs.map (·.1))
 | .own _=>∃ o,h.get? a=some o
 | .xd fs=>∃ mA,h.Ns1 a mA∧∀ f,RelO (fs.lookup f) (mA f)
 | .rng lo hi=>∃ t u v,h.get? a=some { cls:=.type "range",data:=.fields #[.int lo t,.int hi u,.int 1 v] }
 | .frz o u=>h.get? a=some o∧ObjOk H h a u
 | .tbl ps=>h.get? a=some { cls:=.none,data:=.fields ps }
 | .met f x=>h.get? a=some (PySem.W.methodObj (.ref f) (.ref x))
 | .ext φ=>φ h∧(∃ o,h.get? a=some o)∧∀ h1 h2:Heap,φ h1→(∀ o,h1.get? a=some o→h2.get? a=some o)→φ h2
def HOk (H:Hp) (h:Heap):Prop:=∀ a o,H a=some o→ObjOk P w H h a o
end
section
variable {P:Program}{w:World}{H H':Hp}{h h':Heap}{a:Addr}{o:HO}
theorem ObjOk.lt (x:ObjOk P w H h a o):a < h.objs.size:=by
 cases o with
 | lst xs=>obtain⟨_,_,_,_,e⟩:=x;exact Heap.lt_size e
 | tup xs=>obtain⟨_,_,_,p⟩:=x;exact p.lt
 | dK kvs=>obtain⟨_,_,_,_,o,_,_,e,_⟩:=x;exact Heap.lt_size e
 | dT kvs=>obtain⟨_,_,_,_,o,_,_,e,_⟩:=x;exact Heap.lt_size e
 | set S n=>obtain⟨o,_,_,_,e,_⟩:=x;exact Heap.lt_size e
 | ins C dx fs=>obtain⟨_,_,_,e,_⟩:=x;exact Heap.lt_size e
 | own y=>obtain⟨_,e⟩:=x;exact Heap.lt_size e
 | xd fs=>obtain⟨_,⟨_,_,_,e,_⟩,_⟩:=x;exact Heap.lt_size e
 | rng lo hi=>obtain⟨_,_,_,e⟩:=x;exact Heap.lt_size e
 | frz ob u=>obtain⟨e,_⟩:=x;exact Heap.lt_size e
 | tbl ps=>exact Heap.lt_size (show h.get? a=some _ from x)
 | met f y=>exact Heap.lt_size (show h.get? a=some _ from x)
 | ext φ=>obtain⟨_,⟨_,e⟩,_⟩:=x;exact Heap.lt_size e
theorem Paired.mapP {α β:Type}{F G:α→β→Prop}:∀ {l₁:List α}{l₂:List β},Paired F l₁ l₂→(∀ a b,F a b→G a b)→Paired G l₁ l₂
 | _,_,.nil,_=>.nil
 | _,_,.cons r t,f=>.cons (f _ _ r) (Paired.mapP t f)
theorem ObjOk.stay (x:ObjOk P w H h a o) (k:∀ b u,(b=a∨H b=some (.own a))→h.get? b=some u→h'.get? b=some u)
  (ho:∀ b,H b=some (.own a)→H' b=some (.own a)) (ht:∀ b xs,H b=some (.tup xs)→H' b=some (.tup xs)):ObjOk P w H' h' a o:=by
 induction o with
 | lst xs=>obtain⟨z,its,n,r,e⟩:=x;exact⟨z,its,n,r,k _ _ (.inl rfl) e⟩
 | tup xs=>obtain⟨z,its,r,ob,e,c⟩:=x;exact⟨z,its,r,ob,k _ _ (.inl rfl) e,c⟩
 | dK kvs=>obtain⟨z,y,vs,r,ob,es,ep,e,c⟩:=x;exact⟨z,y,vs,r,ob,es,ep,k _ _ (.inl rfl) e,c⟩
 | dT kvs=>
  obtain⟨z,y,xs,r,ob,es,ep,e,c⟩:=x
  exact⟨z,y,xs,Paired.mapP r fun p q z=>⟨z.1,ht _ _ z.2.1,z.2.2⟩,ob,es,ep,k _ _ (.inl rfl) e,c⟩
 | set S n=>obtain⟨ob,es,ep,t,e,c⟩:=x;exact⟨ob,es,ep,t,k _ _ (.inl rfl) e,c⟩
 | ins C dx fs=>
  obtain⟨d,z,ne,e,mA,⟨od,es,ep,e2,c⟩,r⟩:=x
  exact⟨ho _ d,z,ne,k _ _ (.inl rfl) e,mA,⟨od,es,ep,k _ _ (.inr d) e2,c⟩,r⟩
 | own y=>obtain⟨ob,e⟩:=x;exact⟨ob,k _ _ (.inl rfl) e⟩
 | xd fs=>obtain⟨mA,⟨od,es,ep,e,c⟩,r⟩:=x;exact⟨mA,⟨od,es,ep,k _ _ (.inl rfl) e,c⟩,r⟩
 | rng lo hi=>obtain⟨t,u,v,e⟩:=x;exact⟨t,u,v,k _ _ (.inl rfl) e⟩
 | frz ob u ih=>obtain⟨e,q⟩:=x;exact⟨k _ _ (.inl rfl) e,ih q⟩
 | tbl ps=>
  have e:h.get? a=some { cls:=.none,data:=.fields ps }:=x
  show h'.get? a=some { cls:=.none,data:=.fields ps }
  exact k a _ (.inl rfl) e
 | met f y=>
  have e:h.get? a=some (PySem.W.methodObj (.ref f) (.ref y)):=x
  show h'.get? a=some (PySem.W.methodObj (.ref f) (.ref y))
  exact k a _ (.inl rfl) e
 | ext φ=>obtain⟨p,⟨o,e⟩,st⟩:=x;exact⟨st _ _ p fun o q=>k _ _ (.inl rfl) q,⟨o,k _ _ (.inl rfl) e⟩,st⟩
theorem HOk.lt (x:HOk P w H h) (e:H a=some o):a < h.objs.size:=(x a o e).lt
theorem HOk.fresh (x:HOk P w H h) (e:h.objs.size≤a):H a=none:=by
 cases q:H a with
 | none=>rfl
 | some u=>exact absurd (Nat.lt_of_lt_of_le (x.lt q) e) (Nat.lt_irrefl _)
theorem HOk.kept (x:HOk P w H h) (k:∀ b u,h.get? b=some u→h'.get? b=some u):HOk P w H h':=fun a o e=>
 (x a o e).stay (fun b u _ q=>k b u q) (fun _ q=>q) fun _ _ q=>q
theorem HOk.laid (x:HOk P w H h) (k:∀ b u,h.get? b=some u→h'.get? b=some u) (hp:h.objs.size≤a) (new:ObjOk P w (upd H a o) h' a o):HOk P w (upd H a o) h':=fun b u e=>by
 have hn:=x.fresh hp
 by_cases hb:b=a
 ·subst hb;rw [upd_same] at e;cases e;exact new
 ·rw [upd_ne hb] at e
  exact(x b u e).stay (fun c v _ q=>k c v q) (fun c q=>by rw [upd_ne (ne_of_none q hn)];exact q) fun c xs q=>by rw [upd_ne (ne_of_none q hn)];exact q
end
def Rd (H:Hp) (a:Addr) (u:HO):Prop:=H a=some u∨∃ o,H a=some (.frz o u)
theorem Rd.ok {P:Program}{w:World}{H:Hp}{h:Heap}{a:Addr}{u:HO}(r:Rd H a u) (x:HOk P w H h):ObjOk P w H h a u:=by
 rcases r with r | ⟨o,r⟩
 ·exact x a u r
 ·obtain⟨_,q⟩:=x a _ r
  exact q
def Mut:Option HO→Prop
 | some (.lst _)=>True
 | some (.dK _)=>True
 | some (.dT _)=>True
 | some (.set _ _)=>True
 | some (.ins _ _ _)=>True
 | some (.ext _)=>True
 | _=>False
section
variable {P:Program}{w:World}{H:Hp}{h h':Heap}{x e:Addr}{o':HO}
theorem HOk.write (ok:HOk P w H h) (mu:Mut (H x)) (he:e=x∨H e=some (.own x)) (k:∀ b u,b≠e→h.get? b=some u→h'.get? b=some u) (heo:∃ u,h'.get? e=some u)
  (new:ObjOk P w (upd H x o') h' x o'):HOk P w (upd H x o') h':=fun b u q=>by
 have nown:∀ c y,H c=some (.own y)→c≠x:=fun c y r z=>by subst z;rw [r] at mu;exact mu
 have ntup:∀ c xs,H c=some (.tup xs)→c≠x:=fun c xs r z=>by subst z;rw [r] at mu;exact mu
 by_cases hb:b=x
 ·subst hb;rw [upd_same] at q;cases q;exact new
 ·rw [upd_ne hb] at q
  by_cases hbe:b=e
  ·have q':H b=some (.own x):=by
    rcases he with z | z
    ·exact absurd (hbe.trans z) hb
    ·rw [hbe];exact z
   rw [q] at q';cases q'
   obtain⟨v,hv⟩:=heo
   exact⟨v,by rw [hbe];exact hv⟩
  ·refine(ok b u q).stay (fun c v hc r=>k c v ?_ r) (fun c r=>by rw [upd_ne (nown c b r)];exact r) fun c xs r=>by rw [upd_ne (ntup c xs r)];exact r
   rcases hc with rfl | hc
   ·exact hbe
   ·rintro rfl
    rcases he with z | z
    ·exact nown c b hc z
    ·rw [hc] at z;cases z;exact hb rfl
end
structure Un (fs ex:List Addr) (H H':Hp) (h h':Heap):Prop where
 keep:∀ b o,h.get? b=some o→H b=none→b ∉ fs→b ∉ ex→h'.get? b=some o
 slot:∀ b o,h.get? b=some o→H b=none→b∈fs→b ∉ ex→∃ sl,h'.get? b=some { o with slots:=sl }
 free:∀ b o,h.get? b=some o→H b=none→b ∉ ex→H' b=none
 there:∀ b o,h.get? b=some o→b ∉ ex→∃ o',h'.get? b=some o'
 tups:∀ b xs,H b=some (.tup xs)→H' b=some (.tup xs)
 frzs:∀ b o u,H b=some (.frz o u)→H' b=some (.frz o u)
 tbls:∀ b ps,H b=some (.tbl ps)→∃ more,H' b=some (.tbl (ps++more))
section
variable {fs fs' ex ex':List Addr}{H H1 H2:Hp}{h h1 h2 h':Heap}{a x e:Addr}{o:HO}
theorem Un.any (u:Un fs ex H H1 h h1){b:Addr}{ob:Obj}(q:h.get? b=some ob) (n:H b=none) (hx:b ∉ ex):∃ sl,h1.get? b=some { ob with slots:=sl }:=by
 by_cases hb:b∈fs
 ·exact u.slot b ob q n hb hx
 ·exact⟨ob.slots,u.keep b ob q n hb hx⟩
theorem Un.kept (k:∀ b u,h.get? b=some u→h'.get? b=some u):Un fs ex H H h h':=
 ⟨fun b ob q _ _ _=>k b ob q,fun b ob q _ _ _=>⟨ob.slots,k b ob q⟩,fun _ _ _ n _=>n,fun b ob q _=>⟨ob,k b ob q⟩,fun _ _ q=>q,fun _ _ _ q=>q,fun _ ps q=>⟨#[],by rw [q];simp⟩⟩
theorem Un.refl:Un fs ex H H h h:=Un.kept fun _ _ q=>q
theorem Un.laid (k:∀ b u,h.get? b=some u→h'.get? b=some u) (hp:h.objs.size≤a) (hn:H a=none):Un fs ex H (upd H a o) h h' where
 keep:=fun b u q _ _ _=>k b u q
 slot:=fun b u q _ _ _=>⟨u.slots,k b u q⟩
 free:=fun b u q n _=>by rw [upd_ne (Nat.ne_of_lt (Nat.lt_of_lt_of_le (Heap.lt_size q) hp))];exact n
 there:=fun b u q _=>⟨u,k b u q⟩
 tups:=fun b xs q=>by rw [upd_ne (ne_of_none q hn)];exact q
 frzs:=fun b u xs q=>by rw [upd_ne (ne_of_none q hn)];exact q
 tbls:=fun b ps q=>⟨#[],by rw [upd_ne (ne_of_none q hn),q];simp⟩
theorem Un.write (mu:Mut (H x)) (he:e=x∨H e=some (.own x)) (k:∀ b u,b≠e→h.get? b=some u→h'.get? b=some u) (heo:∃ u,h'.get? e=some u):Un fs ex H (upd H x o) h h':=by
 have hx:∀ b,H b=none→b≠x:=fun b n z=>by subst z;rw [n] at mu;exact mu
 have hb:∀ b,H b=none→b≠e:=fun b n z=>by
  subst z
  rcases he with r | r
  ·exact hx b n r
  ·rw [n] at r;cases r
 have hm:∀ b u,H b=some u→¬ Mut (some u)→b≠x:=fun b u q nm z=>by subst z;rw [q] at mu;exact nm mu
 refine⟨fun b u q n _ _=>k b u (hb b n) q,fun b u q n _ _=>⟨u.slots,k b u (hb b n) q⟩,fun b u q n _=>by rw [upd_ne (hx b n)];exact n,fun b u q _=>?_,
  fun b xs q=>by rw [upd_ne (hm b _ q fun z=>z)];exact q,fun b u xs q=>by rw [upd_ne (hm b _ q fun z=>z)];exact q,fun b ps q=>⟨#[],by rw [upd_ne (hm b _ q fun z=>z),q];simp⟩⟩
 by_cases hbe:b=e
 ·subst hbe;exact heo
 ·exact⟨u,k b u hbe q⟩
end
def trk (h:Heap) (H:Hp):List Addr:=(List.range h.objs.size).filter fun a=>(H a).isSome
def hidT (h:Heap) (H:Hp):Heap:=PySem.W.hideAll h (trk h H)
theorem hidT_size (h:Heap) (H:Hp):(hidT h H).objs.size=h.objs.size:=PySem.W.hideAll_size _ _
theorem hidT_get {h:Heap}{H:Hp}{b:Addr}{o:Obj}(e:h.get? b=some o) (n:H b=none):(hidT h H).get? b=some o:=
 PySem.W.hideAll_get _ e fun hm=>by
  have q:(H b).isSome=true:=(List.mem_filter.mp hm).2
  rw [n] at q;simp at q
theorem of_hidT {h:Heap}{H:Hp}{b:Addr}{o:Obj}(e:(hidT h H).get? b=some o):h.get? b=some o∧H b=none:=by
 have e':h.get? b=some o:=PySem.W.of_hideAll (trk h H) e
 refine⟨e',?_⟩
 cases q:H b with
 | none=>rfl
 | some x=>
  have hm:b∈trk h H:=List.mem_filter.mpr ⟨List.mem_range.mpr (Heap.lt_size e'),by simp [q]⟩
  have z:(hidT h H).get? b=none:=PySem.W.hideAll_none (trk h H) hm
  rw [z] at e;cases e
def allNews (g h:Heap) (L:Addr):List (Addr × Obj):=(List.range h.objs.size).filterMap fun a=>if a=L∨(g.get? a).isSome=true then none else(h.get? a).map fun o=>(a,o)
def rest (g h:Heap) (L d:Addr):List (Addr × Obj):=(allNews g h L).filter fun p=>decide (p.1≠d)
end L2
namespace L2
open PySem PySem.Spec PyProof.Rows
structure Mod (K:PySem.W.Frag) (mg:Str→Option Value) (base:Heap):Prop where
 kin:K.In base
 glob:base.Ns mainGlobals mg
 blt:∃ mb,base.Ns builtinsNs mb∧∀ x:Str,x≠"__name__"→mb x=bootBuiltins x
 nolimit:base.NoLimit
structure Cx where
 prog:Program
 w:World
 K:PySem.W.Frag
 mg:Str→Option Value
 base:Heap
 A:Around
 N:List Str
 s₀:Shared
 H₀:Hp
 env:Env
 outer:List Env
 stack:List Env
 ex:List Addr
 fn:Str→Bool
 calm:Bool
 pn:List (Addr × Obj)
 xe:Value→Shared→Prop
def frs (l:List Env):List Addr:=l.filterMap (·.frame)
abbrev Cx.fs (X:Cx):List Addr:=frs X.outer
def Vis (sc:Scope) (x:Str):Prop:=sc.names.lookup x=some .local∨sc.names.lookup x=some .cell∨sc.names.lookup x=some .free
def Loc (sc:Scope) (x:Str):Prop:=sc.names.lookup x=some .local∨sc.names.lookup x=some .cell
def Look (env:Env) (h:Heap) (m:Str→Option Value) (x:Str) (u:Value):Prop:=
 (env.kindOf x=some .local∧m x=some u)∨((env.kindOf x=some .cell∨env.kindOf x=some .free)∧∃ c,env.cells.lookup x=some c∧h.IsCell c (some u))
structure Cx.Ok (X:Cx):Prop where
 mod:Mod X.K X.mg X.base
 kind:X.env.scope.kind=.function
 glob:X.env.globals=mainGlobals
 blt:X.env.builtins=builtinsNs
 above:X.s₀.heap.objs.size≤X.env.locals
 inj:∀ x y c,X.env.cells.lookup x=some c→X.env.cells.lookup y=some c→x=y
 has:∀ x,(X.env.kindOf x=some .cell∨X.env.kindOf x=some .free)→∃ c,X.env.cells.lookup x=some c
 cab:∀ x c,X.fn x=true→X.env.cells.lookup x=some c→X.s₀.heap.objs.size≤c
 hd:X.calm=true→X.A.handled=none
 frames:X.A.frames=some X.stack
 stk:X.stack=X.outer∨(X.stack=X.env::X.outer∧X.env.frame=some X.env.locals)
 exf:∀ b∈X.ex,b≠X.env.locals∧∀ x c,X.env.cells.lookup x=some c→c≠b
 bs:∀ b o,X.base.get? b=some o→X.s₀.heap.get? b=some o∧X.H₀ b=none
 bsz:X.base.objs.size≤X.s₀.heap.objs.size
 noex:∀ b o,X.base.get? b=some o→b ∉ X.ex
 exfs:∀ b∈X.ex,b ∉ X.fs
 funs:X.s₀.heap.FunFrames X.base X.outer
 frf:∀ b∈X.fs,X.H₀ b=none
structure Inv (X:Cx) (pins:List (Addr × Obj)) (σ:List (Option V)) (H:Hp) (s:Shared):Prop where
 ok:X.Ok
 os:s.os=X.s₀.os
 bare:AllBare s.gens
 base:Un X.fs X.ex X.H₀ H X.s₀.heap s.heap
 loc:∃ m,s.heap.Ns X.env.locals m∧∀ (i:Nat) (x:Str) (v:V),X.N[i]?=some x→σ[i]?=some (some v)→Vis X.env.scope x→∃ u,RelV v u∧Look X.env s.heap m x u
 cell:∀ x c,X.env.cells.lookup x=some c→∃ v,s.heap.IsCell c v
 free:H X.env.locals=none
 freeC:∀ x c,X.env.cells.lookup x=some c→H c=none
 pin:∀ p∈X.pn++pins,s.heap.get? p.1=some p.2∧H p.1=none∧p.1≠X.env.locals∧p.1 ∉ X.fs∧∀ v,p.2.data≠.cell v
 hok:HOk X.prog X.w H s.heap
 len:σ.length=X.N.length
section
variable {X:Cx}{pins:List (Addr × Obj)}{σ:List (Option V)}{H H':Hp}{s:Shared}{h':Heap}
theorem Cx.Ok.nofr (ok:X.Ok){b:Addr}{o:Obj}(e:X.base.get? b=some o):b ∉ X.fs:=fun hb=>by
 have:=(ok.funs.mem hb).1
 rw [e] at this;cases this
theorem Inv.bs (I:Inv X pins σ H s):∀ b o,X.base.get? b=some o→s.heap.get? b=some o∧H b=none:=fun b o e=>
 ⟨I.base.keep b o (I.ok.bs b o e).1 (I.ok.bs b o e).2 (I.ok.nofr e) (I.ok.noex b o e),I.base.free b o (I.ok.bs b o e).1 (I.ok.bs b o e).2 (I.ok.noex b o e)⟩
theorem Inv.bk (I:Inv X pins σ H s):∀ b o,X.base.get? b=some o→s.heap.get? b=some o:=fun b o e=>(I.bs b o e).1
theorem Inv.mod (I:Inv X pins σ H s):Mod X.K X.mg X.base:=I.ok.mod
theorem Inv.kIn (I:Inv X pins σ H s):X.K.In s.heap:=I.ok.mod.kin.keeps I.bk
theorem Inv.fr (I:Inv X pins σ H s):∃ m,Fr X.base X.env.locals s.heap m:=
 let ⟨m,hn,_⟩:=I.loc
 ⟨m,hn,I.bk,Nat.le_trans I.ok.bsz I.ok.above⟩
theorem Inv.lt (I:Inv X pins σ H s):X.env.locals < s.heap.objs.size:=let ⟨_,hn,_⟩:=I.loc;hn.lt
theorem Inv.sz (I:Inv X pins σ H s):X.s₀.heap.objs.size≤s.heap.objs.size:=Nat.le_trans I.ok.above (Nat.le_of_lt I.lt)
theorem Inv.nofs (I:Inv X pins σ H s){a:Addr}(h:s.heap.objs.size≤a):a ∉ X.fs:=fun hb=>by
 obtain⟨_,o,ho,_⟩:=I.ok.funs.mem hb
 exact absurd (Nat.lt_of_lt_of_le (Heap.lt_size ho) (Nat.le_trans I.sz h)) (Nat.lt_irrefl _)
theorem Inv.cne (I:Inv X pins σ H s):∀ x c,X.env.cells.lookup x=some c→c≠X.env.locals:=fun x c e z=>by
 obtain⟨v,o,ho,hd⟩:=I.cell x c e
 obtain⟨m,⟨o',es,ep,ho',hd',_⟩,_⟩:=I.loc
 rw [z,ho'] at ho;cases ho;rw [hd'] at hd;cases hd
theorem Inv.funs (I:Inv X pins σ H s):s.heap.FunFrames X.base X.outer:=by
 have all:∀ (l:List Env),(∀ b∈frs l,b∈X.fs)→X.s₀.heap.FunFrames X.base l→s.heap.FunFrames X.base l:=by
  intro l
  induction l with
  | nil=>intro _ _;trivial
  | cons env r ih=>
   intro hs hl
   obtain⟨hk,⟨L,o,hf,hn,ho,hd⟩,hr⟩:=hl
   have hL:L∈X.fs:=hs L (by unfold frs;rw [List.filterMap_cons,hf];exact List.mem_cons_self)
   obtain⟨sl,e⟩:=I.base.slot L o ho (I.ok.frf L hL) hL fun z=>I.ok.exfs L z hL
   exact⟨hk,⟨L,_,hf,hn,e,hd⟩,ih (fun b hb=>hs b (by unfold frs;rw [List.filterMap_cons,hf];exact List.mem_cons_of_mem _ hb)) hr⟩
 exact all X.outer (fun _ hb=>hb) I.ok.funs
theorem Inv.stack (I:Inv X pins σ H s):s.heap.FunFrames X.base X.stack:=by
 rcases I.ok.stk with e | ⟨e,hf⟩
 ·rw [e];exact I.funs
 ·rw [e]
  obtain⟨m,hn,_⟩:=I.loc
  refine .cons (by rw [I.ok.kind];decide) hf hn ?_ I.funs
  exact Heap.get?_none_of_le (Nat.le_trans I.ok.bsz I.ok.above)
theorem Inv.stkSub (I:Inv X pins σ H s):∀ b∈frs X.stack,b∈X.env.locals::X.fs:=fun b hb=>by
 rcases I.ok.stk with e | ⟨e,hf⟩
 ·rw [e] at hb;exact List.mem_cons_of_mem _ hb
 ·rw [e] at hb
  unfold frs at hb
  rw [List.filterMap_cons,hf] at hb
  exact hb
theorem Inv.stkFree (I:Inv X pins σ H s):∀ b∈frs X.stack,H b=none:=fun b hb=>by
 rcases List.mem_cons.mp (I.stkSub b hb) with e | hb
 ·rw [e];exact I.free
 ·obtain⟨_,o,ho,_⟩:=I.ok.funs.mem hb
  exact I.base.free b o ho (I.ok.frf b hb) fun z=>I.ok.exfs b z hb
theorem Inv.step {g':Array GenState}{t':Nat}{d':Drawn}{ch:List Addr}(I:Inv X pins σ H s)
  (hch:∀ b∈ch,(b∈X.ex∨X.s₀.heap.objs.size≤b)∧b≠X.env.locals∧(∀ x c,X.env.cells.lookup x=some c→c≠b)∧∀ p∈X.pn++pins,p.1≠b)
  (keep:∀ b o,b≠X.env.locals→b ∉ X.fs→b ∉ ch→s.heap.get? b=some o→H b=none→h'.get? b=some o)
  (slot:∀ b o,b≠X.env.locals→b∈X.fs→b ∉ ch→s.heap.get? b=some o→H b=none→∃ sl,h'.get? b=some { o with slots:=sl }) (free:∀ b o,b ∉ ch→s.heap.get? b=some o→H b=none→H' b=none)
  (there:∀ b o,b ∉ ch→s.heap.get? b=some o→∃ o',h'.get? b=some o')
  (tups:∀ b xs,H b=some (.tup xs)→H' b=some (.tup xs)) (frzs:∀ b o u,H b=some (.frz o u)→H' b=some (.frz o u)) (tbls:∀ b ps,H b=some (.tbl ps)→∃ more,H' b=some (.tbl (ps++more)))
  (ns:∀ m,s.heap.Ns X.env.locals m→h'.Ns X.env.locals m) (hok:HOk X.prog X.w H' h') (hg:AllBare g'):
  Inv X pins σ H' { s with heap:=h',gens:=g',drawn:=d',toks:=t' }:=by
 have neL:∀ b o,X.s₀.heap.get? b=some o→b≠X.env.locals:=fun b o e=>Nat.ne_of_lt (Nat.lt_of_lt_of_le (Heap.lt_size e) I.ok.above)
 have neC:∀ b o,X.s₀.heap.get? b=some o→b ∉ X.ex→b ∉ ch:=fun b o e hx hb=>by
  rcases (hch b hb).1 with z | z
  ·exact hx z
  ·exact absurd (Nat.lt_of_lt_of_le (Heap.lt_size e) z) (Nat.lt_irrefl _)
 have cellK:∀ x c,X.env.cells.lookup x=some c→∀ v,s.heap.IsCell c v→h'.IsCell c v:=fun x c e v ⟨o,ho,hd⟩=>by
  have nch:c ∉ ch:=fun z=>(hch c z).2.2.1 x c e rfl
  by_cases hc:c∈X.fs
  ·obtain⟨sl,q⟩:=slot c o (I.cne x c e) hc nch ho (I.freeC x c e)
   exact⟨_,q,hd⟩
  ·exact⟨o,keep c o (I.cne x c e) hc nch ho (I.freeC x c e),hd⟩
 refine⟨I.ok,I.os,hg,⟨fun b o e n hb hx=>?_,fun b o e n hb hx=>?_,fun b o e n hx=>?_,fun b o e hx=>?_,fun b xs e=>tups b xs (I.base.tups b xs e),fun b o xs e=>frzs b o xs (I.base.frzs b o xs e),fun b ps e=>?_⟩,?_,fun x c e=>?_,?_,fun x c e=>?_,fun p hp=>?_,hok,I.len⟩
 ·exact keep b o (neL b o e) hb (neC b o e hx) (I.base.keep b o e n hb hx) (I.base.free b o e n hx)
 ·obtain⟨sl,e1⟩:=I.base.slot b o e n hb hx
  obtain⟨sl',e2⟩:=slot b _ (neL b o e) hb (neC b o e hx) e1 (I.base.free b o e n hx)
  exact⟨sl',e2⟩
 ·obtain⟨o',e1⟩:=I.base.there b o e hx
  exact free b o' (neC b o e hx) e1 (I.base.free b o e n hx)
 ·obtain⟨o',e1⟩:=I.base.there b o e hx
  exact there b o' (neC b o e hx) e1
 ·obtain⟨m1,e1⟩:=I.base.tbls b ps e
  obtain⟨m2,e2⟩:=tbls b _ e1
  exact⟨m1++m2,by rw [e2,Array.append_assoc]⟩
 ·obtain⟨m,hn,hl⟩:=I.loc
  refine⟨m,ns m hn,fun i x v e1 e2 e3=>?_⟩
  obtain⟨u,r,l⟩:=hl i x v e1 e2 e3
  refine⟨u,r,?_⟩
  rcases l with l | ⟨k,c,e,z⟩
  ·exact .inl l
  ·exact .inr ⟨k,c,e,cellK x c e _ z⟩
 ·obtain⟨v,z⟩:=I.cell x c e
  exact⟨v,cellK x c e v z⟩
 ·obtain⟨m,⟨o,_,_,ho,_⟩,_⟩:=I.loc
  exact free _ o (fun z=>(hch _ z).2.1 rfl) ho I.free
 ·obtain⟨v,o,ho,hd⟩:=I.cell x c e
  exact free c o (fun z=>(hch c z).2.2.1 x c e rfl) ho (I.freeC x c e)
 ·obtain⟨e,n,ne,nf,d⟩:=I.pin p hp
  have nch:p.1 ∉ ch:=fun z=>(hch p.1 z).2.2.2 p hp rfl
  exact⟨keep p.1 p.2 ne nf nch e n,free p.1 p.2 nch e n,ne,nf,d⟩
theorem Inv.un {t':Nat}(I:Inv X pins σ H s) (u:Un X.fs [] H H' s.heap h') (hok:HOk X.prog X.w H' h'):Inv X pins σ H' { s with heap:=h',toks:=t' }:=by
 obtain⟨m,⟨o,es,ep,ho,r⟩,_⟩:=id I.loc
 obtain⟨sl,hL⟩:=u.any ho I.free (by simp)
 exact I.step (g':=s.gens) (d':=s.drawn) (ch:=[]) (fun _ z=>nomatch z) (fun b o _ hb _ e n=>u.keep b o e n hb (by simp)) (fun b o _ hb _ e n=>u.slot b o e n hb (by simp)) (fun b o _ e n=>u.free b o e n (by simp)) (fun b o _ e=>u.there b o e (by simp)) u.tups u.frzs u.tbls (fun m' hm=>by
  obtain⟨o',es',ep',ho',r'⟩:=hm
  rw [ho] at ho';cases ho'
  exact⟨_,es',ep',hL,r'⟩) hok I.bare
theorem Inv.call {g':Array GenState}{t':Nat}{d':Drawn}{ch:List Addr}(I:Inv X pins σ H s) (u:Un (frs X.stack) ch H H' s.heap h') (hok:HOk X.prog X.w H' h') (hg:AllBare g')
  (hch:∀ b∈ch,(b∈X.ex∨X.s₀.heap.objs.size≤b)∧b≠X.env.locals∧(∀ x c,X.env.cells.lookup x=some c→c≠b)∧∀ p∈X.pn++pins,p.1≠b):
  Inv X pins σ H' { s with heap:=h',gens:=g',drawn:=d',toks:=t' }:=by
 obtain⟨m,⟨o,es,ep,ho,r⟩,_⟩:=id I.loc
 obtain⟨sl,hL⟩:=u.any ho I.free fun z=>(hch _ z).2.1 rfl
 exact I.step (ch:=ch) hch (fun b o hL hb hc e n=>u.keep b o e n (fun z=>(List.mem_cons.mp (I.stkSub b z)).elim hL hb) hc) (fun b o _ _ hc e n=>u.any e n hc) (fun b o hc e n=>u.free b o e n hc) (fun b o hc e=>u.there b o e hc) u.tups u.frzs u.tbls (fun m' hm=>by
  obtain⟨o',es',ep',ho',r'⟩:=hm
  rw [ho] at ho';cases ho'
  exact⟨_,es',ep',hL,r'⟩) hok hg
theorem Inv.turned {t':Nat}{it:Addr}(I:Inv X pins σ H s) (k:∀ b o,b≠it→s.heap.get? b=some o→h'.get? b=some o) (hn:H it=none) (hL:it≠X.env.locals)
  (h1:it∈X.ex∨X.s₀.heap.objs.size≤it) (h2:∀ x c,X.env.cells.lookup x=some c→c≠it) (h3:∀ p∈X.pn++pins,p.1≠it):Inv X pins σ H { s with heap:=h',toks:=t' }:=by
 have nit:∀ b u,H b=some u→b≠it:=fun b u e z=>by rw [z,hn] at e;cases e
 refine I.step (g':=s.gens) (d':=s.drawn) (ch:=[it]) (fun b hb=>?_) (fun b o _ _ hc e _=>k b o (fun z=>hc (by simp [z])) e) (fun b o _ _ hc e _=>⟨o.slots,k b o (fun z=>hc (by simp [z])) e⟩) (fun _ _ _ _ n=>n)
  (fun b o hc e=>⟨o,k b o (fun z=>hc (by simp [z])) e⟩) (fun _ _ e=>e) (fun _ _ _ e=>e) (fun b ps e=>⟨#[],by rw [e];simp⟩) (fun m hm=>?_) (fun b u e=>?_) I.bare
 ·have e:b=it:=by simpa using hb
  subst e
  exact⟨h1,hL,h2,h3⟩
 ·obtain⟨o,es,ep,ho,r⟩:=hm
  exact⟨o,es,ep,k _ o (Ne.symm hL) ho,r⟩
 ·refine(I.hok b u e).stay (fun c v hc q=>k c v ?_ q) (fun _ q=>q) fun _ _ q=>q
  rcases hc with z | z
  ·rw [z];exact nit b u e
  ·exact nit c _ z
theorem Inv.tok (I:Inv X pins σ H s) (t:Nat):Inv X pins σ H { s with toks:=t }:=I.un (h':=s.heap) (t':=t) Un.refl I.hok
theorem Inv.kept {t':Nat}(I:Inv X pins σ H s) (k:∀ b u,s.heap.get? b=some u→h'.get? b=some u):Inv X pins σ H { s with heap:=h',toks:=t' }:=I.un (Un.kept k) (I.hok.kept k)
theorem Inv.laid {a:Addr}{o:HO}{t':Nat}(I:Inv X pins σ H s) (k:∀ b u,s.heap.get? b=some u→h'.get? b=some u) (hp:s.heap.objs.size≤a) (new:ObjOk X.prog X.w (upd H a o) h' a o):
  Inv X pins σ (upd H a o) { s with heap:=h',toks:=t' }:=I.un (Un.laid k hp (I.hok.fresh hp)) (I.hok.laid k hp new)
theorem Inv.write {x e:Addr}{o:HO}{t':Nat}(I:Inv X pins σ H s) (mu:Mut (H x)) (he:e=x∨H e=some (.own x)) (k:∀ b u,b≠e→s.heap.get? b=some u→h'.get? b=some u) (heo:∃ u,h'.get? e=some u)
  (new:ObjOk X.prog X.w (upd H x o) h' x o):Inv X pins σ (upd H x o) { s with heap:=h',toks:=t' }:=I.un (Un.write mu he k heo) (I.hok.write mu he k heo new)
theorem Inv.weak {σ':List (Option V)} (I:Inv X pins σ H s) (hl:σ'.length=σ.length) (w:∀ (i:Nat) v,σ'[i]?=some (some v)→σ[i]?=some (some v)):Inv X pins σ' H s:=
 ⟨I.ok,I.os,I.bare,I.base,let ⟨m,hn,hl'⟩:=I.loc;⟨m,hn,fun i x v e1 e2 e3=>hl' i x v e1 (w i v e2) e3⟩,I.cell,I.free,I.freeC,I.pin,I.hok,hl.trans I.len⟩
def Calm (X:Cx):Prop:=X.calm=true∨∃ (ea C:Addr) (dx:Option Addr) (vs:Array Value) (sl:Array (Option Value)),X.A.handled=some (.ref ea)∧vs[2]?=some Value.none∧(ea,(⟨.ref C,dx,.fields vs,sl⟩:Obj))∈X.pn
theorem calm0 {X:Cx}(h:X.calm=true):Calm X:=.inl h
theorem Inv.calm (I:Inv X pins σ H s) (c:Calm X):Hd X.A s.heap:=by
 rcases c with c | ⟨ea,C,dx,vs,sl,h1,h2,h3⟩
 ·exact .inl (I.ok.hd c)
 ·exact .inr ⟨ea,C,dx,vs,sl,h1,(I.pin _ (List.mem_append_left _ h3)).1,h2⟩
theorem Inv.pins_of {pins':List (Addr × Obj)} (I:Inv X pins σ H s) (h:∀ p∈pins',s.heap.get? p.1=some p.2∧H p.1=none∧p.1≠X.env.locals∧p.1 ∉ X.fs∧∀ v,p.2.data≠.cell v):Inv X pins' σ H s:=
 ⟨I.ok,I.os,I.bare,I.base,I.loc,I.cell,I.free,I.freeC,fun p hp=>(List.mem_append.mp hp).elim (fun z=>I.pin p (List.mem_append_left _ z)) (h p),I.hok,I.len⟩
theorem nodup_ix {N:List Str}(hN:N.Nodup){i j:Nat}{x:Str}(a:N[i]?=some x) (b:N[j]?=some x):i=j:=by
 obtain⟨h1,e1⟩:=List.getElem?_eq_some_iff.mp a
 obtain⟨h2,e2⟩:=List.getElem?_eq_some_iff.mp b
 exact(List.getElem_inj hN).mp (e1.trans e2.symm)
theorem store_ok2 {M:Model}{A:Around}{E:Value→Shared→Prop}{i:Nat}{x:Str}{v:V}{u:Value}{Q:Unit→Shared→Prop}(I:Inv X pins σ H s) (hN:X.N.Nodup) (hi:X.N[i]?=some x) (hx:Loc X.env.scope x) (r:RelV v u)
  (h:∀ s',Inv X pins (σ.set i (some v)) H s'→(∃ a,Heap.SameBut a s.heap s'.heap∧(a=X.env.locals∨X.env.cells.lookup x=some a))→Q () s') (hf:X.fn x=true∨X.env.scope.names.lookup x=some .local:=by first | exact .inl rfl | exact .inr rfl | assumption):wpAny M A (storeName X.env x u) Q E s:=by
 obtain⟨m,hn,hl⟩:=id I.loc
 have hcls:(X.env.scope.kind == .class || (X.env.scope.kind == .module && X.env.locals != X.env.globals))=false:=by rw [I.ok.kind];rfl
 have hiσ:i < σ.length:=by rw [I.len];exact(List.getElem?_eq_some_iff.mp hi).1
 have cne:=I.cne
 have tracked:∀ {a:Addr}{h':Heap},(∃ o,s.heap.get? a=some o∧H a=none)→Heap.SameBut a s.heap h'→HOk X.prog X.w H h':=fun{a h'} ha hs b ob e=>by
  obtain⟨_,_,hfree⟩:=ha
  refine(I.hok b ob e).stay (fun c w' hc q=>(hs.2 c ?_).trans q) (fun _ q=>q) fun _ _ q=>q
  rintro rfl
  rcases hc with rfl | hc
  ·rw [hfree] at e;cases e
  ·rw [hfree] at hc;cases hc
 rcases hx with hk | hk
 ·refine wpAny_storeName_local hk hn (fun h' hn' hs=>?_) hcls
  obtain⟨oL,_,_,hoL,_⟩:=id hn
  refine h _ ⟨I.ok,I.os,I.bare,⟨fun b o e n hb hx=>?_,fun b o e n hb hx=>?_,I.base.free,fun b o e hx=>?_,I.base.tups,I.base.frzs,I.base.tbls⟩,⟨_,hn',fun j y v' e1 e2 e3=>?_⟩,fun y c e=>?_,I.free,I.freeC,fun p hp=>?_,tracked ⟨oL,hoL,I.free⟩ hs,by simpa using I.len⟩ ⟨_,hs,.inl rfl⟩
  ·exact(hs.2 b (Nat.ne_of_lt (Nat.lt_of_lt_of_le (Heap.lt_size e) I.ok.above))).trans (I.base.keep b o e n hb hx)
  ·obtain⟨sl,e1⟩:=I.base.slot b o e n hb hx
   exact⟨sl,(hs.2 b (Nat.ne_of_lt (Nat.lt_of_lt_of_le (Heap.lt_size e) I.ok.above))).trans e1⟩
  ·obtain⟨o',e1⟩:=I.base.there b o e hx
   exact⟨o',(hs.2 b (Nat.ne_of_lt (Nat.lt_of_lt_of_le (Heap.lt_size e) I.ok.above))).trans e1⟩
  ·by_cases hj:j=i
   ·subst hj
    rw [hi] at e1;cases e1
    rw [List.getElem?_set_self hiσ] at e2
    cases e2
    exact⟨u,r,.inl ⟨hk,by simp⟩⟩
   ·rw [List.getElem?_set_ne (Ne.symm hj)] at e2
    obtain⟨u',r',q⟩:=hl j y v' e1 e2 e3
    refine⟨u',r',?_⟩
    rcases q with ⟨k,e⟩ | ⟨k,c,e,z⟩
    ·refine .inl ⟨k,?_⟩
     have:y≠x:=fun e=>hj (nodup_ix hN e1 (e ▸ hi))
     simp [this,e]
    ·exact .inr ⟨k,c,e,z.sameBut hs (cne y c e)⟩
  ·obtain⟨w',z⟩:=I.cell y c e
   exact⟨w',z.sameBut hs (cne y c e)⟩
  ·obtain⟨e,n,ne,nf,d⟩:=I.pin p hp
   exact⟨(hs.2 p.1 ne).trans e,n,ne,nf,d⟩
 ·have hfn:X.fn x=true:=by
   rcases hf with z | z
   ·exact z
   ·rw [z] at hk;cases hk
  obtain⟨c,hc⟩:=I.ok.has x (.inl hk)
  obtain⟨w',z⟩:=I.cell x c hc
  refine wpAny_storeName_cell I.ok.kind hk hc z (fun h' hc' hs=>?_)
  obtain⟨oc,hoc,hocd⟩:=id z
  refine h { s with heap:=h' } ⟨I.ok,I.os,I.bare,⟨fun b o e n hb hx=>?_,fun b o e n hb hx=>?_,I.base.free,fun b o e hx=>?_,I.base.tups,I.base.frzs,I.base.tbls⟩,⟨m,hn.sameBut hs (Ne.symm (cne x c hc)),fun j y v' e1 e2 e3=>?_⟩,fun y c' e=>?_,I.free,I.freeC,fun p hp=>?_,tracked ⟨oc,hoc,I.freeC x c hc⟩ hs,by simpa using I.len⟩ ⟨c,hs,.inr hc⟩
  ·exact(hs.2 b (Nat.ne_of_lt (Nat.lt_of_lt_of_le (Heap.lt_size e) (I.ok.cab x c hfn hc)))).trans (I.base.keep b o e n hb hx)
  ·obtain⟨sl,e1⟩:=I.base.slot b o e n hb hx
   exact⟨sl,(hs.2 b (Nat.ne_of_lt (Nat.lt_of_lt_of_le (Heap.lt_size e) (I.ok.cab x c hfn hc)))).trans e1⟩
  ·obtain⟨o',e1⟩:=I.base.there b o e hx
   exact⟨o',(hs.2 b (Nat.ne_of_lt (Nat.lt_of_lt_of_le (Heap.lt_size e) (I.ok.cab x c hfn hc)))).trans e1⟩
  ·by_cases hj:j=i
   ·subst hj
    rw [hi] at e1;cases e1
    rw [List.getElem?_set_self hiσ] at e2
    cases e2
    exact⟨u,r,.inr ⟨.inl hk,c,hc,hc'⟩⟩
   ·rw [List.getElem?_set_ne (Ne.symm hj)] at e2
    obtain⟨u',r',q⟩:=hl j y v' e1 e2 e3
    refine⟨u',r',?_⟩
    rcases q with q | ⟨k,c',e,z'⟩
    ·exact .inl q
    ·refine .inr ⟨k,c',e,z'.sameBut hs ?_⟩
     rintro rfl
     exact hj (nodup_ix hN e1 (I.ok.inj _ _ _ e hc ▸ hi))
  ·by_cases hcc:c'=c
   ·subst hcc;exact⟨_,hc'⟩
   ·obtain⟨w2,z2⟩:=I.cell y c' e
    exact⟨w2,z2.sameBut hs hcc⟩
  ·obtain⟨e,n,ne,nf,d⟩:=I.pin p hp
   refine⟨(hs.2 p.1 ?_).trans e,n,ne,nf,d⟩
   intro q
   rw [q,hoc] at e
   have q':oc=p.2:=Option.some.inj e
   exact d w' (by rw [← q'];exact hocd)
theorem store_ok {M:Model}{A:Around}{E:Value→Shared→Prop}{i:Nat}{x:Str}{v:V}{u:Value}{Q:Unit→Shared→Prop}(I:Inv X pins σ H s) (hN:X.N.Nodup) (hi:X.N[i]?=some x) (hx:Loc X.env.scope x) (r:RelV v u)
  (h:∀ s',Inv X pins (σ.set i (some v)) H s'→Q () s') (hf:X.fn x=true∨X.env.scope.names.lookup x=some .local:=by first | exact .inl rfl | exact .inr rfl | assumption):wpAny M A (storeName X.env x u) Q E s:=
 store_ok2 I hN hi hx r (fun s' I' _=>h s' I') hf
theorem Inv.call' {s':Shared}{ch:List Addr}(I:Inv X pins σ H s) (ho:s'.os=s.os) (u:Un (frs X.stack) ch H H' s.heap s'.heap) (hok:HOk X.prog X.w H' s'.heap) (hg:AllBare s'.gens)
  (hch:∀ b∈ch,(b∈X.ex∨X.s₀.heap.objs.size≤b)∧b≠X.env.locals∧(∀ x c,X.env.cells.lookup x=some c→c≠b)∧∀ p∈X.pn++pins,p.1≠b):Inv X pins σ H' s':=by
 obtain⟨h',g',d',t',o'⟩:=s'
 have e:o'=s.os:=ho
 subst e
 exact I.call (g':=g') (t':=t') (d':=d') u hok hg hch
end
abbrev XK:=Value→Option Addr→Hp→Prop
abbrev St:=List (Option V)
abbrev VK:=V→Hp→Prop
abbrev TE:=St→Hp→VK→Prop
abbrev TT:=St→Hp→(Bool→Hp→Prop)→Prop
abbrev TA:=St→Hp→(List V→Hp→Prop)→Prop
structure Ends where
 nx:St→Hp→Prop
 rt:VK
 bk:St→Hp→Prop:=fun _ _=>False
 ct:St→Hp→Prop:=fun _ _=>False
abbrev TS:=Ends→St→Hp→Prop
def EP (X:Cx) (pins:List (Addr × Obj)) (σ:St) (Q:VK) (u:Value) (s':Shared):Prop:=∃ v H',Inv X pins σ H' s'∧RelV v u∧Q v H'
def TP (X:Cx) (pins:List (Addr × Obj)) (σ:St) (Q:Bool→Hp→Prop) (b:Bool) (s':Shared):Prop:=∃ H',Inv X pins σ H' s'∧Q b H'
def AP (X:Cx) (pins:List (Addr × Obj)) (σ:St) (Q:List V→Hp→Prop) (us:List Value) (s':Shared):Prop:=∃ vs H',Inv X pins σ H' s'∧Vals vs us∧Q vs H'
def SP (X:Cx) (pins:List (Addr × Obj)) (D:Ends) (f:Flow) (s':Shared):Prop:=
 match f with
 | .next=>∃ σ' H',Inv X pins σ' H' s'∧D.nx σ' H'
 | .brk=>∃ σ' H',Inv X pins σ' H' s'∧D.bk σ' H'
 | .cont=>∃ σ' H',Inv X pins σ' H' s'∧D.ct σ' H'
 | .ret u=>∃ v σ' H',Inv X pins σ' H' s'∧RelV v u∧D.rt v H'
def PE (X:Cx) (e:Expr) (t:TE):Prop:=
 ∀ (pins:List (Addr × Obj)) (s:Shared) (σ:St) (H:Hp) (Q:VK),Inv X pins σ H s→t σ H Q→wpAny (model X.prog X.w) X.A (eval e X.env) (EP X pins σ Q) X.xe s
def PT (X:Cx) (e:Expr) (t:TT):Prop:=
 ∀ (pins:List (Addr × Obj)) (s:Shared) (σ:St) (H:Hp) (Q:Bool→Hp→Prop),Inv X pins σ H s→t σ H Q→wpAny (model X.prog X.w) X.A (isTrue e X.env (eval e X.env)) (TP X pins σ Q) X.xe s
def PW (X:Cx) (e:Expr) (t:TT):Prop:=
 ∀ (whole:Sem Value) (pins:List (Addr × Obj)) (s:Shared) (σ:St) (H:Hp) (Q:Bool→Hp→Prop),Inv X pins σ H s→t σ H Q→wpAny (model X.prog X.w) X.A (isTrue e X.env whole) (TP X pins σ Q) X.xe s
theorem PW.pt {X:Cx}{e:Expr}{t:TT}(h:PW X e t):PT X e t:=h _
def PA (X:Cx) (es:List Expr) (t:TA):Prop:=
 ∀ (pos:Pos) (pins:List (Addr × Obj)) (s:Shared) (σ:St) (H:Hp) (Q:List V→Hp→Prop),Inv X pins σ H s→t σ H Q→wpAny (model X.prog X.w) X.A (spliced (backTo pos (starEach es X.env))) (AP X pins σ Q) X.xe s
def PS (X:Cx) (st:Stmt) (t:TS):Prop:=
 ∀ (pins:List (Addr × Obj)) (s:Shared) (σ:St) (H:Hp) (D:Ends),Inv X pins σ H s→t D σ H→wpAny (model X.prog X.w) X.A (exec st X.env) (SP X pins D) X.xe s
def PSs (X:Cx) (st:List Stmt) (t:TS):Prop:=
 ∀ (pins:List (Addr × Obj)) (s:Shared) (σ:St) (H:Hp) (D:Ends),Inv X pins σ H s→t D σ H→wpAny (model X.prog X.w) X.A (execs st X.env) (SP X pins D) X.xe s
theorem thn {α:Type}{t:Sem α}{Q Q':α→Shared→Prop}{M:Model}{A:Around}{E:Value→Shared→Prop}{s:Shared}(h:wpAny M A t Q E s) (hQ:∀ a s,Q a s→Q' a s):wpAny M A t Q' E s:=wpAny_mono h hQ fun _ _ x=>x
end L2
namespace L2
open PySem PySem.Spec PyProof.Rows
section
variable {X:Cx}
def tVar (i:Nat):TE:=fun σ H Q=>∃ v,σ[i]?=some (some v)∧Q v H
def tC (v:V):TE:=fun _ H Q=>Q v H
theorem pe_var {i:Nat}{x:Str}{pos:Pos}(hN:X.N[i]?=some x) (hv:Vis X.env.scope x) (hd:(x == ("__debug__":Str))=false:=by decide) (hcd:(x == ("__classdict__":Str))=false:=by decide):PE X (.Name x pos) (tVar i):=by
 intro pins s σ H Q I h
 obtain⟨v,e,h⟩:=h
 obtain⟨m,hn,hl⟩:=I.loc
 obtain⟨u,r,l⟩:=hl i x v hN e hv
 have fin:EP X pins σ Q u s:=⟨v,H,I,r,h⟩
 rcases l with ⟨hk,hm⟩ | ⟨hk,c,hc,hcell⟩
 ·exact wpAny_Name (wpAny_loadName_local I.ok.kind hk hn hm fin) hd
 ·rcases hk with hk | hk
  ·exact wpAny_Name (wpAny_loadName_cell I.ok.kind hk hc hcell fin) hd
  ·exact wpAny_Name (wpAny_loadName_free I.ok.kind hk hc hcell fin hcd) hd
theorem pe_int {i j pos}:PE X (.Constant (.int i) j pos) (tC (.int i)):=fun _ _ _ H _ I h=>wpAny_Constant_int ⟨.int i,H,I.tok _,⟨_,rfl⟩,h⟩
theorem pe_bl {b j pos}:PE X (.Constant (.bool b) j pos) (tC (.bl b)):=fun _ _ _ H _ I h=>Constant_bool ⟨.bl b,H,I,rfl,h⟩
theorem pe_non {j pos}:PE X (.Constant .none j pos) (tC .non):=fun _ _ _ H _ I h=>Constant_none ⟨.non,H,I,rfl,h⟩
theorem pe_str {x j pos}:PE X (.Constant (.str x) j pos) (tC (.str x)):=fun _ _ _ H _ I h=>Calls.Constant_str ⟨.str x,H,I.tok _,⟨_,rfl⟩,h⟩
def Gl (X:Cx) (x:Str):Prop:=X.env.kindOf x=some .globalImplicit
theorem ld_glob {E:Value→Shared→Prop}{pins:List (Addr × Obj)}{s:Shared}{σ:St}{H:Hp}{x:Str}{u:Value}{pos:Pos}{Q:Value→Shared→Prop}(I:Inv X pins σ H s) (hg:Gl X x) (hm:X.mg x=some u) (h:Q u s)
  (hd:(x == ("__debug__":Str))=false:=by decide):wpAny (model X.prog X.w) X.A (eval (.Name x pos) X.env) Q E s:=
 Calls.Name_function_global I.ok.kind hg (Calls.loadGlobal_global (by rw [I.ok.glob];exact I.mod.glob.keeps I.bk) hm h) hd
theorem ld_blt {E:Value→Shared→Prop}{pins:List (Addr × Obj)}{s:Shared}{σ:St}{H:Hp}{x:Str}{u:Value}{pos:Pos}{Q:Value→Shared→Prop}(I:Inv X pins σ H s) (hg:Gl X x) (hm:X.mg x=none) (hv:bootBuiltins x=some u) (h:Q u s)
  (hn:x≠"__name__":=by decide) (hd:(x == ("__debug__":Str))=false:=by decide):wpAny (model X.prog X.w) X.A (eval (.Name x pos) X.env) Q E s:=by
 obtain⟨mb,h1,h2⟩:=I.mod.blt
 exact Calls.Name_function_global I.ok.kind hg (Calls.loadGlobal_builtin (by rw [I.ok.glob];exact I.mod.glob.keeps I.bk) hm (by rw [I.ok.blt];exact h1.keeps I.bk) ((h2 x hn).trans hv) h) hd
theorem pe_glob {x:Str}{v:V}{u:Value}{pos:Pos}(hg:Gl X x) (hm:X.mg x=some u) (r:RelV v u) (hd:(x == ("__debug__":Str))=false:=by decide):PE X (.Name x pos) (tC v):=
 fun _ _ _ H _ I h=>ld_glob I hg hm ⟨v,H,I,r,h⟩ hd
theorem pe_bltn {x:Str}{v:V}{u:Value}{pos:Pos}(hg:Gl X x) (hm:X.mg x=none) (hv:bootBuiltins x=some u) (r:RelV v u) (hn:x≠"__name__":=by decide) (hd:(x == ("__debug__":Str))=false:=by decide):PE X (.Name x pos) (tC v):=
 fun _ _ _ H _ I h=>ld_blt I hg hm hv ⟨v,H,I,r,h⟩ hn hd
variable {a b:Expr}{ta tb:TE}{pos:Pos}
def PC (X:Cx) (op:CmpOp) (a b:Expr) (t:TE):Prop:=
 ∀ (pins:List (Addr × Obj)) (s:Shared) (σ:St) (H:Hp) (Q:VK),Inv X pins σ H s→t σ H Q→
  wpAny (model X.prog X.w) X.A (eval a X.env) (fun v s₁=>wpAny (model X.prog X.w) X.A (eval b X.env) (fun u s₂=>wpAny (model X.prog X.w) X.A (compareOp op v u) (EP X pins σ Q) X.xe s₂) X.xe s₁) X.xe s
theorem nobehind (b:Expr){op:CmpOp}(h:op≠.In) (h2:op≠.NotIn):behindInMarks op b=false:=by
 have e1:(op == CmpOp.In)=false:=by cases op <;> first | rfl | exact absurd rfl h
 have e2:(op == CmpOp.NotIn)=false:=by cases op <;> first | rfl | exact absurd rfl h2
 cases b <;> simp [behindInMarks,e1,e2]
def tB (t:TE):TT:=fun σ H Q=>t σ H fun x H1=>∃ c,x=.bl c∧Q c H1
theorem pe_cmp {op:CmpOp}{t:TE}(h:PC X op a b t) (h1:behindInMarks op b=false:=by first | exact nobehind _ (by decide) (by decide) | rfl):PE X (.Compare a [op] [b] pos) t:=fun pins s σ H Q I hw=>wpAny_Compare1 (h pins s σ H Q I hw) h1
theorem pt_cmp {op:CmpOp}{t:TE}(h:PC X op a b t) (h1:behindInMarks op b=false:=by first | exact nobehind _ (by decide) (by decide) | rfl):PT X (.Compare a [op] [b] pos) (tB t):=by
 intro pins s σ H Q I hw
 refine wpAny_isTrue_Compare1 (thn (h pins s σ H _ I hw) fun v s1 h1=>thn h1 fun u s2 h2=>thn h2 fun c s3 ⟨x,H1,I1,r1,q1⟩=>?_) h1
 obtain⟨d,rfl,q⟩:=q1
 cases r1
 exact wpAny_truthy_bool ⟨H1,I1,q⟩
theorem pt_val {e:Expr}{t:TE}(h:PE X e t) (he:∀ whole,isTrue e X.env whole=(do let v ← whole;standAt e.pos;holding [v] (truthy v)):=by intro _;rfl):PT X e (tB t):=by
 intro pins s σ H Q I hw
 refine isTrue_plain (thn (h pins s σ H _ I hw) fun v s1 ⟨x,H1,I1,r1,q1⟩=>?_) (he _)
 obtain⟨d,rfl,q⟩:=q1
 cases r1
 exact wpAny_truthy_bool ⟨H1,I1,q⟩
variable {tA tB':TT}{rest:List Expr}
def tAnd (t u:TT):TT:=fun σ H Q=>t σ H fun c H1=>if c=true then u σ H1 Q else Q false H1
def tOr (t u:TT):TT:=fun σ H Q=>t σ H fun c H1=>if c=true then Q true H1 else u σ H1 Q
def tNot (t:TT):TT:=fun σ H Q=>t σ H fun c H1=>Q (!c) H1
theorem pw_and1 (ha:PT X a tA):PW X (.BoolOp .And [a] pos) tA:=by
 intro wh pins s σ H Q I h
 refine isTrue_and (thn (ha pins s σ H Q I h) fun c s1 e=>?_)
 cases c with
 | true=>exact isTrue_and_nil e
 | false=>exact e
theorem pw_or1 (ha:PT X a tA):PW X (.BoolOp .Or [a] pos) tA:=by
 intro wh pins s σ H Q I h
 refine isTrue_or (thn (ha pins s σ H Q I h) fun c s1 e=>?_)
 cases c with
 | false=>exact isTrue_or_nil e
 | true=>exact e
theorem pw_and (ha:PT X a tA) (hb:PW X (.BoolOp .And (b::rest) pos) tB'):PW X (.BoolOp .And (a::b::rest) pos) (tAnd tA tB'):=by
 intro wh pins s σ H Q I h
 refine isTrue_and (thn (ha pins s σ H _ I h) fun c s1 ⟨H1,I1,q1⟩=>?_)
 cases c with
 | true=>exact hb wh pins s1 σ H1 Q I1 q1
 | false=>exact⟨H1,I1,q1⟩
theorem pw_or (ha:PT X a tA) (hb:PW X (.BoolOp .Or (b::rest) pos) tB'):PW X (.BoolOp .Or (a::b::rest) pos) (tOr tA tB'):=by
 intro wh pins s σ H Q I h
 refine isTrue_or (thn (ha pins s σ H _ I h) fun c s1 ⟨H1,I1,q1⟩=>?_)
 cases c with
 | true=>exact⟨H1,I1,q1⟩
 | false=>exact hb wh pins s1 σ H1 Q I1 q1
theorem pt_not (ha:PT X a tA):PT X (.UnaryOp .Not a pos) (tNot tA):=by
 intro pins s σ H Q I h
 exact isTrue_not (ha pins s σ H (fun c H1=>Q (!c) H1) I h)
def tAndV (ta tb:TE):TE:=fun σ H Q=>ta σ H fun x H1=>∃ c,x=.bl c∧if c=true then tb σ H1 Q else Q (.bl false) H1
def tOrV (ta tb:TE):TE:=fun σ H Q=>ta σ H fun x H1=>∃ c,x=.bl c∧if c=true then Q (.bl true) H1 else tb σ H1 Q
def tNotV (ta:TE):TE:=fun σ H Q=>ta σ H fun x H1=>∃ c,x=.bl c∧Q (.bl (!c)) H1
theorem pe_one {op}{t:TE}(h:PE X a t):PE X (.BoolOp op [a] pos) t:=fun pins s σ H Q I hw=>BoolOp_one (h pins s σ H Q I hw)
theorem pe_and (ha:PE X a ta) (hb:PE X (.BoolOp .And (b::rest) pos) tb):PE X (.BoolOp .And (a::b::rest) pos) (tAndV ta tb):=by
 intro pins s σ H Q I h
 refine BoolOp_and (thn (ha pins s σ H _ I h) fun v s1 ⟨x,H1,I1,r1,q1⟩=>?_)
 obtain⟨c,rfl,q1⟩:=q1
 cases r1
 refine wpAny_truthy_bool ?_
 cases c with
 | true=>exact hb pins s1 σ H1 Q I1 q1
 | false=>exact⟨.bl false,H1,I1,rfl,q1⟩
theorem pe_or (ha:PE X a ta) (hb:PE X (.BoolOp .Or (b::rest) pos) tb):PE X (.BoolOp .Or (a::b::rest) pos) (tOrV ta tb):=by
 intro pins s σ H Q I h
 refine BoolOp_or (thn (ha pins s σ H _ I h) fun v s1 ⟨x,H1,I1,r1,q1⟩=>?_)
 obtain⟨c,rfl,q1⟩:=q1
 cases r1
 refine wpAny_truthy_bool ?_
 cases c with
 | false=>exact hb pins s1 σ H1 Q I1 q1
 | true=>exact⟨.bl true,H1,I1,rfl,q1⟩
theorem pe_not (ha:PE X a ta):PE X (.UnaryOp .Not a pos) (tNotV ta):=by
 intro pins s σ H Q I h
 refine UnaryOp_ (thn (ha pins s σ H _ I h) fun v s1 ⟨x,H1,I1,r1,q1⟩=>?_)
 obtain⟨c,rfl,q1⟩:=q1
 cases r1
 exact not_of (wpAny_truthy_bool ⟨.bl (!c),H1,I1,rfl,q1⟩)
def tIf (t:TT) (ta tb:TE):TE:=fun σ H Q=>t σ H fun c H1=>if c=true then ta σ H1 Q else tb σ H1 Q
theorem pe_ifExp {c:Expr}(hc:PT X c tA) (ha:PE X a ta) (hb:PE X b tb):PE X (.IfExp c a b pos) (tIf tA ta tb):=by
 intro pins s σ H Q I h
 refine wpAny_IfExp (thn (hc pins s σ H _ I h) fun d s1 ⟨H1,I1,q1⟩=>?_)
 cases d with
 | true=>exact ha pins s1 σ H1 Q I1 q1
 | false=>exact hb pins s1 σ H1 Q I1 q1
end
end L2
namespace L2
open PySem PySem.Spec PyProof.Rows
def SqL (K:PySem.W.Frag) (H:Hp) (a:Addr) (xs:List V):Prop:=
 Rd H a (.lst xs)∨
  ∃ (o:Obj) (its:Array Value) (n:Nat),K.lookup a=some o∧o.cls=.type "list"∧o.dict=none∧o.data=.seq its n∧its.size≤sizeLine∧Vals xs its.toList
def SqT (K:PySem.W.Frag) (H:Hp) (a:Addr) (xs:List V):Prop:=
 Rd H a (.tup xs)∨
  ∃ (o:Obj) (its:Array Value) (n:Nat),K.lookup a=some o∧o.cls=.type "tuple"∧o.data=.seq its n∧its.size≤sizeLine∧Vals xs its.toList
def absV:Value→Option V
 | .none=>some .non
 | .bool b=>some (.bl b)
 | .int i _=>some (.int i)
 | .str x _=>some (.str x)
 | .bytes b _=>some (.byt b)
 | .float b _=>some (.flt b)
 | .ref a=>some (.ref a)
 | .type n=>some (.ty n)
 | _=>none
theorem RelV.abs {x:V}{u:Value}(r:RelV x u):absV u=some x:=by
 cases x with
 | non=>cases r;rfl
 | bl _=>cases r;rfl
 | int _=>obtain⟨t,rfl⟩:=r;rfl
 | str _=>obtain⟨t,rfl⟩:=r;rfl
 | byt _=>obtain⟨t,rfl⟩:=r;rfl
 | flt _=>obtain⟨t,rfl⟩:=r;rfl
 | ref _=>cases r;rfl
 | ty _=>cases r;rfl
theorem RelV.inj {x y:V}{u:Value}(r:RelV x u) (q:RelV y u):x=y:=Option.some.inj (r.abs.symm.trans q.abs)
theorem Vals.inj:∀ {xs ys:List V}{us:List Value},Vals xs us→Vals ys us→xs=ys
 | _,_,_,.nil,.nil=>rfl
 | _,_,_,.cons r t,.cons r' t'=>by rw [r.inj r',Vals.inj t t']
section
variable {X:Cx}{pins:List (Addr × Obj)}{σ:St}{H:Hp}{s:Shared}{a:Addr}{xs ys:List V}
theorem SqL.of {K:PySem.W.Frag}(h:H a=some (.lst xs)):SqL K H a xs:=.inl (.inl h)
theorem SqT.of {K:PySem.W.Frag}(h:H a=some (.tup xs)):SqT K H a xs:=.inl (.inl h)
theorem Inv.list (I:Inv X pins σ H s) (h:SqL X.K H a xs):∃ its:List Value,Vals xs its∧PlainL s.heap a its.toArray∧xs.length≤sizeLine:=by
 rcases h with h | ⟨o,its,n,hk,hc,hd,hs,hz,r⟩
 ·obtain⟨z,its,n,r,e⟩:=h.ok I.hok
  exact⟨its,r,⟨_,n,e,rfl,rfl,rfl⟩,z⟩
 ·refine⟨its.toList,r,⟨o,n,I.kIn a o hk,hc,hd,by simpa using hs⟩,?_⟩
  have e:=r.length
  simp only [Array.length_toList] at e
  omega
theorem Inv.tuple (I:Inv X pins σ H s) (h:SqT X.K H a xs):∃ its:List Value,Vals xs its∧IsTup s.heap a its.toArray∧xs.length≤sizeLine:=by
 rcases h with h | ⟨o,its,n,hk,hc,hs,hz,r⟩
 ·obtain⟨z,its,r,p⟩:=h.ok I.hok
  exact⟨its,r,p,z⟩
 ·refine⟨its.toList,r,⟨o,I.kIn a o hk,hc,n,by simpa using hs⟩,?_⟩
  have e:=r.length
  simp only [Array.length_toList] at e
  omega
theorem Inv.list_inj (I:Inv X pins σ H s) (h:SqL X.K H a xs) (h':SqL X.K H a ys):xs=ys:=by
 obtain⟨its,r,⟨o,n,e,_,_,d⟩,_⟩:=I.list h
 obtain⟨its',r',⟨o',n',e',_,_,d'⟩,_⟩:=I.list h'
 rw [e] at e';cases e'
 rw [d] at d'
 injection d' with d1 _
 have:its=its':=by simpa using congrArg Array.toList d1
 subst this
 exact r.inj r'
end
abbrev Cx.wish (X:Cx) (E:Value→Shared→Prop):Cx:={ X with xe:=E }
abbrev Cx.nox (X:Cx):Cx:=X.wish fun _ _=>False
theorem Cx.Ok.wish {X:Cx}(ok:X.Ok) (E:Value→Shared→Prop):(X.wish E).Ok:=
 ⟨ok.mod,ok.kind,ok.glob,ok.blt,ok.above,ok.inj,ok.has,ok.cab,ok.hd,ok.frames,ok.stk,ok.exf,ok.bs,ok.bsz,ok.noex,ok.exfs,ok.funs,ok.frf⟩
theorem Cx.Ok.unwish {X:Cx}{E:Value→Shared→Prop}(ok:(X.wish E).Ok):X.Ok:=
 ⟨ok.mod,ok.kind,ok.glob,ok.blt,ok.above,ok.inj,ok.has,ok.cab,ok.hd,ok.frames,ok.stk,ok.exf,ok.bs,ok.bsz,ok.noex,ok.exfs,ok.funs,ok.frf⟩
section
variable {X:Cx}{pins:List (Addr × Obj)}{σ:St}{H:Hp}{s:Shared}{E:Value→Shared→Prop}
theorem Inv.wish (I:Inv X pins σ H s) (E:Value→Shared→Prop):Inv (X.wish E) pins σ H s:=⟨I.ok.wish E,I.os,I.bare,I.base,I.loc,I.cell,I.free,I.freeC,I.pin,I.hok,I.len⟩
theorem Inv.unwish (I:Inv (X.wish E) pins σ H s):Inv X pins σ H s:=⟨I.ok.unwish,I.os,I.bare,I.base,I.loc,I.cell,I.free,I.freeC,I.pin,I.hok,I.len⟩
theorem SP.unwish {D:Ends}{f:Flow}{s':Shared}(h:SP (X.wish E) pins D f s'):SP X pins D f s':=by
 cases f with
 | next=>obtain⟨σ',H',I,q⟩:=h;exact⟨σ',H',I.unwish,q⟩
 | brk=>obtain⟨σ',H',I,q⟩:=h;exact⟨σ',H',I.unwish,q⟩
 | cont=>obtain⟨σ',H',I,q⟩:=h;exact⟨σ',H',I.unwish,q⟩
 | ret u=>obtain⟨v,σ',H',I,r,q⟩:=h;exact⟨v,σ',H',I.unwish,r,q⟩
theorem PSs.nox {st:List Stmt}{t:TS}(h:PSs X.nox st t):PSs X st t:=fun pins s σ H D I hw=>
 wpAny_mono (h pins s σ H D (I.wish _) hw) (fun _ _ q=>q.unwish) fun _ _ z=>False.elim z
end
section
variable {X:Cx}{st:Stmt}{rest:List Stmt}{t u:TS}{e:Expr}{te:TE}{pos:Pos}
def tNext:TS:=fun D σ H=>D.nx σ H
def tSeq (t u:TS):TS:=fun D σ H=>t { D with nx:=u D } σ H
theorem pss_nil:PSs X [] tNext:=fun _ _ σ H _ I h=>wpAny_execs_nil ⟨σ,H,I,h⟩
theorem pss_cons (h1:PS X st t) (h2:PSs X rest u):PSs X (st::rest) (tSeq t u):=by
 intro pins s σ H D I h
 refine wpAny_execs_cons (thn (h1 pins s σ H { D with nx:=u D } I h) fun f s1 q=>?_)
 cases f with
 | next=>
  obtain⟨σ',H',I',q⟩:=q
  exact h2 pins s1 σ' H' D I' q
 | ret v=>exact q
 | brk=>exact q
 | cont=>exact q
theorem pss_one (h1:PS X st t):PSs X [st] t:=by
 intro pins s σ H D I h
 refine wpAny_execs_cons (thn (h1 pins s σ H D I h) fun f s1 q=>?_)
 cases f with
 | next=>exact wpAny_execs_nil q
 | ret v=>exact q
 | brk=>exact q
 | cont=>exact q
def tBreak:TS:=fun D σ H=>D.bk σ H
def tCont:TS:=fun D σ H=>D.ct σ H
theorem ps_break:PS X (.Break pos) tBreak:=fun _ _ σ H _ I h=>wpAny_Break ⟨σ,H,I,h⟩
theorem ps_continue:PS X (.Continue pos) tCont:=fun _ _ σ H _ I h=>wpAny_Continue ⟨σ,H,I,h⟩
theorem Inv.quiet {pins:List (Addr × Obj)}{σ:St}{H:Hp}{s:Shared}(I:Inv X pins σ H s):interactive X.env=false:=by simp [interactive,I.ok.kind]
def tDrop (te:TE):TS:=fun D σ H=>te σ H fun _ H1=>D.nx σ H1
theorem ps_expr (he:PE X e te) (hs:swapsWith e none pos.line X.env=pure false:=by rfl):PS X (.Expr e pos) (tDrop te):=by
 intro pins s σ H D I h
 exact wpAny_Expr_any (thn (he pins s σ H _ I h) fun v s1 ⟨x,H1,I1,r1,q1⟩=>⟨σ,H1,I1,q1⟩) I.quiet hs
def tRet (te:TE):TS:=fun D σ H=>te σ H D.rt
theorem ps_ret (he:PE X e te):PS X (.Return (some e) pos) (tRet te):=by
 intro pins s σ H D I h
 exact wpAny_Return_some (thn (he pins s σ H _ I h) fun v s1 ⟨x,H1,I1,r1,q1⟩=>⟨x,σ,H1,I1,r1,q1⟩)
def tIfS (c:TT) (t u:TS):TS:=fun D σ H=>c σ H fun b H1=>if b=true then t D σ H1 else u D σ H1
theorem ps_if {c:Expr}{a b:List Stmt}{tc:TT}(hc:PT X c tc) (ha:PSs X a t) (hb:PSs X b u):PS X (.If c a b pos) (tIfS tc t u):=by
 intro pins s σ H D I h
 refine wpAny_If (thn (hc pins s σ H _ I h) fun d s1 ⟨H1,I1,q1⟩=>?_)
 cases d with
 | true=>exact ha pins s1 σ H1 D I1 q1
 | false=>exact hb pins s1 σ H1 D I1 q1
def tNever:TS:=fun _ _ _=>False
theorem pss_never {sts:List Stmt}:PSs X sts tNever:=fun _ _ _ _ _ _ h=>h.elim
end
abbrev TG:=V→St→Hp→(St→Hp→Prop)→Prop
abbrev TGs:=List V→St→Hp→(St→Hp→Prop)→Prop
def PG (X:Cx) (target:Expr) (t:TG):Prop:=
 ∀ (pins:List (Addr × Obj)) (s:Shared) (σ:St) (H:Hp) (v:V) (u:Value) (Q:St→Hp→Prop),Inv X pins σ H s→RelV v u→t v σ H Q→
  wpAny (model X.prog X.w) X.A (assign target X.env u) (fun _ s'=>∃ σ' H',Inv X pins σ' H' s'∧Q σ' H') X.xe s
def PGs (X:Cx) (ts:List Expr) (t:TGs):Prop:=
 ∀ (pins:List (Addr × Obj)) (s:Shared) (σ:St) (H:Hp) (vs:List V) (us:List Value) (Q:St→Hp→Prop),Inv X pins σ H s→Vals vs us→t vs σ H Q→
  wpAny (model X.prog X.w) X.A (assignInOrder ((assignEach ts X.env).map (·.2)) us) (fun _ s'=>∃ σ' H',Inv X pins σ' H' s'∧Q σ' H') X.xe s
abbrev TSet:=V→V→V→Hp→(Hp→Prop)→Prop
def PSet (X:Cx) (t:TSet):Prop:=
 ∀ (pins:List (Addr × Obj)) (s:Shared) (σ:St) (H:Hp) (o i v:V) (ov iv u:Value) (Q:Hp→Prop),Inv X pins σ H s→RelV o ov→RelV i iv→RelV v u→t o i v H Q→
  wpAny (model X.prog X.w) X.A (setItem ov iv u) (fun _ s'=>∃ H',Inv X pins σ H' s'∧Q H') X.xe s
abbrev TIp:=V→V→Hp→VK→Prop
def PIp (X:Cx) (op:Operator) (t:TIp):Prop:=
 ∀ (pins:List (Addr × Obj)) (s:Shared) (σ:St) (H:Hp) (x y:V) (v u:Value) (Q:VK),Inv X pins σ H s→RelV x v→RelV y u→t x y H Q→
  wpAny (model X.prog X.w) X.A (inplaceOp op v u) (EP X pins σ Q) X.xe s
section
variable {X:Cx}{pos:Pos}
def gName (i:Nat):TG:=fun v σ H Q=>Q (σ.set i (some v)) H
theorem pg_name {i:Nat}{x:Str}(hN:X.N.Nodup) (hi:X.N[i]?=some x) (hx:Loc X.env.scope x) (hf:X.fn x=true∨X.env.scope.names.lookup x=some .local:=by first | exact .inl rfl | exact .inr rfl | assumption):PG X (.Name x pos) (gName i):=by
 intro pins s σ H v u Q I r h
 exact wpAny_assign_Name (store_ok I hN hi hx r (fun s' I'=>⟨_,H,I',h⟩) hf)
def gNil:TGs:=fun vs σ H Q=>vs=[]∧Q σ H
def gCons (t:TG) (u:TGs):TGs:=fun vs σ H Q=>∃ v r,vs=v::r∧t v σ H fun σ' H'=>u r σ' H' Q
theorem pgs_nil:PGs X [] gNil:=by
 intro pins s σ H vs us Q I r h
 obtain⟨e,h⟩:=h
 subst e
 cases r
 exact assignInOrder_nil ⟨σ,H,I,h⟩
theorem pgs_cons {e:Expr}{es:List Expr}{t:TG}{u:TGs}(h1:PG X e t) (h2:PGs X es u)
  (hs:(assignEach (e::es) X.env).map (·.2)=assign e X.env::(assignEach es X.env).map (·.2):=by rfl):PGs X (e::es) (gCons t u):=by
 intro pins s σ H vs us Q I r h
 obtain⟨v,vr,e1,h⟩:=h
 subst e1
 cases r with
 | cons r rr=>
  rw [hs]
  refine assignInOrder_cons (thn (h1 pins s σ H _ _ _ I r h) fun _ s1 ⟨σ1,H1,I1,q1⟩=>?_)
  exact h2 pins s1 σ1 H1 _ _ Q I1 rr q1
def gTup (K:PySem.W.Frag) (n:Nat) (t:TGs):TG:=fun v σ H Q=>∃ a xs,v=.ref a∧SqT K H a xs∧xs.length=n∧t xs σ H Q
theorem pg_tup {es:List Expr}{k:Nat}{t:TGs}{n:Nat}(hc:Calm X) (h:PGs X es t)
  (hn:(assignEach es X.env).length=n:=by rfl) (hst:(assignEach es X.env).findIdx? (·.1)=none:=by rfl):PG X (.Tuple es k pos) (gTup X.K n t):=by
 intro pins s σ H v u Q I r hw
 obtain⟨a,xs,e1,hq,hl,hw⟩:=hw
 subst e1
 cases r
 obtain⟨its,rv,ht,hz⟩:=I.tuple hq
 refine z309 (I.calm hc) ht (by simp [hn,← hl,rv.length]) hst fun h' hx=>?_
 have I1:Inv X pins σ H { s with heap:=h' }:=I.kept (t':=s.toks) fun b o e=>hx b o (Nat.ne_of_lt (Heap.lt_size e)) e
 exact h pins _ σ H xs _ Q I1 (by simpa using rv) hw
def gSub (to ti:TE) (t:TSet):TG:=fun v σ H Q=>to σ H fun o H1=>ti σ H1 fun i H2=>t o i v H2 fun H3=>Q σ H3
theorem pg_sub {o i:Expr}{to ti:TE}{t:TSet}(ho:PE X o to) (hi:PE X i ti) (hs:PSet X t)
  (ha:∀ v,assign (.Subscript o i pos) X.env v=(do
   let ov ← holding [v] (eval o X.env)
   let iv ← holding [v,ov] (eval i X.env)
   standAt pos
   holding [v,ov,iv] (setItem ov iv v)
   release [v,ov,iv] []):=by intro _;rfl):PG X (.Subscript o i pos) (gSub to ti t):=by
 intro pins s σ H v u Q I r h
 rw [ha]
 refine wpAny_bind (wpAny_holding (thn (ho pins s σ H _ I h) fun ov s1 ⟨x,H1,I1,r1,q1⟩=>?_))
 refine wpAny_bind (wpAny_holding (thn (hi pins s1 σ H1 _ I1 q1) fun iv s2 ⟨y,H2,I2,r2,q2⟩=>?_))
 refine wpAny_bind (wpAny_standAt (wpAny_bind (wpAny_holding (thn (hs pins s2 σ H2 x y v ov iv u _ I2 r1 r2 r q2) fun _ s3 ⟨H3,I3,q3⟩=>?_))))
 exact wpAny_release ⟨σ,H3,I3,q3⟩
def tAsg (te:TE) (g:TG):TS:=fun D σ H=>te σ H fun x H1=>g x σ H1 D.nx
theorem ps_asg {tg e:Expr}{te:TE}{g:TG}(he:PE X e te) (hg:PG X tg g) (hs:swapsWithSole [tg] e pos.line X.env=pure false:=by rfl) (hw:swappedStores [tg] e X.env=pure none:=by rfl)
  (h1:(assignEach [tg] X.env).map (·.2)=[assign tg X.env]:=by rfl):PS X (.Assign [tg] e pos) (tAsg te g):=by
 intro pins s σ H D I h
 refine wpAny_Assign_stores (thn (he pins s σ H _ I h) fun v s1 ⟨x,H1,I1,r1,q1⟩=>?_) hs hw
 rw [h1]
 exact thn (hg pins s1 σ H1 x v _ I1 r1 q1) fun _ s2 q=>q
theorem ps_set {i:Nat}{x:Str}{e:Expr}{te:TE}{pos':Pos}(hN:X.N.Nodup) (hi:X.N[i]?=some x) (hx:Loc X.env.scope x) (he:PE X e te) (hs:swapsWith e (some (.Name x pos')) pos.line X.env=pure false:=by rfl) (hf:X.fn x=true∨X.env.scope.names.lookup x=some .local:=by first | exact .inl rfl | exact .inr rfl | assumption):
  PS X (.Assign [.Name x pos'] e pos) (tAsg te (gName i)):=by
 intro pins s σ H D I h
 refine wpAny_Assign_Name (thn (he pins s σ H _ I h) fun v s1 ⟨y,H1,I1,r1,q1⟩=>?_) hs
 exact store_ok I1 hN hi hx r1 (fun s2 I2=>⟨_,H1,I2,q1⟩) hf
def tAug (i:Nat) (te:TE) (ti:TIp):TS:=fun D σ H=>∃ x,σ[i]?=some (some x)∧te σ H fun y H1=>ti x y H1 fun z H2=>D.nx (σ.set i (some z)) H2
theorem ps_aug {i:Nat}{x:Str}{e:Expr}{te:TE}{op:Operator}{ti:TIp}{pos':Pos}(hN:X.N.Nodup) (hi:X.N[i]?=some x) (hx:Loc X.env.scope x) (he:PE X e te) (ho:PIp X op ti) (hf:X.fn x=true∨X.env.scope.names.lookup x=some .local:=by first | exact .inl rfl | exact .inr rfl | assumption):
  PS X (.AugAssign (.Name x pos') op e pos) (tAug i te ti):=by
 intro pins s σ H D I h
 obtain⟨v,e1,h⟩:=h
 obtain⟨m,hn,hl⟩:=I.loc
 have vis:Vis X.env.scope x:=by rcases hx with k | k;exact .inl k;exact .inr (.inl k)
 obtain⟨u,r,l⟩:=hl i x v hi e1 vis
 refine wpAny_AugAssign_Name ?_
 have go:wpAny (model X.prog X.w) X.A (eval e X.env) (fun w s₂=>wpAny (model X.prog X.w) X.A (inplaceOp op u w) (fun r s₃=>wpAny (model X.prog X.w) X.A (storeName X.env x r) (fun _=>SP X pins D .next) X.xe s₃) X.xe s₂) X.xe s:=by
  refine thn (he pins s σ H _ I h) fun w s1 ⟨y,H1,I1,r1,q1⟩=>?_
  refine thn (ho pins s1 σ H1 v y u w _ I1 r r1 q1) fun z s2 ⟨zv,H2,I2,r2,q2⟩=>?_
  exact store_ok I2 hN hi hx r2 (fun s3 I3=>⟨_,H2,I3,q2⟩) hf
 rcases l with ⟨hk,hm⟩ | ⟨hk,c,hc,hcell⟩
 ·exact wpAny_loadName_local I.ok.kind hk hn hm go
 ·rcases hk with hk | hk
  ·exact wpAny_loadName_cell I.ok.kind hk hc hcell go
  ·rcases hx with k | k
   ·have:X.env.scope.names.lookup x=some .free:=hk
    rw [k] at this;cases this
   ·have:X.env.scope.names.lookup x=some .free:=hk
    rw [k] at this;cases this
def ipI (f:Int→Int→Int):TIp:=fun x y H Q=>∃ i j,x=.int i∧y=.int j∧Q (.int (f i j)) H
theorem ip_add:PIp X .Add (ipI fun i j=>i + j):=by
 intro pins s σ H x y v u Q I r1 r2 h
 obtain⟨i,j,e1,e2,q⟩:=h
 subst e1;subst e2
 obtain⟨t,rfl⟩:=r1
 obtain⟨t',rfl⟩:=r2
 exact iadd_int ⟨.int _,H,I.tok _,⟨_,rfl⟩,q⟩
end
section
variable {X:Cx}{pos:Pos}
def tWhile (c:TT) (tb:TS):TS:=fun D σ H=>∃ W:Nat→St→Hp→Prop,(∃ m,W m σ H)∧∀ m σ H,W m σ H→
 c σ H fun b H1=>if b=true then ∃ N:St→Hp→Prop,(∀ σ' H',N σ' H'→∃ m',m' < m∧W m' σ' H')∧tb { D with nx:=N,ct:=N,bk:=D.nx } σ H1 else D.nx σ H1
theorem ps_while {c:Expr}{body:List Stmt}{tc:TT}{tb:TS}(hp:PassesOwn (model X.prog X.w) X.A X.env X.xe) (hc:PT X c tc) (hb:PSs X body tb):PS X (.While c body [] pos) (tWhile tc tb):=by
 intro pins s σ H D I h
 obtain⟨W,⟨m0,w0⟩,turn⟩:=h
 refine wpAny_While (codeAny_whileLoop (fun n s'=>∃ σ' H',Inv X pins σ' H' s'∧W n σ' H') ?_ m0 ⟨σ,H,I,w0⟩)
 rintro n s1 ⟨σ1,H1,I1,w1⟩
 refine wpAny_passesOwn hp (thn (hc pins s1 σ1 H1 _ I1 (turn n σ1 H1 w1)) fun b s2 ⟨H2,I2,q2⟩=>?_)
 cases b with
 | true=>
  obtain⟨N,hN,q2⟩:=q2
  rw [if_pos rfl]
  refine wpAny_passesOwn hp (thn (hb pins s2 σ1 H2 _ I2 q2) fun f s3 q3=>?_)
  cases f with
  | next=>
   obtain⟨σ3,H3,I3,n3⟩:=q3
   obtain⟨m',hm,w3⟩:=hN σ3 H3 n3
   exact⟨m',hm,σ3,H3,I3,w3⟩
  | cont=>
   obtain⟨σ3,H3,I3,n3⟩:=q3
   obtain⟨m',hm,w3⟩:=hN σ3 H3 n3
   exact⟨m',hm,σ3,H3,I3,w3⟩
  | brk=>exact q3
  | ret v=>exact q3
 | false=>
  rw [if_neg Bool.false_ne_true]
  exact wpAny_execs_nil ⟨σ1,H2,I2,q2⟩
end
structure It where
 go:Nat→Hp→Prop
 yld:Nat→Hp→V→Hp→Prop
 stop:Nat→Hp→Prop
def FpOk (X:Cx) (pins:List (Addr × Obj)) (H:Hp) (b:Addr):Prop:=
 H b=none∧b≠X.env.locals∧b ∉ X.fs∧(b∈X.ex∨X.s₀.heap.objs.size≤b)∧(∀ x c,X.env.cells.lookup x=some c→c≠b)∧∀ p∈X.pn++pins,p.1≠b
theorem Inv.fpOk {X:Cx}{pins:List (Addr × Obj)}{σ:St}{H H':Hp}{s:Shared}{b:Addr}(I:Inv X pins σ H s) (hb:s.heap.objs.size≤b) (hn:H' b=none):FpOk X pins H' b:=by
 refine⟨hn,Nat.ne_of_gt (Nat.lt_of_lt_of_le I.lt hb),I.nofs hb,.inr (Nat.le_trans I.sz hb),fun x c e z=>?_,fun p hp z=>?_⟩
 ·obtain⟨v,q⟩:=I.cell x c e
  exact absurd (Nat.lt_of_lt_of_le q.lt (by rw [z];exact hb)) (Nat.lt_irrefl _)
 ·exact absurd (Nat.lt_of_lt_of_le (Heap.lt_size (I.pin p hp).1) (by rw [z];exact hb)) (Nat.lt_irrefl _)
structure Turn (P:Program) (w:World) (K:PySem.W.Frag) (tg:Expr) (J:It) (fp:List Addr) (it:Addr) (tn:Nat→Heap→Prop):Prop where
 mem:it∈fp
 obj:∀ i h,tn i h→∀ b∈fp,∃ o,h.get? b=some o∧∀ v,o.data≠.cell v
 keep:∀ i h h',tn i h→(∀ b∈fp,∀ o,h.get? b=some o→h'.get? b=some o)→tn i h'
 item:∀ (X:Cx),X.prog=P→X.w=w→X.K=K→Calm X→∀ (i:Nat) (pins:List (Addr × Obj)) (s:Shared) (σ:St) (H:Hp) (E:Value→Shared→Prop),Inv X pins σ H s→(∀ b∈fp,FpOk X pins H b)→tn i s.heap→J.go i H→
  wpAny (model P w) X.A (pyNext (.ref it)) (fun r s1=>∃ u,r=some u∧
   wpAny (model P w) X.A (letOwnedTupleGo tg (.ref it) u) (fun _ s2=>∃ x H',Inv X pins σ H' s2∧RelV x u∧J.yld i H x H'∧tn (i + 1) s2.heap∧∀ b∈fp,H' b=none) E s1) E s
 done:∀ (X:Cx),X.prog=P→X.w=w→X.K=K→Calm X→∀ (i:Nat) (pins:List (Addr × Obj)) (s:Shared) (σ:St) (H:Hp) (E:Value→Shared→Prop),Inv X pins σ H s→(∀ b∈fp,FpOk X pins H b)→tn i s.heap→J.stop i H→
  wpAny (model P w) X.A (pyNext (.ref it)) (fun r s1=>r=none∧Inv X pins σ H s1) E s
 self:∀ (A:Around) (i:Nat) (s:Shared) (Q:Value→Shared→Prop) (E:Value→Shared→Prop),tn i s.heap→Q (.ref it) s→wpAny (model P w) A (pyIter (.ref it)) Q E s
abbrev TI:=St→Hp→(It→Hp→Prop)→Prop
def PIE (X:Cx) (pins:List (Addr × Obj)) (σ:St) (tg:Expr) (R:It→Hp→Prop) (itv:Value) (s2:Shared):Prop:=
 ∃ (it:Addr) (fp:List Addr) (tn:Nat→Heap→Prop) (J:It) (H':Hp),itv=.ref it∧Inv X pins σ H' s2∧Turn X.prog X.w X.K tg J fp it tn∧tn 0 s2.heap∧(∀ b∈fp,FpOk X pins H' b)∧R J H'
def PI (X:Cx) (tg iter:Expr) (wi:TI):Prop:=
 ∀ (pins:List (Addr × Obj)) (s:Shared) (σ:St) (H:Hp) (R:It→Hp→Prop),Inv X pins σ H s→wi σ H R→
  wpAny (model X.prog X.w) X.A (eval iter X.env) (fun v s1=>wpAny (model X.prog X.w) X.A (pyIter v) (PIE X pins σ tg R) X.xe s1) X.xe s
theorem go_of {M:Model}{A:Around}{E:Value→Shared→Prop}{s:Shared}{tg:Expr}{it:Addr}{u:Value}{o:Obj}{n:String}{vs:Array Value}{Q:Unit→Shared→Prop}(ho:s.heap.get? it=some o) (hc:o.cls=.type n) (hd:o.data=.fields vs)
  (hn:["enumerate","zip","dict_itemiterator","dict_reverseitemiterator","odict_iterator","itertools.zip_longest","itertools.pairwise"].contains n=false) (hQ:Q () s):wpAny M A (letOwnedTupleGo tg (.ref it) u) Q E s:=by
 unfold letOwnedTupleGo
 cases tg <;> first
  | exact wpAny_pure hQ
  | (cases u <;> first
    | exact wpAny_pure hQ
    | (
      refine wpAny_bind (wpAny_load ho ?_)
      rw [hc,hd]
      show wpAny M A (if (["enumerate","zip","dict_itemiterator","dict_reverseitemiterator","odict_iterator","itertools.zip_longest","itertools.pairwise"].contains n && vs[0]? == some (rawInt _))=true then _ else _) Q E s
      rw [if_neg (by intro h;rw [hn,Bool.false_and] at h;cases h)]
      exact wpAny_pure hQ))
def Itl (K:PySem.W.Frag) (a:Addr):It:=
 ⟨fun i H=>∃ xs x,SqL K H a xs∧xs[i]?=some x,fun i H x H'=>H'=H∧∀ xs,SqL K H a xs→xs[i]?=some x,fun i H=>∃ xs,SqL K H a xs∧xs.length≤i⟩
def Itr (lo:Int) (n:Nat):It:=⟨fun i _=>i < n,fun i H x H'=>H'=H∧x=.int (lo + i),fun i _=>n≤i⟩
theorem turn_list {P:Program}{w:World}{K:PySem.W.Frag}{tg:Expr}(a it:Addr):Turn P w K tg (Itl K a) [it] it (fun i h=>h.IsListIter it a i) where
 mem:=by simp
 obj:=fun i h st b hb=>by
  have e:b=it:=by simpa using hb
  subst e
  obtain⟨o,e,c,d⟩:=st
  exact⟨o,e,fun v z=>by rw [d] at z;cases z⟩
 keep:=fun i h h' st k=>st.at fun o e=>k it (by simp) o e
 item:=by
  intro X hP hw hK hc i pins s σ H E I hf st hg
  subst hP hw hK
  obtain⟨xs,x,hq,hx⟩:=hg
  obtain⟨its,rv,p,hz⟩:=I.list hq
  obtain⟨u,hu,ru⟩:=rv.get hx
  obtain⟨f0,f1,f2,f3,f4,f5⟩:=hf it (by simp)
  refine wpAny_pyNext_list_item st p.isList (x:=u) (by simpa using hu) fun h' st' sb=>?_
  have I1:Inv X pins σ H { s with heap:=h' }:=I.turned (t':=s.toks) (fun b o hb e=>(sb.2 b hb).trans e) f0 f1 f3 f4 f5
  obtain⟨o,e,c,d⟩:=id st'
  exact⟨u,rfl,go_of (s:={ s with heap:=h' }) e c d (by decide) ⟨x,H,I1,ru,⟨rfl,fun ys hy=>by rw [I.list_inj hy hq];exact hx⟩,st',fun b hb=>(hf b hb).1⟩⟩
 done:=by
  intro X hP hw hK hc i pins s σ H E I hf st hg
  subst hP hw hK
  obtain⟨xs,hq,hx⟩:=hg
  obtain⟨its,rv,p,hz⟩:=I.list hq
  obtain⟨f0,f1,f2,f3,f4,f5⟩:=hf it (by simp)
  have hl:=rv.length
  exact z587 (I.calm hc) st p.isList (by simp;omega) fun h' eb=>⟨rfl,I.turned (t':=s.toks) (fun b o hb e=>eb b o hb e) f0 f1 f3 f4 f5⟩
 self:=fun _ _ _ _ _ st h=>wpAny_pyIter_listiter st h
theorem turn_range {P:Program}{w:World}{K:PySem.W.Frag}{tg:Expr}(it:Addr) (lo:Int) (n:Nat):Turn P w K tg (Itr lo n) [it] it (fun i h=>IsRangeIter h it (lo + (i:Nat) * 1) ((n:Int) - (i:Nat)) 1) where
 mem:=by simp
 obj:=fun i h st b hb=>by
  have e:b=it:=by simpa using hb
  subst e
  exact⟨_,st,fun v z=>by
   have z':Data.fields _=Data.cell v:=z
   cases z'⟩
 keep:=fun i h h' st k=>k it (by simp) _ st
 item:=by
  intro X hP hw hK hc i pins s σ H E I hf st hg
  subst hP hw hK
  obtain⟨f0,f1,f2,f3,f4,f5⟩:=hf it (by simp)
  refine wpAny_pyNext_range_item st (by have:i < n:=hg;omega) fun h' st2 sb=>?_
  have st':IsRangeIter h' it (lo + ((i + 1:Nat):Int) * 1) ((n:Int) - ((i + 1:Nat):Int)) 1:=by
   rw [show lo + ((i + 1:Nat):Int) * 1=lo + (i:Nat) * 1 + 1 by omega,show (n:Int) - ((i + 1:Nat):Int)=n - (i:Nat) - 1 by omega]
   exact st2
  have I1:Inv X pins σ H { s with heap:=h',toks:=s.toks + 1 }:=I.turned (fun b o hb e=>(sb.2 b hb).trans e) f0 f1 f3 f4 f5
  refine⟨_,rfl,go_of (s:={ s with heap:=h',toks:=s.toks + 1 }) (n:="range_iterator") st' rfl rfl (by decide) ⟨.int (lo + i),H,I1,⟨s.toks,?_⟩,⟨rfl,rfl⟩,st',fun b hb=>(hf b hb).1⟩⟩
  rw [Int.mul_one]
 done:=by
  intro X hP hw hK hc i pins s σ H E I hf st hg
  subst hP hw hK
  obtain⟨f0,f1,f2,f3,f4,f5⟩:=hf it (by simp)
  exact z533 (I.calm hc) st (by have:n≤i:=hg;omega) fun h' eb=>⟨rfl,I.turned (t':=s.toks) (fun b o hb e=>eb b o hb e) f0 f1 f3 f4 f5⟩
 self:=fun _ _ _ _ _ st h=>wpAny_pyIter_rangeiter st h
end L2
namespace L2
open PySem PySem.Spec PyProof.Rows
section
variable {X:Cx}{tg:Expr}
def iList (K:PySem.W.Frag) (tl:TE):TI:=fun σ H R=>tl σ H fun x H1=>∃ a,x=.ref a∧(∃ xs,SqL K H1 a xs)∧R (Itl K a) H1
theorem pi_list {l:Expr}{tl:TE}(hl:PE X l tl):PI X tg l (iList X.K tl):=by
 intro pins s σ H R I h
 refine thn (hl pins s σ H _ I h) fun v s1 ⟨x,H1,I1,r1,q1⟩=>?_
 obtain⟨a,e,⟨xs,hq⟩,q⟩:=q1
 subst e
 cases r1
 obtain⟨its,rv,p,hz⟩:=I1.list hq
 refine wpAny_pyIter_list p.isList ?_
 refine⟨s1.heap.objs.size,[s1.heap.objs.size],_,_,H1,rfl,I1.kept (t':=s1.toks) fun b o e=>Heap.get?_push_of_some _ e,turn_list a _,⟨_,Heap.get?_push_size _ rfl,rfl,rfl⟩,fun b hb=>?_,q⟩
 have e:b=s1.heap.objs.size:=by simpa using hb
 subst e
 exact I1.fpOk (Nat.le_refl _) (I1.hok.fresh (Nat.le_refl _))
theorem range_it {pins:List (Addr × Obj)}{σ:St}{H:Hp}{s:Shared}{R:It→Hp→Prop}{E:Value→Shared→Prop}{lo hi:Int}{t u v:Tok}{tk:Nat}(I:Inv X pins σ H s) (h1:-(2 ^ 62)≤lo) (h2:lo < 2 ^ 62) (h3:-(2 ^ 62)≤hi) (h4:hi < 2 ^ 62)
  (q:R (Itr lo (hi - lo).toNat) H):wpAny (model X.prog X.w) X.A (pyIter (.ref s.heap.objs.size)) (PIE X pins σ tg R) E { s with heap:=s.heap.push { cls:=.type "range",data:=.fields #[.int lo t,.int hi u,.int 1 v] },toks:=tk }:=by
 refine wpAny_pyIter_range (IsRange.new ..) (small_one h1 h2 h3 h4) ?_
 have I1:Inv X pins σ H { s with heap:=s.heap.push { cls:=.type "range",data:=.fields #[.int lo t,.int hi u,.int 1 v] },toks:=tk }:=I.kept fun b o e=>Heap.get?_push_of_some _ e
 refine⟨(s.heap.push { cls:=.type "range",data:=.fields #[.int lo t,.int hi u,.int 1 v] }).objs.size,[(s.heap.push { cls:=.type "range",data:=.fields #[.int lo t,.int hi u,.int 1 v] }).objs.size],_,_,H,rfl,
  I1.kept (t':=tk) fun b o e=>Heap.get?_push_of_some _ e,turn_range _ lo (hi - lo).toNat,?_,fun b hb=>?_,q⟩
 ·have e1:lo + ((0:Nat):Int) * 1=lo:=by simp
  have e2:(((hi - lo).toNat:Nat):Int) - ((0:Nat):Int)=Builtin.Range.rangeSize lo hi 1:=by rw [rangeSize_one];split <;> omega
  show IsRangeIter _ _ (lo + ((0:Nat):Int) * 1) ((((hi - lo).toNat:Nat):Int) - ((0:Nat):Int)) 1
  rw [e1,e2]
  exact Heap.get?_push_size _ rfl
 ·have e:b=(s.heap.push { cls:=.type "range",data:=.fields #[.int lo t,.int hi u,.int 1 v] }).objs.size:=by simpa using hb
  subst e
  exact I1.fpOk (Nat.le_refl _) (I1.hok.fresh (Nat.le_refl _))
def iRng1 (ta:TA):TI:=fun σ H R=>ta σ H fun vs H1=>∃ j:Int,vs=[.int j]∧-(2 ^ 62)≤j∧j < 2 ^ 62∧R (Itr 0 j.toNat) H1
def iRng2 (ta:TA):TI:=fun σ H R=>ta σ H fun vs H1=>∃ i j:Int,vs=[.int i,.int j]∧(-(2 ^ 62)≤i∧i < 2 ^ 62∧-(2 ^ 62)≤j∧j < 2 ^ 62)∧R (Itr i (j - i).toNat) H1
theorem pi_range1 {a:Expr}{ta:TA}{p pos:Pos}(hg:Gl X "range") (hm:X.mg "range"=none) (ha:PA X [a] ta) (hs:starEach [a] X.env=[(false,eval a X.env)]:=by rfl):PI X tg (.Call (.Name "range" p) [a] [] pos) (iRng1 ta):=by
 intro pins s σ H R I h
 refine Call_ (ld_blt I hg hm boot_range (PyProof.Rows.callWith_type1 (thn (ha pos pins s σ H _ I h) fun us s1 ⟨vs,H1,I1,r1,q1⟩=>?_) hs rfl))
 obtain⟨j,e,q1,q2,q⟩:=q1
 subst e
 cases r1 with
 | cons r rr=>
  cases rr
  obtain⟨t,rfl⟩:=r
  exact call_range_1 (range_it I1 (by omega) (by omega) q1 q2 (by simpa using q))
theorem pi_range2 {a b:Expr}{ta:TA}{p pos:Pos}(hg:Gl X "range") (hm:X.mg "range"=none) (ha:PA X [a,b] ta) (hs:starEach [a,b] X.env=[(false,eval a X.env),(false,eval b X.env)]:=by rfl) (hs2:starEach [b] X.env=[(false,eval b X.env)]:=by rfl):
  PI X tg (.Call (.Name "range" p) [a,b] [] pos) (iRng2 ta):=by
 intro pins s σ H R I h
 refine Call_ (ld_blt I hg hm boot_range (PyProof.Rows.callWith_type1 (thn (ha pos pins s σ H _ I h) fun us s1 ⟨vs,H1,I1,r1,q1⟩=>?_) (by rw [hs,hs2]) (by rw [hs2];rfl)))
 obtain⟨i,j,e,⟨q1,q2,q3,q4⟩,q⟩:=q1
 subst e
 cases r1 with
 | cons r rr=>
  cases rr with
  | cons r' rr=>
   cases rr
   obtain⟨t,rfl⟩:=r
   obtain⟨t',rfl⟩:=r'
   exact call_range_2 (range_it I1 q1 q2 q3 q4 q)
def tFor (wi:TI) (g:TG) (tb:TS):TS:=fun D σ H=>wi σ H fun J H1=>∃ W:Nat→Nat→St→Hp→Prop,(∃ m,W 0 m σ H1)∧∀ i m σ H,W i m σ H→
 (J.stop i H∧D.nx σ H)∨(J.go i H∧∃ N:St→Hp→Prop,(∀ σ' H',N σ' H'→∃ m',m' < m∧W (i + 1) m' σ' H')∧∀ x H',J.yld i H x H'→g x σ H' fun σ2 H2=>tb { D with nx:=N,ct:=N,bk:=D.nx } σ2 H2)
def pinsAt (fp:List Addr) (h:Heap):List (Addr × Obj):=fp.filterMap fun b=>(h.get? b).map fun o=>(b,o)
theorem mem_pinsAt {fp:List Addr}{h:Heap}{b:Addr}{o:Obj}(hb:b∈fp) (e:h.get? b=some o):(b,o)∈pinsAt fp h:=List.mem_filterMap.mpr ⟨b,hb,by rw [e];rfl⟩
theorem of_pinsAt {fp:List Addr}{h:Heap}{p:Addr × Obj}(hp:p∈pinsAt fp h):p.1∈fp∧h.get? p.1=some p.2:=by
 obtain⟨b,hb,e⟩:=List.mem_filterMap.mp hp
 cases q:h.get? b with
 | none=>rw [q] at e;cases e
 | some o=>
  rw [q] at e
  have e':(b,o)=p:=Option.some.inj e
  subst e'
  exact⟨hb,q⟩
theorem Inv.pinned {pins:List (Addr × Obj)}{σ:St}{H:Hp}{s:Shared}{fp:List Addr}(I:Inv X pins σ H s) (hf:∀ b∈fp,FpOk X pins H b) (ho:∀ b∈fp,∃ o,s.heap.get? b=some o∧∀ v,o.data≠.cell v):Inv X (pins++pinsAt fp s.heap) σ H s:=
 I.pins_of fun p hp=>(List.mem_append.mp hp).elim (fun z=>I.pin p (List.mem_append_right _ z)) fun z=>by
  obtain⟨hb,e⟩:=of_pinsAt z
  obtain⟨f0,f1,f2,_⟩:=hf p.1 hb
  obtain⟨o,e',d⟩:=ho p.1 hb
  rw [e] at e';cases e'
  exact⟨e,f0,f1,f2,d⟩
theorem Inv.unpinned {pins pl:List (Addr × Obj)}{σ:St}{H:Hp}{s:Shared}(I:Inv X (pins++pl) σ H s):Inv X pins σ H s:=I.pins_of fun p hp=>I.pin p (List.mem_append_right _ (List.mem_append_left _ hp))
theorem ps_for {iter:Expr}{body:List Stmt}{wi:TI}{g:TG}{tb:TS}{pos:Pos}(hp:PassesOwn (model X.prog X.w) X.A X.env X.xe) (hc:Calm X) (hi:PI X tg iter wi) (hg:PG X tg g) (hb:PSs X body tb)
  (hs:∀ x,foldedSetIterable iter X.env x=pure x:=by intro _;rfl):PS X (.For tg iter body [] pos) (tFor wi g tb):=by
 intro pins s σ H D I h
 refine wpAny_For (thn (hi pins s σ H _ I h) fun v s1 h1=>thn h1 fun itv s2 h2=>?_) hs
 obtain⟨it,fp,tn,J,H2,e,I2,T,st2,f2,W,⟨m0,w0⟩,turn⟩:=h2
 subst e
 have stat:∀ {H':Hp},(∀ b∈fp,H' b=none)→∀ b∈fp,FpOk X pins H' b:=fun hn b hb=>⟨hn b hb,(f2 b hb).2⟩
 refine codeAny_forLoop_any (fun n s'=>∃ i σ' H',Inv X pins σ' H' s'∧tn i s'.heap∧(∀ b∈fp,H' b=none)∧W i n σ' H') ?_ m0 ⟨0,σ,H2,I2,st2,fun b hb=>(f2 b hb).1,w0⟩
 rintro n s3 ⟨i,σ3,H3,I3,st3,fr3,w3⟩
 rcases turn i n σ3 H3 w3 with ⟨stop,qn⟩ | ⟨go,N,hN,step⟩
 ·refine wpAny_passesOwn hp (thn (T.done X rfl rfl rfl hc i pins s3 σ3 H3 X.xe I3 (stat fr3) st3 stop) fun r s4 ⟨hr,I4⟩=>?_)
  subst hr
  exact wpAny_execs_nil ⟨σ3,H3,I4,qn⟩
 ·refine wpAny_passesOwn hp (thn (T.item X rfl rfl rfl hc i pins s3 σ3 H3 X.xe I3 (stat fr3) st3 go) fun r s4 ⟨u,hr,h4⟩=>?_)
  subst hr
  refine wpAny_passesOwn hp (thn h4 fun _ s5 ⟨x,H5,I5,r5,y5,st5,fr5⟩=>?_)
  have I5':=I5.pinned (stat fr5) (T.obj _ _ st5)
  refine wpAny_passesOwn hp (thn (hg _ s5 σ3 H5 x u _ I5' r5 (step x H5 y5)) fun _ s6 ⟨σ6,H6,I6,q6⟩=>?_)
  refine wpAny_passesOwn hp (thn (hb _ s6 σ6 H6 _ I6 q6) fun f s7 q7=>?_)
  have again:∀ {σ7:St}{H7:Hp},Inv X (pins++pinsAt fp s5.heap) σ7 H7 s7→N σ7 H7→∃ m,m < n∧∃ i σ' H',Inv X pins σ' H' s7∧tn i s7.heap∧(∀ b∈fp,H' b=none)∧W i m σ' H':=fun{σ7 H7} I7 n7=>by
   obtain⟨m',hm,w7⟩:=hN σ7 H7 n7
   refine⟨m',hm,i + 1,σ7,H7,I7.unpinned,T.keep _ _ _ st5 fun b hb o e=>(I7.pin (b,o) (List.mem_append_right _ (List.mem_append_right _ (mem_pinsAt hb e)))).1,fun b hb=>?_,w7⟩
   obtain⟨o,e,d⟩:=T.obj _ _ st5 b hb
   exact(I7.pin (b,o) (List.mem_append_right _ (List.mem_append_right _ (mem_pinsAt hb e)))).2.1
  cases f with
  | next=>obtain⟨σ7,H7,I7,n7⟩:=q7;exact again I7 n7
  | cont=>obtain⟨σ7,H7,I7,n7⟩:=q7;exact again I7 n7
  | brk=>obtain⟨σ7,H7,I7,q7⟩:=q7;exact⟨σ7,H7,I7.unpinned,q7⟩
  | ret v=>obtain⟨x7,σ7,H7,I7,r7,q7⟩:=q7;exact⟨x7,σ7,H7,I7.unpinned,r7,q7⟩
end
theorem for_list {K:PySem.W.Frag}{a:Addr}{xs:List V}{g:TG}{tb:TS}{D:Ends}{σ:St}{H:Hp}(Pv:Nat→St→Hp→Prop) (h0:Pv 0 σ H) (hl:∀ i σ H,i≤xs.length→Pv i σ H→SqL K H a xs)
  (hs:∀ i x σ H,xs[i]?=some x→Pv i σ H→g x σ H fun σ2 H2=>tb { D with nx:=Pv (i + 1),ct:=Pv (i + 1),bk:=D.nx } σ2 H2) (hd:∀ σ H,Pv xs.length σ H→D.nx σ H):
  ∃ W:Nat→Nat→St→Hp→Prop,(∃ m,W 0 m σ H)∧∀ i m σ H,W i m σ H→
   ((Itl K a).stop i H∧D.nx σ H)∨((Itl K a).go i H∧∃ N:St→Hp→Prop,(∀ σ' H',N σ' H'→∃ m',m' < m∧W (i + 1) m' σ' H')∧∀ x H',(Itl K a).yld i H x H'→g x σ H' fun σ2 H2=>tb { D with nx:=N,ct:=N,bk:=D.nx } σ2 H2):=by
 refine⟨fun i m σ H=>m=xs.length - i∧i≤xs.length∧Pv i σ H,⟨xs.length,by simp,Nat.zero_le _,h0⟩,?_⟩
 rintro i m σ H ⟨rfl,hi,p⟩
 have q:=hl i σ H hi p
 by_cases hlt:i < xs.length
 ·refine .inr ⟨⟨xs,xs[i],q,by simp [hlt]⟩,Pv (i + 1),fun σ' H' p'=>⟨xs.length - (i + 1),by omega,rfl,hlt,p'⟩,fun x H' y=>?_⟩
  obtain⟨e,y⟩:=y
  subst e
  exact hs i x σ _ (y xs q) p
 ·have e:i=xs.length:=by omega
  subst e
  exact .inl ⟨⟨xs,q,Nat.le_refl _⟩,hd σ H p⟩
theorem for_range {lo:Int}{n:Nat}{g:TG}{tb:TS}{D:Ends}{σ:St}{H:Hp}(Pv:Nat→St→Hp→Prop) (h0:Pv 0 σ H)
  (hs:∀ i σ H,i < n→Pv i σ H→g (.int (lo + i)) σ H fun σ2 H2=>tb { D with nx:=Pv (i + 1),ct:=Pv (i + 1),bk:=D.nx } σ2 H2) (hd:∀ σ H,Pv n σ H→D.nx σ H):
  ∃ W:Nat→Nat→St→Hp→Prop,(∃ m,W 0 m σ H)∧∀ i m σ H,W i m σ H→
   ((Itr lo n).stop i H∧D.nx σ H)∨((Itr lo n).go i H∧∃ N:St→Hp→Prop,(∀ σ' H',N σ' H'→∃ m',m' < m∧W (i + 1) m' σ' H')∧∀ x H',(Itr lo n).yld i H x H'→g x σ H' fun σ2 H2=>tb { D with nx:=N,ct:=N,bk:=D.nx } σ2 H2):=by
 refine⟨fun i m σ H=>m=n - i∧i≤n∧Pv i σ H,⟨n,by simp,Nat.zero_le _,h0⟩,?_⟩
 rintro i m σ H ⟨rfl,hi,p⟩
 by_cases hlt:i < n
 ·refine .inr ⟨hlt,Pv (i + 1),fun σ' H' p'=>⟨n - (i + 1),by omega,rfl,hlt,p'⟩,fun x H' y=>?_⟩
  obtain⟨e,y⟩:=y
  subst e y
  exact hs i σ _ hlt p
 ·have e:i=n:=by omega
  subst e
  exact .inl ⟨Nat.le_refl _,hd σ H p⟩
end L2
namespace L2
open PySem PySem.Spec PyProof.Rows
abbrev R2:=V→V→Hp→VK→Prop
def OpR (X:Cx) (f:Value→Value→Sem Value) (r:R2):Prop:=
 ∀ (pins:List (Addr × Obj)) (s:Shared) (σ:St) (H:Hp) (x y:V) (v u:Value) (Q:VK),Inv X pins σ H s→RelV x v→RelV y u→r x y H Q→
  wpAny (model X.prog X.w) X.A (f v u) (EP X pins σ Q) X.xe s
def UnR (X:Cx) (f:Value→Sem Value) (r:V→Hp→VK→Prop):Prop:=
 ∀ (pins:List (Addr × Obj)) (s:Shared) (σ:St) (H:Hp) (x:V) (v:Value) (Q:VK),Inv X pins σ H s→RelV x v→r x H Q→
  wpAny (model X.prog X.w) X.A (f v) (EP X pins σ Q) X.xe s
def CallR (X:Cx) (f:Value) (r:List V→Hp→VK→Prop):Prop:=
 ∀ (pins:List (Addr × Obj)) (s:Shared) (σ:St) (H:Hp) (xs:List V) (us:List Value) (Q:VK),Inv X pins σ H s→Vals xs us→r xs H Q→
  wpAny (model X.prog X.w) X.A (call f us) (EP X pins σ Q) X.xe s
def tOp (r:R2) (ta tb:TE):TE:=fun σ H Q=>ta σ H fun x H1=>tb σ H1 fun y H2=>r x y H2 Q
def tUn (r:V→Hp→VK→Prop) (ta:TE):TE:=fun σ H Q=>ta σ H fun x H1=>r x H1 Q
def rI (C:Int→Int→Prop) (g:Int→Int→V):R2:=fun x y H Q=>∃ i j,x=.int i∧y=.int j∧C i j∧Q (g i j) H
def rI0 (g:Int→Int→V):R2:=fun x y H Q=>∃ i j,x=.int i∧y=.int j∧Q (g i j) H
def rU (g:Int→V):V→Hp→VK→Prop:=fun x H Q=>∃ i,x=.int i∧Q (g i) H
section
variable {X:Cx}{a b c:Expr}{ta tb tc:TE}{pos:Pos}
theorem binT (ha:PE X a ta) (hb:PE X b tb){pins:List (Addr × Obj)}{s:Shared}{σ:St}{H:Hp}{R:V→V→Hp→Prop}(I:Inv X pins σ H s)
  (h:ta σ H fun x H1=>tb σ H1 fun y H2=>R x y H2){Q:Value→Shared→Prop}{f:Value→Value→Sem Value}
  (hf:∀ v u s2 x y H2,Inv X pins σ H2 s2→RelV x v→RelV y u→R x y H2→wpAny (model X.prog X.w) X.A (f v u) Q X.xe s2):
  wpAny (model X.prog X.w) X.A (eval a X.env) (fun v s₁=>wpAny (model X.prog X.w) X.A (eval b X.env) (fun u s₂=>wpAny (model X.prog X.w) X.A (f v u) Q X.xe s₂) X.xe s₁) X.xe s:=by
 refine thn (ha pins s σ H _ I h) fun v s1 ⟨x,H1,I1,r1,q1⟩=>?_
 refine thn (hb pins s1 σ H1 _ I1 q1) fun u s2 ⟨y,H2,I2,r2,q2⟩=>?_
 exact hf v u s2 x y H2 I2 r1 r2 q2
theorem pe_op {op:Operator}{r:R2}(ho:OpR X (binaryOp op) r) (ha:PE X a ta) (hb:PE X b tb):PE X (.BinOp a op b pos) (tOp r ta tb):=by
 intro pins s σ H Q I h
 exact wpAny_BinOp (binT ha hb I h fun v u s2 x y H2 I2 rx ry q=>ho pins s2 σ H2 x y v u Q I2 rx ry q)
theorem pe_un {op:UnaryOp}{r:V→Hp→VK→Prop}(ho:UnR X (unaryOp op) r) (ha:PE X a ta):PE X (.UnaryOp op a pos) (tUn r ta):=by
 intro pins s σ H Q I h
 exact UnaryOp_ (thn (ha pins s σ H _ I h) fun v s1 ⟨x,H1,I1,r1,q1⟩=>ho pins s1 σ H1 x v Q I1 r1 q1)
theorem opI {f:Value→Value→Sem Value}{C:Int→Int→Prop}{g:Int→Int→Int}
  (rule:∀ (i j:Int) (t u:Tok) (s:Shared) (Q:Value→Shared→Prop) (E:Value→Shared→Prop),C i j→Q (.int (g i j) s.toks) { s with toks:=s.toks + 1 }→wpAny (model X.prog X.w) X.A (f (.int i t) (.int j u)) Q E s):
  OpR X f (rI C fun i j=>.int (g i j)):=by
 intro pins s σ H x y v u Q I rx ry h
 obtain⟨i,j,rfl,rfl,hc,q⟩:=h
 obtain⟨t,rfl⟩:=rx
 obtain⟨t',rfl⟩:=ry
 exact rule i j t t' s _ _ hc ⟨.int (g i j),H,I.tok _,⟨_,rfl⟩,q⟩
theorem opI0 {f:Value→Value→Sem Value}{g:Int→Int→Int}
  (rule:∀ (i j:Int) (t u:Tok) (s:Shared) (Q:Value→Shared→Prop) (E:Value→Shared→Prop),Q (.int (g i j) s.toks) { s with toks:=s.toks + 1 }→wpAny (model X.prog X.w) X.A (f (.int i t) (.int j u)) Q E s):
  OpR X f (rI0 fun i j=>.int (g i j)):=by
 intro pins s σ H x y v u Q I rx ry h
 obtain⟨i,j,rfl,rfl,q⟩:=h
 obtain⟨t,rfl⟩:=rx
 obtain⟨t',rfl⟩:=ry
 exact rule i j t t' s _ _ ⟨.int (g i j),H,I.tok _,⟨_,rfl⟩,q⟩
theorem opB0 {f:Value→Value→Sem Value}{g:Int→Int→Bool}
  (rule:∀ (i j:Int) (t u:Tok) (s:Shared) (Q:Value→Shared→Prop) (E:Value→Shared→Prop),Q (.bool (g i j)) s→wpAny (model X.prog X.w) X.A (f (.int i t) (.int j u)) Q E s):
  OpR X f (rI0 fun i j=>.bl (g i j)):=by
 intro pins s σ H x y v u Q I rx ry h
 obtain⟨i,j,rfl,rfl,q⟩:=h
 obtain⟨t,rfl⟩:=rx
 obtain⟨t',rfl⟩:=ry
 exact rule i j t t' s _ _ ⟨.bl (g i j),H,I,rfl,q⟩
def CDiv (i j:Int):Prop:=0 < j∧j < 1073741824
def CMul (i j:Int):Prop:=(-(2 ^ 64) < i∧i < 2 ^ 64)∨(-(2 ^ 64) < j∧j < 2 ^ 64)
theorem CMul.ok {i j:Int}(h:CMul i j):IntMulOk i j:=by
 rcases h with ⟨h1,h2⟩ | ⟨h1,h2⟩
 ·exact .of_left (intBits_le_64 h1 h2)
 ·exact .of_right (intBits_le_64 h1 h2)
theorem op_add:OpR X (binaryOp .Add) (rI0 fun i j=>.int (i + j)):=opI0 fun _ _ _ _ _ _ _ q=>add_int q
theorem op_sub:OpR X (binaryOp .Sub) (rI0 fun i j=>.int (i - j)):=opI0 fun _ _ _ _ _ _ _ q=>sub_int q
theorem op_mul:OpR X (binaryOp .Mult) (rI CMul fun i j=>.int (i * j)):=opI fun _ _ _ _ _ _ _ hc q=>mul_int q hc.ok
theorem op_fdiv:OpR X (binaryOp .FloorDiv) (rI CDiv fun i j=>.int (i / j)):=opI fun i j _ _ _ _ _ hc q=>by
 have h1:(0:Int) < j:=hc.1
 have h2:j < 1073741824:=hc.2
 exact floordiv_int (by omega) (by rw [Int.fdiv_eq_ediv_of_nonneg i (by omega)];exact q) (.inl (PyProof.noPylong_small (by omega)))
theorem op_mod:OpR X (binaryOp .Mod) (rI (fun _ j=>0 < j) fun i j=>.int (i % j)):=opI fun i j _ _ _ _ _ hc q=>by
 have h1:(0:Int) < j:=hc
 exact mod_int' (by omega) (by rw [Int.fmod_eq_emod_of_nonneg i (by omega)];exact q)
theorem unI {f:Value→Sem Value}{g:Int→Int}
  (rule:∀ (i:Int) (t:Tok) (s:Shared) (Q:Value→Shared→Prop) (E:Value→Shared→Prop),Q (.int (g i) s.toks) { s with toks:=s.toks + 1 }→wpAny (model X.prog X.w) X.A (f (.int i t)) Q E s):
  UnR X f (rU fun i=>.int (g i)):=by
 intro pins s σ H x v Q I rx h
 obtain⟨i,rfl,q⟩:=h
 obtain⟨t,rfl⟩:=rx
 exact rule i t s _ _ ⟨.int (g i),H,I.tok _,⟨_,rfl⟩,q⟩
theorem un_neg:UnR X (unaryOp .USub) (rU fun i=>.int (-i)):=unI fun _ _ _ _ _ q=>neg_int q
end
def scal:V→V→Bool
 | .non,.non=>true | .non,.int _=>true | .int _,.non=>true | .non,.bl _=>true | .bl _,.non=>true | .non,.str _=>true | .str _,.non=>true
 | .int _,.int _=>true | .bl _,.bl _=>true | .str _,.str _=>true | .byt _,.byt _=>true
 | .int _,.str _=>true | .str _,.int _=>true | .bl _,.str _=>true | .str _,.bl _=>true
 | _,_=>false
def rEq:R2:=fun x y H Q=>scal x y=true∧Q (.bl (decide (x=y))) H
def rNe:R2:=fun x y H Q=>scal x y=true∧Q (.bl (!decide (x=y))) H
theorem dec_int {i j:Int}:decide (V.int i=V.int j)=(i == j):=by
 rw [Bool.eq_iff_iff]
 simp
theorem dec_bl {i j:Bool}:decide (V.bl i=V.bl j)=(i == j):=by
 rw [Bool.eq_iff_iff]
 simp
theorem dec_str {i j:Str}:decide (V.str i=V.str j)=(i == j):=by
 rw [Bool.eq_iff_iff]
 simp
theorem dec_byt {i j:Array UInt8}:decide (V.byt i=V.byt j)=(i.toList == j.toList):=by
 rw [Bool.eq_iff_iff]
 cases i
 cases j
 simp
section
variable {X:Cx}{a b c:Expr}{ta tb tc:TE}{pos:Pos}
theorem fin_bl {pins:List (Addr × Obj)}{σ:St}{H:Hp}{s:Shared}{Q:VK}{k k':Bool}(I:Inv X pins σ H s) (q:Q (.bl k) H) (e:k=k'):EP X pins σ Q (.bool k') s:=by
 subst e
 exact⟨.bl k,H,I,rfl,q⟩
theorem op_eq:OpR X (compareOp .Eq) rEq:=by
 intro pins s σ H x y v u Q I rx ry h
 obtain⟨hs,q⟩:=h
 cases x with
 | non=>
  cases rx
  cases y with
  | non=>cases ry;exact PySem.EqNone.eq_none_none (fin_bl I q (by simp))
  | bl j=>cases ry;exact PySem.EqNone.eq_none_bool (fin_bl I q (by simp))
  | int j=>obtain⟨t',rfl⟩:=ry;exact PySem.EqNone.eq_none_int (fin_bl I q (by simp))
  | str j=>obtain⟨t',rfl⟩:=ry;exact PySem.EqNone.eq_none_str (fin_bl I q (by simp))
  | _=>exact absurd (show false=true from hs) Bool.false_ne_true
 | bl i=>
  cases rx
  cases y with
  | non=>cases ry;exact PySem.EqNone.eq_bool_none (fin_bl I q (by simp))
  | bl j=>cases ry;exact eq_bool (fin_bl I q dec_bl)
  | str j=>obtain⟨t',rfl⟩:=ry;exact PySem.EqMixed.eq_bool_str (fin_bl I q (by simp))
  | _=>exact absurd (show false=true from hs) Bool.false_ne_true
 | int i=>
  obtain⟨t,rfl⟩:=rx
  cases y with
  | non=>cases ry;exact PySem.EqNone.eq_int_none (fin_bl I q (by simp))
  | int j=>obtain⟨t',rfl⟩:=ry;exact eq_int (fin_bl I q dec_int)
  | str j=>obtain⟨t',rfl⟩:=ry;exact PySem.EqMixed.eq_int_str (fin_bl I q (by simp))
  | _=>exact absurd (show false=true from hs) Bool.false_ne_true
 | str i=>
  obtain⟨t,rfl⟩:=rx
  cases y with
  | non=>cases ry;exact PySem.EqNone.eq_str_none (fin_bl I q (by simp))
  | bl j=>cases ry;exact PySem.EqMixed.eq_str_bool (fin_bl I q (by simp))
  | int j=>obtain⟨t',rfl⟩:=ry;exact PySem.EqMixed.eq_str_int (fin_bl I q (by simp))
  | str j=>obtain⟨t',rfl⟩:=ry;exact eq_str (fin_bl I q dec_str)
  | _=>exact absurd (show false=true from hs) Bool.false_ne_true
 | byt i=>
  obtain⟨t,rfl⟩:=rx
  cases y with
  | byt j=>obtain⟨t',rfl⟩:=ry;exact PySem.W.eq_bytes (fin_bl I q dec_byt)
  | _=>exact absurd (show false=true from hs) Bool.false_ne_true
 | _=>cases y <;> exact absurd (show false=true from hs) Bool.false_ne_true
theorem op_ne:OpR X (compareOp .NotEq) rNe:=by
 intro pins s σ H x y v u Q I rx ry h
 obtain⟨hs,q⟩:=h
 cases x with
 | non=>
  cases rx
  cases y with
  | non=>cases ry;exact PySem.EqNone.ne_none_none (fin_bl I q (by simp))
  | bl j=>cases ry;exact PySem.EqNone.ne_none_bool (fin_bl I q (by simp))
  | int j=>obtain⟨t',rfl⟩:=ry;exact PySem.EqNone.ne_none_int (fin_bl I q (by simp))
  | str j=>obtain⟨t',rfl⟩:=ry;exact PySem.EqNone.ne_none_str (fin_bl I q (by simp))
  | _=>exact absurd (show false=true from hs) Bool.false_ne_true
 | bl i=>
  cases rx
  cases y with
  | non=>cases ry;exact PySem.EqNone.ne_bool_none (fin_bl I q (by simp))
  | bl j=>cases ry;exact ne_bool (fin_bl I q (congrArg not dec_bl))
  | str j=>obtain⟨t',rfl⟩:=ry;exact PySem.EqMixed.ne_bool_str (fin_bl I q (by simp))
  | _=>exact absurd (show false=true from hs) Bool.false_ne_true
 | int i=>
  obtain⟨t,rfl⟩:=rx
  cases y with
  | non=>cases ry;exact PySem.EqNone.ne_int_none (fin_bl I q (by simp))
  | int j=>obtain⟨t',rfl⟩:=ry;exact ne_int (fin_bl I q (congrArg not dec_int))
  | str j=>obtain⟨t',rfl⟩:=ry;exact PySem.EqMixed.ne_int_str (fin_bl I q (by simp))
  | _=>exact absurd (show false=true from hs) Bool.false_ne_true
 | str i=>
  obtain⟨t,rfl⟩:=rx
  cases y with
  | non=>cases ry;exact PySem.EqNone.ne_str_none (fin_bl I q (by simp))
  | bl j=>cases ry;exact PySem.EqMixed.ne_str_bool (fin_bl I q (by simp))
  | int j=>obtain⟨t',rfl⟩:=ry;exact PySem.EqMixed.ne_str_int (fin_bl I q (by simp))
  | str j=>obtain⟨t',rfl⟩:=ry;exact ne_str (fin_bl I q (congrArg not dec_str))
  | _=>exact absurd (show false=true from hs) Bool.false_ne_true
 | byt i=>
  obtain⟨t,rfl⟩:=rx
  cases y with
  | byt j=>obtain⟨t',rfl⟩:=ry;exact PySem.W.ne_bytes (fin_bl I q (congrArg not dec_byt))
  | _=>exact absurd (show false=true from hs) Bool.false_ne_true
 | _=>cases y <;> exact absurd (show false=true from hs) Bool.false_ne_true
theorem op_lt:OpR X (compareOp .Lt) (rI0 fun i j=>.bl (decide (i < j))):=opB0 fun _ _ _ _ _ _ _ q=>lt_int q
theorem op_le:OpR X (compareOp .LtE) (rI0 fun i j=>.bl (decide (i≤j))):=opB0 fun _ _ _ _ _ _ _ q=>le_int q
theorem op_gt:OpR X (compareOp .Gt) (rI0 fun i j=>.bl (decide (j < i))):=opB0 fun _ _ _ _ _ _ _ q=>gt_int q
theorem op_ge:OpR X (compareOp .GtE) (rI0 fun i j=>.bl (decide (j≤i))):=opB0 fun _ _ _ _ _ _ _ q=>ge_int q
theorem op_in_str:OpR X (compareOp .In) (fun x y H Q=>∃ i j,x=.str i∧y=.str j∧Q (.bl (!(Builtin.Str.occurrences j i 0 j.length 1).isEmpty)) H):=by
 intro pins s σ H x y v u Q I rx ry h
 obtain⟨i,j,rfl,rfl,q⟩:=h
 obtain⟨t,rfl⟩:=rx
 obtain⟨t',rfl⟩:=ry
 exact in_str (fin_bl I q rfl)
theorem op_isN:OpR X (compareOp .Is) (fun x y H Q=>y=.non∧Q (.bl (decide (x=.non))) H):=by
 intro pins s σ H x y v u Q I rx ry h
 obtain⟨rfl,q⟩:=h
 cases ry
 refine is_none_gen (fin_bl I q ?_)
 cases x <;> first
  | (cases rx;rfl)
  | (obtain⟨t,rfl⟩:=rx;rfl)
theorem op_notN:OpR X (compareOp .IsNot) (fun x y H Q=>y=.non∧Q (.bl (!decide (x=.non))) H):=by
 intro pins s σ H x y v u Q I rx ry h
 obtain⟨rfl,q⟩:=h
 cases ry
 refine isnot_none_gen (fin_bl I q ?_)
 cases x <;> first
  | (cases rx;rfl)
  | (obtain⟨t,rfl⟩:=rx;rfl)
theorem nomark (b:Expr){op:CmpOp}(h:op≠.In:=by decide) (h2:op≠.NotIn:=by decide):behindInMarks op b=false:=by
 have e1:(op == CmpOp.In)=false:=by cases op <;> first | rfl | exact absurd rfl h
 have e2:(op == CmpOp.NotIn)=false:=by cases op <;> first | rfl | exact absurd rfl h2
 cases b <;> simp [behindInMarks,e1,e2]
theorem pe_cmpR {op:CmpOp}{r:R2}(ho:OpR X (compareOp op) r) (ha:PE X a ta) (hb:PE X b tb) (hm:behindInMarks op b=false):PE X (.Compare a [op] [b] pos) (tOp r ta tb):=by
 intro pins s σ H Q I h
 exact wpAny_Compare1 (binT ha hb I h fun v u s2 x y H2 I2 rx ry q=>ho pins s2 σ H2 x y v u Q I2 rx ry q) hm
def tTest (t:TE):TT:=fun σ H Q=>t σ H fun x H'=>∃ k,x=.bl k∧Q k H'
theorem pt_cmpR {op:CmpOp}{r:R2}(ho:OpR X (compareOp op) r) (ha:PE X a ta) (hb:PE X b tb) (hm:behindInMarks op b=false):PT X (.Compare a [op] [b] pos) (tTest (tOp r ta tb)):=by
 intro pins s σ H Q I h
 refine wpAny_isTrue_Compare1 (thn (ha pins s σ H _ I h) fun v s1 ⟨x,H1,I1,r1,q1⟩=>thn (hb pins s1 σ H1 _ I1 q1) fun u s2 ⟨y,H2,I2,r2,q2⟩=>
  thn (ho pins s2 σ H2 x y v u _ I2 r1 r2 q2) fun c s3 ⟨z,H3,I3,r3,k,e,q3⟩=>?_) hm
 subst e
 cases r3
 exact wpAny_truthy_bool ⟨H3,I3,q3⟩
def tChain (r r':R2) (ta tb tc:TE):TE:=fun σ H Q=>ta σ H fun x H1=>tb σ H1 fun y H2=>r x y H2 fun z H3=>∃ k,z=.bl k∧
 (if k=true then tc σ H3 fun w' H4=>r' y w' H4 Q else Q (.bl false) H3)
theorem pe_chain {op op':CmpOp}{r r':R2}(ho:OpR X (compareOp op) r) (ho':OpR X (compareOp op') r') (ha:PE X a ta) (hb:PE X b tb) (hc:PE X c tc)
  (hm:lastMarks [op,op'] [b,c]=false:=by with_unfolding_all rfl):PE X (.Compare a [op,op'] [b,c] pos) (tChain r r' ta tb tc):=by
 intro pins s σ H Q I h
 refine Compare_chain (thn (ha pins s σ H _ I h) fun v s1 ⟨x,H1,I1,r1,q1⟩=>chain_link (thn (hb pins s1 σ H1 _ I1 q1) fun u s2 ⟨y,H2,I2,r2,q2⟩=>
  thn (ho pins s2 σ H2 x y v u _ I2 r1 r2 q2) fun d s3 ⟨z,H3,I3,r3,k,e,q3⟩=>?_)) hm
 subst e
 cases r3
 refine wpAny_truthy_bool ?_
 cases k with
 | false=>exact ite_ff ⟨.bl false,H3,I3,rfl,q3⟩
 | true=>exact ite_tt (chain_last (thn (hc pins s3 σ H3 _ I3 q3) fun w' s4 ⟨z',H4,I4,r4,q4⟩=>ho' pins s4 σ H4 y z' u w' Q I4 r2 r4 q4))
theorem pt_chain {op op':CmpOp}{r r':R2}(ho:OpR X (compareOp op) r) (ho':OpR X (compareOp op') r') (ha:PE X a ta) (hb:PE X b tb) (hc:PE X c tc)
  (hm:lastMarks [op,op'] [b,c]=false:=by with_unfolding_all rfl):PT X (.Compare a [op,op'] [b,c] pos) (tTest (tChain r r' ta tb tc)):=by
 intro pins s σ H Q I h
 refine isTrue_chain (thn (ha pins s σ H _ I h) fun v s1 ⟨x,H1,I1,r1,q1⟩=>test_link (thn (hb pins s1 σ H1 _ I1 q1) fun u s2 ⟨y,H2,I2,r2,q2⟩=>
  thn (ho pins s2 σ H2 x y v u _ I2 r1 r2 q2) fun d s3 ⟨z,H3,I3,r3,k,e,q3⟩=>?_)) hm
 subst e
 cases r3
 refine wpAny_truthy_bool ?_
 cases k with
 | false=>
  obtain⟨k',e',q'⟩:=q3
  cases e'
  exact ite_ff ⟨H3,I3,q'⟩
 | true=>
  refine ite_tt (test_last (thn (hc pins s3 σ H3 _ I3 q3) fun w' s4 ⟨z',H4,I4,r4,q4⟩=>thn (ho' pins s4 σ H4 y z' u w' _ I4 r2 r4 q4) fun d' s5 ⟨z2,H5,I5,r5,k2,e2,q5⟩=>?_))
  subst e2
  cases r5
  exact wpAny_truthy_bool ⟨H5,I5,q5⟩
theorem line63:(sizeLine:Nat) < 2 ^ 63:=by rw [sizeLine_eq];decide
theorem vals1 {x:V}{us:List Value}(r:Vals [x] us):∃ u,us=[u]∧RelV x u:=by
 cases r with
 | cons r1 r2=>cases r2;exact⟨_,rfl,r1⟩
theorem vals2 {x y:V}{us:List Value}(r:Vals [x,y] us):∃ u w',us=[u,w']∧RelV x u∧RelV y w':=by
 cases r with
 | cons r1 r2=>
  cases r2 with
  | cons r3 r4=>cases r4;exact⟨_,_,rfl,r1,r3⟩
theorem call_max2 (hc:X.calm=true):CallR X (.builtin "max") (fun xs H Q=>∃ i j,xs=[.int i,.int j]∧Q (.int (if j > i then j else i)) H):=by
 intro pins s σ H xs us Q I r h
 obtain⟨i,j,rfl,q⟩:=h
 obtain⟨u,w',rfl,⟨t,rfl⟩,⟨t',rfl⟩⟩:=vals2 r
 refine max_two_ints (I.ok.hd hc) fun h' tk k=>⟨_,H,I.kept k,?_,q⟩
 by_cases hj:j > i
 ·rw [if_pos hj,if_pos hj];exact⟨_,rfl⟩
 ·rw [if_neg hj,if_neg hj];exact⟨_,rfl⟩
theorem call_min2 (hc:X.calm=true):CallR X (.builtin "min") (fun xs H Q=>∃ i j,xs=[.int i,.int j]∧Q (.int (if j < i then j else i)) H):=by
 intro pins s σ H xs us Q I r h
 obtain⟨i,j,rfl,q⟩:=h
 obtain⟨u,w',rfl,⟨t,rfl⟩,⟨t',rfl⟩⟩:=vals2 r
 refine min_two_ints (I.ok.hd hc) fun h' tk k=>⟨_,H,I.kept k,?_,q⟩
 by_cases hj:j < i
 ·rw [if_pos hj,if_pos hj];exact⟨_,rfl⟩
 ·rw [if_neg hj,if_neg hj];exact⟨_,rfl⟩
theorem call_divmod:CallR X (.builtin "divmod") (fun xs H Q=>∃ i j,xs=[.int i,.int j]∧CDiv i j∧∀ p,H p=none→Q (.ref p) (upd H p (.tup [.int (i / j),.int (i % j)]))):=by
 intro pins s σ H xs us Q I r h
 obtain⟨i,j,rfl,⟨h1,h2⟩,q⟩:=h
 obtain⟨u,w',rfl,⟨t,rfl⟩,⟨t',rfl⟩⟩:=vals2 r
 refine divmod_int (by omega) ?_ (.inl (PyProof.noPylong_small (by omega)))
 rw [Int.fdiv_eq_ediv_of_nonneg i (by omega),Int.fmod_eq_emod_of_nonneg i (by omega)]
 have hn:H s.heap.objs.size=none:=I.hok.fresh (Nat.le_refl _)
 refine⟨.ref s.heap.objs.size,_,?_,rfl,q _ hn⟩
 refine I.laid (fun b o e=>Heap.get?_push_of_some _ e) (Nat.le_refl _) ⟨by simp only [List.length_cons,List.length_nil];rw [sizeLine_eq];decide,[.int (i / j) s.toks,.int (i % j) (s.toks + 1)],.cons ⟨_,rfl⟩ (.cons ⟨_,rfl⟩ .nil),?_⟩
 exact⟨_,Heap.get?_push_size s.heap rfl,rfl,0,rfl⟩
end
end L2
namespace L2
open PySem PySem.Spec PyProof.Rows
structure ObjM (h:Heap) (x dx C:Addr) (mA:Str→Option Value):Prop where
 obj:h.get? x=some (PySem.W.instObj C dx)
 ns:h.Ns1 dx mA
 ne:dx≠x
theorem lookIn_ns {h:Heap}{dx:Addr}{mA:Str→Option Value}(n:h.Ns1 dx mA):∃ od,h.get? dx=some od∧∀ name,PySem.W.lookIn name od=some (mA name):=by
 obtain⟨o,es,ep,ho,hd,hk,_,hm⟩:=n
 refine⟨o,ho,fun name=>?_⟩
 have e:=hm name
 unfold nsFind findBy at e
 rw [← Array.find?_toList] at e
 unfold PySem.W.lookIn
 rw [hd]
 dsimp only
 split
 ·rename_i y q
  rw [q] at e
  exact congrArg some e
 ·rename_i q
  rw [q] at e
  have a:es.toList.any (·.refKey)=false:=by
   rw [List.any_eq_false]
   intro y hy
   obtain⟨z,t,hkey⟩:=hk y (Array.mem_toList_iff.mp hy)
   simp [DictEntry.refKey,hkey]
  have a':¬ es.toList.any (·.refKey)=true:=by rw [a];exact Bool.false_ne_true
  rw [if_neg a']
  exact congrArg some e
theorem ObjM.look {h:Heap}{x dx C:Addr}{mA:Str→Option Value}(I:ObjM h x dx C mA):∃ od,PySem.W.InstAt h x (PySem.W.instObj C dx) C (some od)∧∀ name,PySem.W.lookIn name od=some (mA name):=
 let ⟨od,ho,hl⟩:=lookIn_ns I.ns
 ⟨od,⟨I.obj,rfl,rfl,ho⟩,hl⟩
section
variable {prog:Program}{w:World}{A:Around}{E:Value→Shared→Prop}{s:Shared}{K:PySem.W.Frag}{x dx C f:Addr}{mA:Str→Option Value}{name:Str}{v:Value}
theorem get_map {expr:Bool}{Q:Value→Shared→Prop}(X:K.In s.heap) (I:ObjM s.heap x dx C mA) (hg:PySem.W.plainGet K C name=true) (hh:PySem.W.hasDictIn K C=true)
  (ha:PySem.W.findIn K (.ref C) name=some none) (hv:mA name=some v) (hv':PySem.W.handedIn v=true) (h:Q v { s with toks:=s.toks + 1 }):
  wpAny (model prog w) A (getAttr (.ref x) name expr) Q E s:=by
 obtain⟨od,J,hl⟩:=I.look
 exact PySem.W.get_value X J (PySem.W.plainGet_of hg).1 (PySem.W.findObj_own hh ha rfl (by rw [hl,hv])) hv' h
theorem get_meth {pl:Sem Bool}{Q:Value × List Value→Shared→Prop}(X:K.In s.heap) (I:ObjM s.heap x dx C mA) (hg:PySem.W.plainGet K C name=true)
  (hf:PySem.W.findIn K (.ref C) name=some (some (.ref f))) (ht:PySem.W.isFn K (.ref f)=true) (hv:mA name=none) (h:Q (.ref f,[.ref x]) s):
  wpAny (model prog w) A (getMethod (.ref x) name pl) Q E s:=by
 obtain⟨od,J,hl⟩:=I.look
 exact PySem.W.method_fn X J (PySem.W.plainGet_of hg).1 (PySem.W.plainGet_of hg).2 hf (beq_iff_eq.mp ht) (by show (PySem.W.lookIn name od).map (·.isSome)=some false;rw [hl,hv];rfl) h
theorem set_map {ns:List Str}{Q:Unit→Shared→Prop}(X:K.In s.heap) (I:ObjM s.heap x dx C mA)
  (hs:PySem.W.findIn K (.ref C) "__setattr__"=some (some (.builtin "object.__setattr__"))) (hp:PySem.W.plainOver K C=true) (ht:PySem.W.takerIn K C name=some none) (hh:PySem.W.hasDictIn K C=true)
  (hw:PySem.Within mA ns) (hsz:ns.length≤sizeLine)
  (h:∀ h',ObjM h' x dx C (fun y=>if y=name then some v else mA y)→Heap.SameBut dx s.heap h'→Q () { s with heap:=h',toks:=s.toks + 2 }):
  wpAny (model prog w) A (setAttr (.ref x) name v) Q E s:=by
 obtain⟨od,J,hl⟩:=I.look
 refine PySem.W.set_plain X J hs (PySem.W.osa_open (s:={ s with toks:=s.toks + 1 }) (r:=none) X J hp ht fun b=>?_)
 obtain⟨cd,hc,hd'⟩:=PySem.W.any_some hh
 have hx:s.heap.get? x=some ⟨.ref C,some dx,.plain,#[]⟩:=I.obj
 refine wpAny_bind (wpAny_pure (wpAny_bind (wpAny_bind (wpAny_loadPart hx (wpAny_bind (PySem.W.Looks.here (s:={ s with toks:=s.toks + 1 }) (PySem.W.looks_clsIn X hc) ?_))))))
 rw [hd']
 refine wpAny_pure (a:=some dx) (wpAny_bind (wpAny_pure (wpAny_bind ?_)))
 refine wpAny_nsSet1 (s:={ s with toks:=s.toks + 1 }) I.ns fun h' hn2 hs2=>?_
 obtain⟨oD,esD,epD,hoD,hdD,hcD⟩:=hn2.count (PySem.Within.cons name v hw)
 refine wpAny_bind (wpAny_lookBehind hoD (by rw [hdD];exact pastItsLine_dict (Nat.le_trans hcD (by rw [List.length_cons];omega))) ?_)
 exact wpAny_pure (h _ ⟨(hs2.2 _ (Ne.symm I.ne)).trans I.obj,hn2,I.ne⟩ hs2)
theorem make_map {R:Result→Shared→Prop}{vs:List Value}{kw:List (Str × Value)} (X:K.In s.heap) (hm:PySem.W.makesIn K C=true)
  (hi:PySem.W.findIn K (.ref C) "__init__"=some (some (.ref f))) (hf:PySem.W.typeIn K (.ref f)=some (.type "function"))
  (h:codeAny (model prog w) (A.under (.builtin "type.__call__" ⟨.ref C::vs,kw⟩)) (.call (.ref f) ⟨.ref (s.heap.objs.size + 1)::vs,kw⟩) (PySem.W.InitBack (s.heap.objs.size + 1) R)
   { s with heap:=(s.heap.push PySem.W.emptyDict).push (PySem.W.instObj C s.heap.objs.size) }):
  codeAny (model prog w) A (.call (.ref C) ⟨vs,kw⟩) R s:=by
 obtain⟨hh,g,d,t,os⟩:=s
 exact PySem.W.make_core (PySem.W.makes_of X hm) (PySem.W.looks_findIn X hi) (fun self=>PySem.W.bind_fn X self hf) (.inl rfl) h
end
def putF (f:Str) (v:V):List (Str × V)→List (Str × V)
 | []=>[(f,v)]
 | (g,x)::r=>if g=f then(g,v)::r else(g,x)::putF f v r
theorem lookup_putF (f g:Str) (v:V):∀ fs:List (Str × V),(putF f v fs).lookup g=if g=f then some v else fs.lookup g
 | []=>by
  show List.lookup g [(f,v)]=_
  by_cases h:g=f
  ·have hb:(g == f)=true:=beq_iff_eq.mpr h
   simp only [List.lookup,hb,if_pos h]
  ·have hb:(g == f)=false:=beq_eq_false_iff_ne.mpr h
   simp only [List.lookup,hb,if_neg h]
 | (k,x)::r=>by
  have ih:=lookup_putF f g v r
  rw [show putF f v ((k,x)::r)=(if k=f then(k,v)::r else(k,x)::putF f v r) from rfl]
  by_cases hk:k=f
  ·rw [if_pos hk]
   by_cases h:g=k
   ·have hb:(g == k)=true:=beq_iff_eq.mpr h
    simp only [List.lookup,hb,if_pos (h.trans hk)]
   ·have hb:(g == k)=false:=beq_eq_false_iff_ne.mpr h
    simp only [List.lookup,hb,if_neg (fun e:g=f=>h (e.trans hk.symm))]
  ·rw [if_neg hk]
   by_cases h:g=k
   ·have hb:(g == k)=true:=beq_iff_eq.mpr h
    simp only [List.lookup,hb,if_neg (fun e:g=f=>hk (h.symm.trans e))]
   ·have hb:(g == k)=false:=beq_eq_false_iff_ne.mpr h
    simp only [List.lookup,hb]
    exact ih
theorem keys_putF (f:Str) (v:V):∀ fs:List (Str × V),f∈(putF f v fs).map (·.1)∧∀ g,g∈fs.map (·.1)→g∈(putF f v fs).map (·.1)
 | []=>⟨by simp [putF],fun g h=>by simp at h⟩
 | (k,x)::r=>by
  obtain⟨i1,i2⟩:=keys_putF f v r
  rw [show putF f v ((k,x)::r)=(if k=f then(k,v)::r else(k,x)::putF f v r) from rfl]
  by_cases hk:k=f
  ·rw [if_pos hk]
   subst hk
   exact⟨by simp,fun g h=>by simpa using h⟩
  ·rw [if_neg hk]
   refine⟨?_,fun g h=>?_⟩
   ·rw [List.map_cons]
    exact List.mem_cons_of_mem _ i1
   ·rw [List.map_cons] at h ⊢
    rcases List.mem_cons.mp h with e | e
    ·exact List.mem_cons.mpr (.inl e)
    ·exact List.mem_cons_of_mem _ (i2 g e)
theorem length_putF (f:Str) (v:V):∀ fs:List (Str × V),(putF f v fs).length≤fs.length + 1
 | []=>by simp [putF]
 | (k,x)::r=>by
  have ih:=length_putF f v r
  rw [show putF f v ((k,x)::r)=(if k=f then(k,v)::r else(k,x)::putF f v r) from rfl]
  by_cases hk:k=f
  ·rw [if_pos hk,List.length_cons,List.length_cons];omega
  ·rw [if_neg hk,List.length_cons,List.length_cons];omega
theorem RelO.some_of {v:V}{o:Option Value}(r:RelO (some v) o):∃ u,o=some u∧RelV v u:=by
 cases o with
 | none=>exact(show False from r).elim
 | some u=>exact⟨u,rfl,r⟩
theorem RelO.none_of {o:Option Value}(r:RelO none o):o=none:=by
 cases o with
 | none=>rfl
 | some u=>exact(show False from r).elim
theorem handed_of {v:V}{u:Value}(r:RelV v u):PySem.W.handedIn u=true:=by
 cases v with
 | non=>cases (show u=Value.none from r);rfl
 | bl b=>cases (show u=Value.bool b from r);rfl
 | int i=>obtain⟨t,e⟩:=(show ∃ t,u=Value.int i t from r);cases e;rfl
 | str x=>obtain⟨t,e⟩:=(show ∃ t,u=Value.str x t from r);cases e;rfl
 | byt b=>obtain⟨t,e⟩:=(show ∃ t,u=Value.bytes b t from r);cases e;rfl
 | flt b=>obtain⟨t,e⟩:=(show ∃ t,u=Value.float b t from r);cases e;rfl
 | ref a=>cases (show u=Value.ref a from r);rfl
 | ty n=>cases (show u=Value.type n from r);rfl
section
variable {P:Program}{w:World}{H H':Hp}{h h':Heap}{a C dx:Addr}{fs fs':List (Str × V)}
theorem ins_get (hok:HOk P w H h) (e:H a=some (.ins C dx fs)):∃ mA,ObjM h a dx C mA∧(∀ f,RelO (fs.lookup f) (mA f))∧PySem.Within mA (fs.map (·.1))∧fs.length≤1000∧H dx=some (.own a):=by
 obtain⟨d,z,ne,ob,mA,n,r,q⟩:=(show ObjOk P w H h a (.ins C dx fs) from hok a _ e)
 exact⟨mA,⟨ob,n,ne⟩,r,q,z,d⟩
end
structure Cls (K:PySem.W.Frag) (C:Addr):Prop where
 pg:PySem.W.plainGet K C Str.empty=true
 hd:PySem.W.hasDictIn K C=true
 po:PySem.W.plainOver K C=true
 sa:PySem.W.findIn K (.ref C) "__setattr__"=some (some (.builtin "object.__setattr__"))
theorem Cls.get {K:PySem.W.Frag}{C:Addr}(c:Cls K C) (f:Str):PySem.W.plainGet K C f=true:=c.pg
def NoAttr (K:PySem.W.Frag) (C:Addr) (f:Str):Prop:=PySem.W.findIn K (.ref C) f=some none
theorem NoAttr.taker {K:PySem.W.Frag}{C:Addr}{f:Str}(n:NoAttr K C f):PySem.W.takerIn K C f=some none:=by
 unfold PySem.W.takerIn
 rw [show PySem.W.findIn K (.ref C) f=some none from n]
 rfl
structure Meth (K:PySem.W.Frag) (C:Addr) (m:Str) (f:Addr):Prop where
 at_:PySem.W.findIn K (.ref C) m=some (some (.ref f))
 fn:PySem.W.isFn K (.ref f)=true
 kp:PySem.W.keepIn K (.ref f)=true
section
variable {X:Cx}{pins:List (Addr × Obj)}{σ:St}{H:Hp}{s:Shared}{a C dx:Addr}{fs:List (Str × V)}{f:Str}{v:V}{A:Around}{E:Value→Shared→Prop}
theorem getattr_ok {b:Bool}{Q:Value→Shared→Prop}(I:Inv X pins σ H s) (e:H a=some (.ins C dx fs)) (c:Cls X.K C) (n:NoAttr X.K C f) (l:fs.lookup f=some v)
  (h:∀ u s',Inv X pins σ H s'→RelV v u→Q u s'):wpAny (model X.prog X.w) A (getAttr (.ref a) f b) Q E s:=by
 obtain⟨mA,O,r,_,_,_⟩:=ins_get I.hok e
 obtain⟨u,hu,ru⟩:=RelO.some_of (v:=v) (o:=mA f) (by rw [← l];exact r f)
 exact get_map I.kIn O (c.get f) c.hd n hu (handed_of ru) (h u _ (I.tok _) ru)
theorem getmeth_ok {m:Str}{g:Addr}{pl:Sem Bool}{Q:Value × List Value→Shared→Prop}(I:Inv X pins σ H s) (e:H a=some (.ins C dx fs)) (c:Cls X.K C) (k:Meth X.K C m g) (l:fs.lookup m=none)
  (h:Q (.ref g,[.ref a]) s):wpAny (model X.prog X.w) A (getMethod (.ref a) m pl) Q E s:=by
 obtain⟨mA,O,r,_,_,_⟩:=ins_get I.hok e
 have hn:mA m=none:=RelO.none_of (by rw [← l];exact r m)
 exact get_meth I.kIn O (c.get m) k.at_ k.fn hn h
theorem setattr_ok {y:V}{u:Value}{Q:Unit→Shared→Prop}(I:Inv X pins σ H s) (e:H a=some (.ins C dx fs)) (c:Cls X.K C) (n:NoAttr X.K C f) (hl:fs.length < 1000) (ry:RelV y u)
  (h:∀ s',Inv X pins σ (upd H a (.ins C dx (putF f y fs))) s'→Q () s'):wpAny (model X.prog X.w) A (setAttr (.ref a) f u) Q E s:=by
 obtain⟨mA,O,r,wi,_,ho⟩:=ins_get I.hok e
 have hz:(fs.map (·.1)).length≤sizeLine:=by rw [List.length_map,sizeLine_eq];omega
 refine set_map I.kIn O c.sa c.po n.taker c.hd wi hz fun h' O' sb=>h _ ?_
 have hd:∃ o,h'.get? dx=some o:=let ⟨o,_,_,e',_⟩:=O'.ns;⟨o,e'⟩
 refine I.write (x:=a) (e:=dx) (by rw [e];exact True.intro) (.inr ho) (fun b q hb z=>(sb.2 b hb).trans z) hd ?_
 refine⟨by rw [upd_ne O.ne];exact ho,?_,O.ne,O'.obj,_,O'.ns,fun g=>?_,fun g hg=>?_⟩
 ·have:=length_putF f y fs;omega
 ·show RelO ((putF f y fs).lookup g) (if g=f then some u else mA g)
  rw [lookup_putF]
  by_cases q:g=f
  ·rw [if_pos q,if_pos q];exact ry
  ·rw [if_neg q,if_neg q];exact r g
 ·by_cases q:g=f
  ·rw [q];exact(keys_putF f y fs).1
  ·refine(keys_putF f y fs).2 g (wi g fun z=>hg ?_)
   show (if g=f then some u else mA g)=none
   rw [if_neg q];exact z
theorem Inv.made (I:Inv X pins σ H s):Inv X pins σ (upd (upd H s.heap.objs.size (.own (s.heap.objs.size + 1))) (s.heap.objs.size + 1) (.ins C s.heap.objs.size []))
  { s with heap:=(s.heap.push PySem.W.emptyDict).push (PySem.W.instObj C s.heap.objs.size) }:=by
 have e1:(s.heap.push PySem.W.emptyDict).get? s.heap.objs.size=some PySem.W.emptyDict:=Heap.get?_push_size s.heap rfl
 have e2:((s.heap.push PySem.W.emptyDict).push (PySem.W.instObj C s.heap.objs.size)).get? (s.heap.objs.size + 1)=some (PySem.W.instObj C s.heap.objs.size):=by
  have:=Heap.get?_push_size (s.heap.push PySem.W.emptyDict) (o:=PySem.W.instObj C s.heap.objs.size) rfl
  rwa [Heap.size_push] at this
 have e3:(s.heap.push PySem.W.emptyDict).Ns s.heap.objs.size (fun _=>none):=⟨PySem.W.emptyDict,#[],_,e1,rfl,(fun e he=>absurd he (by simp)),fun _=>rfl⟩
 have I1:=I.laid (a:=s.heap.objs.size) (o:=.own (s.heap.objs.size + 1)) (h':=s.heap.push PySem.W.emptyDict) (t':=s.toks) (fun b u q=>Heap.get?_push_of_some _ q) (Nat.le_refl _) ⟨_,e1⟩
 refine I1.laid (a:=s.heap.objs.size + 1) (o:=.ins C s.heap.objs.size []) (t':=s.toks) (fun b u q=>Heap.get?_push_of_some _ q) (Nat.le_of_eq (Heap.size_push _ _)) ?_
 have ne:s.heap.objs.size≠s.heap.objs.size + 1:=Nat.ne_of_lt (Nat.lt_succ_self _)
 refine⟨by rw [upd_ne ne,upd_same],Nat.zero_le _,ne,e2,fun _=>none,(Heap.Ns1.of_empty e3).at fun o q=>Heap.get?_push_of_some _ q,fun _=>True.intro,fun y hy=>absurd rfl hy⟩
theorem attr_of {prog:Program}{w:World}{env:Env}{e:Expr}{f:Str}{pos:Pos}{s:Shared}{Q:Value→Shared→Prop}(hb:attributeBase e f env (eval e env)=eval e env)
  (h:wpAny (model prog w) A (eval e env) (fun o s₁=>wpAny (model prog w) A (getAttr o f true) Q E s₁) E s):wpAny (model prog w) A (eval (.Attribute e f pos) env) Q E s:=
 Attribute_any_ h (by rw [arm_eval_Attribute,hb])
end
def tFld (K:PySem.W.Frag) (ta:TE) (f:Str):TE:=fun σ H Q=>ta σ H fun x H1=>∃ a C dx fs v,x=.ref a∧H1 a=some (.ins C dx fs)∧Cls K C∧NoAttr K C f∧fs.lookup f=some v∧Q v H1
def sFld (K:PySem.W.Frag) (ta tv:TE) (f:Str):TS:=fun D σ H=>tv σ H fun y H1=>ta σ H1 fun x H2=>∃ a C dx fs,x=.ref a∧H2 a=some (.ins C dx fs)∧Cls K C∧NoAttr K C f∧fs.length < 1000∧
 D.nx σ (upd H2 a (.ins C dx (putF f y fs)))
section
variable {X:Cx}{o e value:Expr}{f:Str}{pos pos' tpos:Pos}{ta tv:TE}
theorem pe_fld (he:PE X e ta) (hb:attributeBase e f X.env (eval e X.env)=eval e X.env):PE X (.Attribute e f pos) (tFld X.K ta f):=by
 intro pins s σ H Q I h
 refine attr_of hb (thn (he pins s σ H _ I h) fun u s1 ⟨x,H1,I1,rx,a,C,dx,fs,v,ex,ea,c,n,l,q⟩=>?_)
 subst ex
 obtain rfl:u=Value.ref a:=rx
 exact getattr_ok I1 ea c n l fun u' s2 I2 ru=>⟨v,H1,I2,ru,q⟩
theorem ps_fld (ha:PE X o ta) (hv:PE X value tv) (hs:swapsWith value (some (.Attribute o f pos')) pos.line X.env=pure false):PS X (.Assign [.Attribute o f pos'] value pos) (sFld X.K ta tv f):=by
 intro pins s σ H D I h
 refine plainObj_wpAny_Assign_Attribute (thn (hv pins s σ H _ I h) fun u s1 ⟨y,H1,I1,ry,q⟩=>thn (ha pins s1 σ H1 _ I1 q) fun ov s2 ⟨x,H2,I2,rx,a,C,dx,fs,ex,ea,c,n,l,q2⟩=>?_) hs
 subst ex
 obtain rfl:ov=Value.ref a:=rx
 exact setattr_ok I2 ea c n l ry fun s3 I3=>⟨σ,_,I3,q2⟩
end
section
variable {X:Cx}{pins:List (Addr × Obj)}{σ:St}{H:Hp}{s:Shared}{A:Around}{E:Value→Shared→Prop}{Q:Value→Shared→Prop}{c:Value}{b:Bool}
inductive TyOf (K:PySem.W.Frag) (H:Hp):V→Value→Prop where
 | non:TyOf K H .non (.type "NoneType")
 | bl (x:Bool):TyOf K H (.bl x) (.type "bool")
 | int (i:Int):TyOf K H (.int i) (.type "int")
 | str (x:Str):TyOf K H (.str x) (.type "str")
 | flt (x:UInt64):TyOf K H (.flt x) (.type "float")
 | lst {a:Addr}{xs:List V}(e:H a=some (.lst xs)):TyOf K H (.ref a) (.type "list")
 | frz {a:Addr}{o:Obj}{xs:List V}(e:H a=some (.frz o (.lst xs))):TyOf K H (.ref a) (.type "list")
 | tup {a:Addr}{xs:List V}(e:H a=some (.tup xs)):TyOf K H (.ref a) (.type "tuple")
 | dK {a:Addr}{kvs:List (Key × V)} (e:H a=some (.dK kvs)):TyOf K H (.ref a) (.type "dict")
 | dT {a:Addr}{kvs:List (List Key × V)} (e:H a=some (.dT kvs)):TyOf K H (.ref a) (.type "dict")
 | ins {a C dx:Addr}{fs:List (Str × V)} (e:H a=some (.ins C dx fs)) (cl:Cls K C) (ha:PySem.W.findIn K (.ref C) "__class__"=some (some (.builtin "object.__class__")))
   (hn:PySem.W.specialIn K (.builtin "object.__class__") "__get__"=some (some (.builtin "getset_descriptor.__get__"))) (htk:PySem.W.takesIn K (.builtin "object.__class__")=some true)
   (hm:PySem.W.mroIn K C (.type "object")=some true):TyOf K H (.ref a) (.ref C)
theorem isinst_ok {x:V}{u t:Value}(I:Inv X pins σ H s) (rx:RelV x u) (ty:TyOf X.K H x t) (e:PySem.W.kitOne X.K t c=some b) (h:∀ tk,Q (.bool b) { s with toks:=tk }):
  wpAny (model X.prog X.w) A (call (.builtin "isinstance") [u,c]) Q E s:=by
 cases ty with
 | non=>cases (show u=Value.none from rx);exact PySem.W.kia_one PySem.W.kitx_none I.kIn True.intro e (fun z=>nomatch z) h
 | bl y=>cases (show u=Value.bool y from rx);exact PySem.W.kia_one PySem.W.kitx_bool I.kIn True.intro e (fun z=>nomatch z) h
 | int i=>obtain⟨t,q⟩:=(show ∃ t,u=Value.int i t from rx);cases q;exact PySem.W.kia_one PySem.W.kitx_int I.kIn True.intro e (fun z=>nomatch z) h
 | str y=>obtain⟨t,q⟩:=(show ∃ t,u=Value.str y t from rx);cases q;exact PySem.W.kia_one PySem.W.kitx_str I.kIn True.intro e (fun z=>nomatch z) h
 | flt y=>obtain⟨t,q⟩:=(show ∃ t,u=Value.float y t from rx);cases q;exact PySem.W.kia_one PySem.W.kitx_float I.kIn True.intro e (fun z=>nomatch z) h
 | @lst a xs ea=>
  cases (show u=Value.ref a from rx)
  obtain⟨_,_,n,_,h1⟩:=(show ObjOk X.prog X.w H s.heap a (.lst xs) from I.hok a _ ea)
  exact PySem.W.kia_one PySem.W.kitx_list I.kIn ⟨_,h1,rfl⟩ e (fun z=>nomatch z) h
 | @frz a ob xs ea=>
  cases (show u=Value.ref a from rx)
  obtain⟨_,_,_,n,_,h1⟩:=(show ObjOk X.prog X.w H s.heap a (.frz ob (.lst xs)) from I.hok a _ ea)
  exact PySem.W.kia_one PySem.W.kitx_list I.kIn ⟨_,h1,rfl⟩ e (fun z=>nomatch z) h
 | @tup a xs ea=>
  cases (show u=Value.ref a from rx)
  obtain⟨_,_,_,p⟩:=(show ObjOk X.prog X.w H s.heap a (.tup xs) from I.hok a _ ea)
  obtain⟨o,h1,h2,_⟩:=p
  exact PySem.W.kia_one PySem.W.kitx_tuple I.kIn ⟨o,h1,h2⟩ e (fun z=>nomatch z) h
 | @dK a kvs ea=>
  cases (show u=Value.ref a from rx)
  obtain⟨_,_,vs,_,p⟩:=(show ObjOk X.prog X.w H s.heap a (.dK kvs) from I.hok a _ ea)
  obtain⟨o,es,ep,h1,h2,_⟩:=p
  exact PySem.W.kia_one PySem.W.kitx_dict I.kIn ⟨o,h1,h2.1⟩ e (fun z=>nomatch z) h
 | @dT a kvs ea=>
  cases (show u=Value.ref a from rx)
  obtain⟨_,_,xs,_,o,es,ep,h1,h2,_⟩:=(show ObjOk X.prog X.w H s.heap a (.dT kvs) from I.hok a _ ea)
  exact PySem.W.kia_one PySem.W.kitx_dict I.kIn ⟨o,h1,h2.1⟩ e (fun z=>nomatch z) h
 | @ins a C dx fs ea cl ha hn htk hm=>
  cases (show u=Value.ref a from rx)
  obtain⟨mA,O,_⟩:=ins_get I.hok ea
  obtain⟨od,J,_⟩:=O.look
  exact PySem.W.kia_one (PySem.W.kitx_own (cl.get _) cl.hd ha hn htk hm) I.kIn J e (fun z=>nomatch z) h
end
end L2
namespace L2
open PySem PySem.Spec PyProof.Rows
structure Room (k:Nat) (A:Around):Prop where
 hd:A.handled=none
 dp:A.depth + 3 * k + 5 < recursionLimit
 un:A.units + 16 * k + 200 < cLine
theorem Room.mono {j k:Nat}{A:Around}(r:Room k A) (h:j≤k):Room j A:=⟨r.hd,by have:=r.dp;omega,by have:=r.un;omega⟩
theorem Room.deeper {k:Nat}{A:Around}(r:Room (k + 1) A) (env:Env):Room k (A.deeper env):=
 ⟨r.hd,by have:=r.dp;show A.depth + 1 + 3 * k + 5 < _;omega,by have:=r.un;show A.units + 3 + 16 * k + 200 < _;omega⟩
theorem make_depth {A:Around}{C:Addr}{us:List Value}{kw:List (Str × Value)}:(A.under (.builtin "type.__call__" ⟨.ref C::us,kw⟩)).depth=A.depth + 1:=by
 first | rfl | simp [Around.under,Code.weight,Code.isCreation,Code.isGuard,Code.isCaller,Code.frames,Code.isFrame,guardIds]
theorem make_units {A:Around}{C:Addr}{us:List Value}{kw:List (Str × Value)}:(A.under (.builtin "type.__call__" ⟨.ref C::us,kw⟩)).units=A.units + 1:=by
 first | rfl | simp [Around.under,Code.cUnits,Code.frames,Code.isFrame]
theorem Room.make {k:Nat}{A:Around}(r:Room (k + 1) A) (C:Addr) (us:List Value) (kw:List (Str × Value)):Room k (A.under (.builtin "type.__call__" ⟨.ref C::us,kw⟩)):=
 ⟨r.hd,by have:=r.dp;rw [make_depth];omega,by have:=r.un;rw [make_units];omega⟩
theorem Room.depth {k:Nat}{A:Around}(r:Room k A):A.depth < recursionLimit:=by have:=r.dp;omega
theorem Room.units {k:Nat}{A:Around}(r:Room k A):A.units + 64 < cLine:=by have:=r.un;omega
theorem Room.units0 {k:Nat}{A:Around}(r:Room k A):A.units < cLine:=by have:=r.un;omega
def tNil:TA:=fun _ H Q=>Q [] H
def tCons (ta:TE) (tr:TA):TA:=fun σ H Q=>ta σ H fun x H1=>tr σ H1 fun xs H2=>Q (x::xs) H2
section
variable {X:Cx}{e:Expr}{es:List Expr}{te:TE}{t:TA}{pos:Pos}
theorem pa_nil:PA X [] tNil:=fun _ _ _ _ H Q I h=>Calls.spliced_nil ⟨[],H,I,.nil,h⟩
theorem pa_cons (ha:PE X e te) (hr:PA X es t) (hs:starEach (e::es) X.env=(false,eval e X.env)::starEach es X.env:=by rfl):PA X (e::es) (tCons te t):=by
 intro pos pins s σ H Q I h
 rw [hs]
 show wpAny _ _ (spliced ((false,eval e X.env)::backTo pos (starEach es X.env))) _ _ s
 refine Calls.spliced_cons (thn (ha pins s σ H _ I h) fun u s1 ⟨x,H1,I1,r1,q1⟩=>?_)
 exact thn (hr pos pins s1 σ H1 _ I1 q1) fun us s2 ⟨xs,H2,I2,r2,q2⟩=>⟨x::xs,H2,I2,.cons r1 r2,q2⟩
def tTup (t:TA):TE:=fun σ H Q=>t σ H fun xs H1=>xs.length≤sizeLine∧∀ p,H1 p=none→Q (.ref p) (upd H1 p (.tup xs))
def tLst (t:TA):TE:=fun σ H Q=>t σ H fun xs H1=>xs.length≤sizeLine∧∀ p,H1 p=none→Q (.ref p) (upd H1 p (.lst xs))
theorem pe_tup {x1} (h:PA X es t):PE X (.Tuple es x1 pos) (tTup t):=by
 intro pins s σ H Q I hq
 refine wpAny_Tuple_spliced (thn (h pos pins s σ H _ I hq) fun us s1 ⟨xs,H1,I1,r,z,q⟩=>⟨by rw [← r.length];exact z,?_⟩)
 have hf:H1 s1.heap.objs.size=none:=I1.hok.fresh (Nat.le_refl _)
 refine⟨.ref s1.heap.objs.size,upd H1 s1.heap.objs.size (.tup xs),I1.laid (t':=s1.toks) (fun b u e=>Heap.get?_push_of_some _ e) (Nat.le_refl _) ?_,rfl,q _ hf⟩
 exact⟨z,us,r,⟨_,Heap.get?_push_size _ rfl,rfl,_,rfl⟩⟩
theorem pe_lst (h:PA X es t):PE X (.List es pos) (tLst t):=by
 intro pins s σ H Q I hq
 refine wpAny_List_spliced (thn (h pos pins s σ H _ I hq) fun us s1 ⟨xs,H1,I1,r,z,q⟩=>⟨by rw [← r.length];exact z,?_⟩)
 have hf:H1 s1.heap.objs.size=none:=I1.hok.fresh (Nat.le_refl _)
 refine⟨.ref s1.heap.objs.size,upd H1 s1.heap.objs.size (.lst xs),I1.laid (t':=s1.toks) (fun b u e=>Heap.get?_push_of_some _ e) (Nat.le_refl _) ?_,rfl,q _ hf⟩
 exact⟨z,us,0,r,Heap.get?_push_size _ rfl⟩
end
abbrev Sp:=List V→Hp→VK→XK→Prop
abbrev CXT:=List Env→Hp→Shared→XK→Value→Shared→Prop
structure Env0 (P:Program) (w:World) (K:PySem.W.Frag) (mg:Str→Option Value) (base:Heap) (A:Around) (outer:List Env) (s:Shared) (H:Hp):Prop where
 frames:A.frames=some outer
 mod:Mod K mg base
 bs:∀ b o,base.get? b=some o→s.heap.get? b=some o∧H b=none
 bsz:base.objs.size≤s.heap.objs.size
 funs:s.heap.FunFrames base outer
 frf:∀ b∈frs outer,H b=none
 hok:HOk P w H s.heap
 bare:AllBare s.gens
def CE (outer:List Env) (P:Program) (w:World) (H:Hp) (s:Shared) (Q:VK) (u:Value) (s':Shared):Prop:=
 ∃ v H',s'.os=s.os∧AllBare s'.gens∧Un (frs outer) [] H H' s.heap s'.heap∧HOk P w H' s'.heap∧RelV v u∧Q v H'
def CR (CX:CXT) (outer:List Env) (P:Program) (w:World) (H:Hp) (s:Shared) (Q:VK) (E:XK) (r:Result) (s':Shared):Prop:=
 match r with
 | .ok (.ret u)=>CE outer P w H s Q u s'
 | .ok _=>False
 | .error e=>CX outer H s E e s'
structure FnOk (P:Program) (w:World) (K:PySem.W.Frag) (mg:Str→Option Value) (base:Heap) (CX:CXT) (k:Nat) (f:Addr) (fd:FuncData) (ps:List Str) (sp:Sp):Prop where
 len:∀ vs H Q E,sp vs H Q E→vs.length=ps.length
 run:∀ (A:Around) (outer:List Env) (s:Shared) (H:Hp) (args:Args) (us:List Value) (vs:List V) (Q:VK) (E:XK),Room k A→Env0 P w K mg base A outer s H→BindsTo s fd args (ps.zip us)→Vals vs us→sp vs H Q E→
  codeAny (model P w) A (.call (.ref f) args) (CR CX outer P w H s Q E) s
theorem FnOk.mono {P:Program}{w:World}{K:PySem.W.Frag}{mg:Str→Option Value}{base:Heap}{CX:CXT}{j k:Nat}{f:Addr}{fd:FuncData}{ps:List Str}{sp:Sp}(F:FnOk P w K mg base CX j f fd ps sp) (h:j≤k):
  FnOk P w K mg base CX k f fd ps sp:=⟨F.len,fun A outer s H args us vs Q E hr=>F.run A outer s H args us vs Q E (hr.mono h)⟩
theorem Env0.make {P:Program}{w:World}{K:PySem.W.Frag}{mg:Str→Option Value}{base:Heap}{A:Around}{outer:List Env}{s:Shared}{H:Hp}(e:Env0 P w K mg base A outer s H) (C:Addr) (us:List Value) (kw:List (Str × Value)):
  Env0 P w K mg base (A.under (.builtin "type.__call__" ⟨.ref C::us,kw⟩)) outer s H:=⟨by first | exact e.frames | (simpa [Around.under,Code.envs,Code.isFrame,pushEnvs] using e.frames),e.mod,e.bs,e.bsz,e.funs,e.frf,e.hok,e.bare⟩
section
variable {X:Cx}{pins:List (Addr × Obj)}{σ:St}{H:Hp}{s s':Shared}
theorem Inv.env0 (I:Inv X pins σ H s):Env0 X.prog X.w X.K X.mg X.base X.A X.stack s H:=
 ⟨I.ok.frames,I.ok.mod,I.bs,Nat.le_trans I.ok.bsz I.sz,I.stack,I.stkFree,I.hok,I.bare⟩
theorem Inv.after {Q:VK}{u:Value}(I:Inv X pins σ H s) (h:CE X.stack X.prog X.w H s Q u s'):EP X pins σ Q u s':=by
 obtain⟨v,H',os,bare,un,hok,r,q⟩:=h
 obtain⟨hh,g,d,t,os'⟩:=s'
 obtain rfl:os'=s.os:=os
 exact⟨v,H',I.call (h':=hh) (g':=g) (d':=d) (t':=t) (ch:=[]) un hok bare (fun b z=>absurd z (by simp)),r,q⟩
end
def tCall (sp:Sp) (dvs:List V) (E:XK) (t:TA):TE:=fun σ H Q=>t σ H fun vs H1=>sp (vs++dvs) H1 Q E
def tMeth (C:Addr) (m:Str) (sp:Sp) (dvs:List V) (E:XK) (ta:TE) (t:TA):TE:=fun σ H Q=>ta σ H fun x H1=>∃ a dx fs,x=.ref a∧H1 a=some (.ins C dx fs)∧fs.lookup m=none∧
 t σ H1 fun vs H2=>sp (x::(vs++dvs)) H2 Q E
def tMake (C:Addr) (sp:Sp) (dvs:List V) (E:XK) (t:TA):TE:=fun σ H Q=>t σ H fun vs H1=>∀ x dx,H1 x=none→H1 dx=none→dx≠x→
 sp (.ref x::(vs++dvs)) (upd (upd H1 dx (.own x)) x (.ins C dx [])) (fun v H2=>v=.non∧Q (.ref x) H2) E
def Binds (K:PySem.W.Frag) (fd:FuncData) (ps:List Str) (ds:List Value):Prop:=
 ∀ (s:Shared) (us:List Value),K.In s.heap→(us++ds).length=ps.length→BindsTo s fd ⟨us,[]⟩ (ps.zip (us++ds))
theorem Binds.all {K:PySem.W.Frag}{fd:FuncData}{ps:List Str}(h:∀ us:List Value,us.length=ps.length→bindArgs fd ⟨us,[]⟩=pure (ps.zip us)):Binds K fd ps []:=fun s us _ hl=>by
 rw [List.append_nil] at hl ⊢
 exact .of_eq (h us hl)
def Passes (CX:CXT) (X:Cx) (E:XK):Prop:=∀ (pins:List (Addr × Obj)) (σ:St) (H:Hp) (s:Shared) (e:Value) (s':Shared),Inv X pins σ H s→CX X.stack H s E e s'→X.xe e s'
section
variable {X:Cx}{CX:CXT}{k:Nat}{f C:Addr}{fd:FuncData}{ps:List Str}{sp:Sp}{dvs:List V}{ds:List Value}{E:XK}{x m:Str}{p pos apos:Pos}{e o:Expr}{es:List Expr}{ta:TE}{t:TA}
theorem run_fn {pins:List (Addr × Obj)}{σ:St}{H:Hp}{s:Shared}{Q:VK}{us:List Value}{vs:List V}(F:FnOk X.prog X.w X.K X.mg X.base CX k f fd ps sp) (hr:Room k X.A) (hb:Binds X.K fd ps ds) (hd:Vals dvs ds) (hx:Passes CX X E)
  (I:Inv X pins σ H s) (r:Vals vs us) (h:sp (vs++dvs) H Q E):wpAny (model X.prog X.w) X.A (call (.ref f) us) (EP X pins σ Q) X.xe s:=by
 have r2:Vals (vs++dvs) (us++ds):=r.append hd
 have hl:(us++ds).length=ps.length:=by rw [← r2.length];exact F.len _ _ _ _ h
 refine wpAny_call (codeAny_mono (F.run X.A X.stack s H ⟨us,[]⟩ (us++ds) (vs++dvs) Q E hr I.env0 (hb s us I.kIn hl) r2 h) fun r s' hq=>?_)
 cases r with
 | error e=>exact hx pins σ H s e s' I hq
 | ok fl=>
  cases fl with
  | ret u=>exact I.after hq
  | next=>exact False.elim hq
  | brk=>exact False.elim hq
  | cont=>exact False.elim hq
theorem pe_call (F:FnOk X.prog X.w X.K X.mg X.base CX k f fd ps sp) (hr:Room k X.A) (hg:Gl X x) (hm:X.mg x=some (.ref f)) (hk:PySem.W.keepIn X.K (.ref f)=true) (hb:Binds X.K fd ps ds) (hd:Vals dvs ds) (hx:Passes CX X E)
  (ha:PA X (e::es) t) (hdb:(x == ("__debug__":Str))=false:=by decide) (he:starEach (e::es) X.env=(false,eval e X.env)::starEach es X.env:=by rfl) (hpl:(backTo pos (starEach es X.env)).any (·.1)=false:=by rfl):
  PE X (.Call (.Name x p) (e::es) [] pos) (tCall sp dvs E t):=by
 intro pins s σ H Q I h
 refine wpAny_Call_Name_kw (ld_glob I hg hm ?_ hdb)
 refine PySem.W.callWith_K (h₀:=X.base) I.ok.mod.kin hk (thn (ha pos pins s σ H _ I h) fun us s1 ⟨vs,H1,I1,r,q⟩=>⟨I1.kIn,?_⟩) he hpl
 exact run_fn F hr hb hd hx I1 r q
theorem pe_meth {pl:Sem Bool}(he:PE X o ta) (c:Cls X.K C) (hm:Meth X.K C m f) (F:FnOk X.prog X.w X.K X.mg X.base CX k f fd ps sp) (hr:Room k X.A) (hb:Binds X.K fd ps ds) (hd:Vals dvs ds) (hx:Passes CX X E) (ha:PA X (e::es) t)
  (hst:starEach (e::es) X.env=(false,eval e X.env)::starEach es X.env:=by rfl) (hpl:(backTo pos (starEach es X.env)).any (·.1)=false:=by rfl)
  (ht:eval (.Call (.Attribute o m apos) (e::es) [] pos) X.env=(do
   let ov ← eval o X.env
   standAt apos.atName
   let (f,first) ← holding [ov] (getMethod ov m pl)
   callWith pos f first (backTo pos (starEach (e::es) X.env)) (backToKw pos (keywordEach [] X.env))):=by rfl):
  PE X (.Call (.Attribute o m apos) (e::es) [] pos) (tMeth C m sp dvs E ta t):=by
 intro pins s σ H Q I h
 refine PySem.W.methodCall_KW (pl:=pl) (thn (he pins s σ H _ I h) fun u s1 ⟨x,H1,I1,rx,a,dx,fs,ex,ea,l,q⟩=>?_) ht
 subst ex
 obtain rfl:u=Value.ref a:=rx
 refine getmeth_ok I1 ea c hm l ?_
 refine PySem.W.callWith_K (first:=[.ref a]) (h₀:=X.base) I.ok.mod.kin hm.kp (thn (ha pos pins s1 σ H1 _ I1 q) fun us s2 ⟨vs,H2,I2,r,q2⟩=>⟨I2.kIn,?_⟩) hst hpl
 exact run_fn (us:=.ref a::us) (vs:=.ref a::vs) F hr hb hd hx I2 (.cons rfl r) q2
theorem pe_meth0 {pl:Sem Bool}(he:PE X o ta) (c:Cls X.K C) (hm:Meth X.K C m f) (F:FnOk X.prog X.w X.K X.mg X.base CX k f fd ps sp) (hr:Room k X.A) (hb:Binds X.K fd ps ds) (hd:Vals dvs ds) (hx:Passes CX X E)
  (ht:eval (.Call (.Attribute o m apos) [] [] pos) X.env=(do
   let ov ← eval o X.env
   standAt apos.atName
   let (f,first) ← holding [ov] (getMethod ov m pl)
   callWith pos f first (backTo pos (starEach [] X.env)) (backToKw pos (keywordEach [] X.env))):=by rfl):
  PE X (.Call (.Attribute o m apos) [] [] pos) (tMeth C m sp dvs E ta tNil):=by
 intro pins s σ H Q I h
 refine PySem.W.methodCall_KW (pl:=pl) (thn (he pins s σ H _ I h) fun u s1 ⟨x,H1,I1,rx,a,dx,fs,ex,ea,l,q⟩=>?_) ht
 subst ex
 obtain rfl:u=Value.ref a:=rx
 refine getmeth_ok I1 ea c hm l ?_
 exact PySem.W.callWith_K0 (first:=[.ref a]) I1.kIn hm.kp (run_fn (us:=[.ref a]) (vs:=[.ref a]) F hr hb hd hx I1 (.cons rfl .nil) q)
structure Mk (K:PySem.W.Frag) (C f:Addr):Prop where
 makes:PySem.W.makesIn K C=true
 init:PySem.W.findIn K (.ref C) "__init__"=some (some (.ref f))
 fn:PySem.W.isFn K (.ref f)=true
 kp:PySem.W.keepIn K (.ref C)=true
theorem run_make {pins:List (Addr × Obj)}{σ:St}{H:Hp}{s:Shared}{Q:VK}{us:List Value}{vs:List V}(M:Mk X.K C f) (F:FnOk X.prog X.w X.K X.mg X.base CX k f fd ps sp) (hr:Room (k + 1) X.A) (hb:Binds X.K fd ps ds) (hd:Vals dvs ds)
  (hx:Passes CX X E) (I:Inv X pins σ H s) (r:Vals vs us)
  (h:∀ x dx,H x=none→H dx=none→dx≠x→sp (.ref x::(vs++dvs)) (upd (upd H dx (.own x)) x (.ins C dx [])) (fun v H2=>v=.non∧Q (.ref x) H2) E):
  wpAny (model X.prog X.w) X.A (call (.ref C) us) (EP X pins σ Q) X.xe s:=by
 have hq:=h (s.heap.objs.size + 1) s.heap.objs.size (I.hok.fresh (Nat.le_succ _)) (I.hok.fresh (Nat.le_refl _)) (Nat.ne_of_lt (Nat.lt_succ_self _))
 have I2:=Inv.made (C:=C) I
 have r2:Vals (V.ref (s.heap.objs.size + 1)::(vs++dvs)) (Value.ref (s.heap.objs.size + 1)::(us++ds)):=.cons rfl (r.append hd)
 have hl:(Value.ref (s.heap.objs.size + 1)::us++ds).length=ps.length:=by
  have e:=r2.length
  rw [F.len _ _ _ _ hq] at e
  exact e.symm
 refine wpAny_call (make_map (f:=f) I.kIn M.makes M.init (beq_iff_eq.mp M.fn) (codeAny_mono (F.run _ X.stack _ _ ⟨Value.ref (s.heap.objs.size + 1)::us,[]⟩ (Value.ref (s.heap.objs.size + 1)::(us++ds)) _ _ E (hr.make C us [])
  (I2.env0.make C us []) (hb _ (Value.ref (s.heap.objs.size + 1)::us) I2.kIn hl) r2 hq) fun r s' hq'=>?_))
 cases r with
 | error e=>exact hx pins σ _ _ e s' I2 hq'
 | ok fl=>
  cases fl with
  | ret u=>
   obtain⟨v,H',I3,rv,ev,q3⟩:=I2.after hq'
   subst ev
   exact⟨rv,⟨V.ref (s.heap.objs.size + 1),H',I3,rfl,q3⟩⟩
  | next=>exact False.elim hq'
  | brk=>exact False.elim hq'
  | cont=>exact False.elim hq'
theorem pe_make (M:Mk X.K C f) (F:FnOk X.prog X.w X.K X.mg X.base CX k f fd ps sp) (hr:Room (k + 1) X.A) (hg:Gl X x) (hm:X.mg x=some (.ref C)) (hb:Binds X.K fd ps ds) (hd:Vals dvs ds) (hx:Passes CX X E)
  (ha:PA X (e::es) t) (hdb:(x == ("__debug__":Str))=false:=by decide) (he:starEach (e::es) X.env=(false,eval e X.env)::starEach es X.env:=by rfl) (hpl:(backTo pos (starEach es X.env)).any (·.1)=false:=by rfl):
  PE X (.Call (.Name x p) (e::es) [] pos) (tMake C sp dvs E t):=by
 intro pins s σ H Q I h
 refine wpAny_Call_Name_kw (ld_glob I hg hm ?_ hdb)
 refine PySem.W.callWith_K (h₀:=X.base) I.ok.mod.kin M.kp (thn (ha pos pins s σ H _ I h) fun us s1 ⟨vs,H1,I1,r,q⟩=>⟨I1.kIn,?_⟩) he hpl
 exact run_make M F hr hb hd hx I1 r q
theorem pe_make0 (M:Mk X.K C f) (F:FnOk X.prog X.w X.K X.mg X.base CX k f fd ps sp) (hr:Room (k + 1) X.A) (hg:Gl X x) (hm:X.mg x=some (.ref C)) (hb:Binds X.K fd ps ds) (hd:Vals dvs ds) (hx:Passes CX X E)
  (hdb:(x == ("__debug__":Str))=false:=by decide):PE X (.Call (.Name x p) [] [] pos) (tMake C sp dvs E tNil):=by
 intro pins s σ H Q I h
 refine wpAny_Call_Name_kw (ld_glob I hg hm ?_ hdb)
 exact PySem.W.callWith_K0 I.kIn M.kp (run_make (us:=[]) M F hr hb hd hx I .nil h)
end
section
variable {X:Cx}{CX:CXT}{k:Nat}{f C:Addr}{fd:FuncData}{ps ks:List Str}{sp:Sp}{E:XK}{x m:Str}{p pos apos kpos:Pos}{e o:Expr}{es:List Expr}{kws:List Keyword}{te ta:TE}{t tk:TA}{nm:Option Str}
variable {g:List Value→List Value→List Value}{gV:List V→List V→List V}
end
structure FnScope (N P:List Str) (sc:Scope):Prop where
 kind:sc.kind=.function
 co:sc.isCoroutine=false
 gen:sc.isGenerator=false
 nd:N.Nodup
 pre:N.take P.length=P
 par:∀ x∈P,sc.names.lookup x=some .local∨sc.names.lookup x=some .cell
 nofree:∀ y∈sc.names,y.2≠.free
theorem bindL_out {kindOf:Str→Option NameKind}{x:Str}:∀ {binds:List (Str × Value)}{m:Str→Option Value},(∀ v,(x,v) ∉ binds)→bindL kindOf binds m x=m x
 | [],_,_=>rfl
 | (n,v)::r,m,h=>by
  unfold bindL
  rw [bindL_out fun w hw=>h w (List.mem_cons_of_mem _ hw)]
  split
  ·have:x≠n:=by rintro rfl;exact h v List.mem_cons_self
   simp [this]
  ·rfl
theorem bindC_out {kindOf:Str→Option NameKind}{x:Str}:∀ {binds:List (Str × Value)}{m:Str→Option Value},(∀ v,(x,v) ∉ binds)→bindC kindOf binds m x=m x
 | [],_,_=>rfl
 | (n,v)::r,m,h=>by
  unfold bindC
  rw [bindC_out fun w hw=>h w (List.mem_cons_of_mem _ hw)]
  split
  ·rfl
  ·have:x≠n:=by rintro rfl;exact h v List.mem_cons_self
   simp [this]
theorem bindL_get {kindOf:Str→Option NameKind}{x:Str}{v:Value}:∀ {P:List Str}{vs:List Value}{i:Nat}{m:Str→Option Value},P.Nodup→P[i]?=some x→vs[i]?=some v→kindOf x=some .local→
  bindL kindOf (P.zip vs) m x=some v
 | [],_,_,_,_,h,_,_=>by simp at h
 | _::_,[],_,_,_,_,h,_=>by simp at h
 | p::P,w::vs,0,m,nd,h1,h2,hk=>by
  simp at h1 h2;subst h1;subst h2
  show bindL kindOf ((p,w)::P.zip vs) m p=_
  unfold bindL
  rw [bindL_out fun v hv=>(List.nodup_cons.mp nd).1 (List.of_mem_zip hv).1,if_pos hk]
  simp
 | p::P,w::vs,i + 1,m,nd,h1,h2,hk=>by
  show bindL kindOf ((p,w)::P.zip vs) m x=_
  unfold bindL
  exact bindL_get (i:=i) (List.nodup_cons.mp nd).2 (by simpa using h1) (by simpa using h2) hk
theorem bindC_get {kindOf:Str→Option NameKind}{x:Str}{v:Value}:∀ {P:List Str}{vs:List Value}{i:Nat}{m:Str→Option Value},P.Nodup→P[i]?=some x→vs[i]?=some v→kindOf x≠some .local→
  bindC kindOf (P.zip vs) m x=some v
 | [],_,_,_,_,h,_,_=>by simp at h
 | _::_,[],_,_,_,_,h,_=>by simp at h
 | p::P,w::vs,0,m,nd,h1,h2,hk=>by
  simp at h1 h2;subst h1;subst h2
  show bindC kindOf ((p,w)::P.zip vs) m p=_
  unfold bindC
  rw [bindC_out fun v hv=>(List.nodup_cons.mp nd).1 (List.of_mem_zip hv).1,if_neg hk]
  simp
 | p::P,w::vs,i + 1,m,nd,h1,h2,hk=>by
  show bindC kindOf ((p,w)::P.zip vs) m x=_
  unfold bindC
  exact bindC_get (i:=i) (List.nodup_cons.mp nd).2 (by simpa using h1) (by simpa using h2) hk
def start (N:List Str) (vs:List V):St:=vs.map some++List.replicate (N.length - vs.length) none
def cxOf (CX:CXT) (P:Program) (w:World) (K:PySem.W.Frag) (mg:Str→Option Value) (base:Heap) (N:List Str) (qual:Str) (scope:Scope) (f:Addr) (cd:Value) (A:Around) (outer:List Env) (s:Shared) (H:Hp) (E:XK):Cx where
 prog:=P
 w:=w
 K:=K
 mg:=mg
 base:=base
 A:=A.deeper (envOfC qual scope s.heap.objs.size f cd)
 N:=N
 s₀:=s
 H₀:=H
 env:=envOfC qual scope s.heap.objs.size f cd
 outer:=outer
 stack:=envOfC qual scope s.heap.objs.size f cd::outer
 ex:=[]
 calm:=true
 fn:=fun _=>true
 pn:=[]
 xe:=fun e s'=>wpAny (model P w) (A.deeper (envOfC qual scope s.heap.objs.size f cd)) (leaving (envOfC qual scope s.heap.objs.size f cd) e) (fun _ s''=>CX outer H s E e s'') (fun e' s''=>CX outer H s E e' s'') s'
theorem cell_has {sc:Scope}{n:Nat}{x:Str}(h:sc.names.lookup x=some .cell):∃ c,(cellsFrom n sc.names []).lookup x=some c:=by
 have q:=PySem.W.cellsFrom_some sc.names n [] (.inl h)
 exact Option.isSome_iff_exists.mp q
theorem inv_start {CX:CXT}{P:Program}{w:World}{K:PySem.W.Frag}{mg:Str→Option Value}{base:Heap}{N ps:List Str}{qual:Str}{scope:Scope}{f:Addr}{cd:Value}{A:Around}{outer:List Env}{s s1:Shared}{H:Hp}{E:XK}{us:List Value}{vs:List V}
  (S:FnScope N ps scope) (hd:A.handled=none) (e0:Env0 P w K mg base A outer s H) (hl:vs.length=ps.length) (r:Vals vs us)
  (x:InCallC s s.heap.objs.size (bindL (envOfC qual scope s.heap.objs.size f cd).kindOf (ps.zip us) fun _=>none) (cellsFrom (s.heap.objs.size + 1) scope.names []) (bindC (envOfC qual scope s.heap.objs.size f cd).kindOf (ps.zip us) fun _=>none) s1):
  Inv (cxOf CX P w K mg base N qual scope f cd A outer s H E) [] (start N vs) H s1:=by
 have hpl:ps.length≤N.length:=by have:=congrArg List.length S.pre;rw [List.length_take] at this;omega
 obtain⟨h1,tk,rfl,hk⟩:=x.done
 have noA:∀ b:Addr,b ∉ (cxOf CX P w K mg base N qual scope f cd A outer s H E).ex:=fun b z=>absurd (show b∈([]:List Addr) from z) (by simp)
 refine⟨⟨e0.mod,S.kind,rfl,rfl,Nat.le_refl _,fun y z c h1 h2=>?_,fun y hy=>?_,fun y c _ h=>?_,fun _=>hd,Around.frames_deeper e0.frames,.inr ⟨rfl,rfl⟩,fun b z=>absurd z (noA b),e0.bs,e0.bsz,fun b _ _=>noA b,fun b z=>absurd z (noA b),e0.funs,e0.frf⟩,
  rfl,e0.bare,Un.kept hk,⟨_,x.toInCall.ns,fun i y v h1 h2 h3=>?_⟩,fun y c h=>⟨_,x.cell y c h⟩,e0.hok.fresh (Nat.le_refl _),fun y c h=>?_,fun p hp=>absurd (show p∈([]:List (Addr × Obj)) from hp) (by simp),e0.hok.kept hk,?_⟩
 ·exact name_of_addr x.apart (PySem.mem_of_lookup h1) (PySem.mem_of_lookup h2)
 ·have hy:scope.names.lookup y=some .cell∨scope.names.lookup y=some .free:=hy
  rcases hy with hy | hy
  ·exact cell_has hy
  ·exact absurd rfl (S.nofree _ (PySem.mem_of_lookup hy))
 ·exact Nat.le_of_lt (x.above y c (PySem.mem_of_lookup h))
 ·have hi:i < vs.length:=by
   unfold start at h2
   by_cases hi:i < vs.length
   ·exact hi
   ·rw [List.getElem?_append_right (by simpa using hi)] at h2
    rw [List.getElem?_replicate] at h2
    split at h2 <;> cases h2
  have ha:vs[i]?=some v:=by
   unfold start at h2
   rw [List.getElem?_append_left (by simpa using hi),List.getElem?_map] at h2
   cases e:vs[i]? with
   | none=>rw [e] at h2;cases h2
   | some a=>rw [e] at h2;cases h2;rfl
  obtain⟨u,hu,rv⟩:=r.get ha
  have hp:ps[i]?=some y:=by
   rw [← S.pre,List.getElem?_take_of_lt (by omega)];exact h1
  have ndP:ps.Nodup:=by rw [← S.pre];exact S.nd.sublist (List.take_sublist _ _)
  refine⟨u,rv,?_⟩
  rcases S.par y (List.mem_of_getElem? hp) with k | k
  ·exact .inl ⟨k,bindL_get ndP hp hu k⟩
  ·obtain⟨c,e⟩:=cell_has (n:=s.heap.objs.size + 1) k
   refine .inr ⟨.inl k,c,e,?_⟩
   have q:=x.cell y c e
   rw [bindC_get ndP hp hu (by show scope.names.lookup y≠_;rw [k];decide)] at q
   exact q
 ·exact e0.hok.fresh (Nat.le_of_lt (x.above y c (PySem.mem_of_lookup h)))
 ·unfold start
  show _=N.length
  rw [List.length_append,List.length_map,List.length_replicate]
  omega
theorem fn_of {CX:CXT}{P:Program}{w:World}{K:PySem.W.Frag}{mg:Str→Option Value}{base:Heap}{k:Nat}{f:Addr}{name qual:Str}{params:Arguments}{body:List Stmt}{scope:Scope}{dV kV doc pm cdv ct oc:Value}{an od:Option Addr}
  {osl:Array (Option Value)}{N ps:List Str}{sp:Sp}(lk:K.lookup f=some ⟨oc,od,.func (PySem.W.fnOf name qual params body scope dV kV doc pm an cdv ct),osl⟩) (hcd:PySem.W.codeIn K cdv qual=true) (S:FnScope N ps scope)
  (len:∀ vs H Q E,sp vs H Q E→vs.length=ps.length)
  (hbody:∀ (A:Around) (outer:List Env) (s:Shared) (H:Hp) (vs:List V) (Q:VK) (E:XK),Room k (A.deeper (envOfC qual scope s.heap.objs.size f cdv))→sp vs H Q E→
   ∃ t,PSs (cxOf CX P w K mg base N qual scope f cdv A outer s H E) body t∧t { nx:=fun _ H'=>Q .non H',rt:=Q } (start N vs) H):
  FnOk P w K mg base CX (k + 1) f (PySem.W.fnOf name qual params body scope dV kV doc pm an cdv ct) ps sp:=by
 refine⟨len,fun A outer s H args us vs Q E hr e0 hb r hsp=>?_⟩
 have hl:=len _ _ _ _ hsp
 have KX:K.In s.heap:=e0.mod.kin.keeps fun b o e=>(e0.bs b o e).1
 have lim:s.heap.NoLimit:=e0.mod.nolimit.keeps fun b o e=>(e0.bs b o e).1
 have hkind:∀ y∈ps.zip us,scope.names.lookup y.1=some .local∨(scope.names.lookup y.1=some .cell∧((cellsFrom (s.heap.objs.size + 1) scope.names []).lookup y.1).isSome=true):=fun⟨n,v⟩ hy=>by
  rcases S.par n (List.of_mem_zip hy).1 with q | q
  ·exact .inl q
  ·exact .inr ⟨q,PySem.W.cellsFrom_some _ _ _ (.inl q)⟩
 refine codeAny_call_function hr.depth (KX _ _ lk) rfl S.co S.gen rfl (PySem.W.codeRec_of KX hcd) (hb _ _ _ _ ?_)
 refine wpAny_newFunctionEnv_cells S.kind hkind fun env he s1 x=>?_
 subst he
 refine⟨lim.keeps x.toInCall.keep,codeAny_func ?_⟩
 obtain⟨t,ht,hq⟩:=hbody A outer s H vs Q E (hr.deeper _) hsp
 have I:Inv (cxOf CX P w K mg base N qual scope f cdv A outer s H E) [] (start N vs) H s1:=inv_start S hr.hd e0 hl r x
 refine wpAny_mono (ht [] s1 (start N vs) H _ I hq) (fun fl s' hs=>?_) fun e s' hs=>hs
 have fin:∀ {σ':St}{H':Hp}{v:V}{u:Value},Inv (cxOf CX P w K mg base N qual scope f cdv A outer s H E) [] σ' H' s'→RelV v u→Q v H'→CE outer P w H s Q u s':=
  fun{σ' H' v u} J rv q=>⟨v,H',J.os,J.bare,J.base,J.hok,rv,q⟩
 cases fl with
 | ret u=>
  obtain⟨v,σ',H',J,rv,q⟩:=hs
  exact fin J rv q
 | next=>
  obtain⟨σ',H',J,q⟩:=hs
  exact fin (v:=V.non) (u:=Value.none) J rfl q
 | brk=>
  obtain⟨_,_,_,q⟩:=hs
  exact False.elim q
 | cont=>
  obtain⟨_,_,_,q⟩:=hs
  exact False.elim q
end L2
namespace L2
open PySem PySem.Spec PyProof.Rows
section
variable {X:Cx}{x:Str}{p pos:Pos}{e:Expr}{es:List Expr}{t:TA}{id T:String}{r:List V→Hp→VK→Prop}
def tCB (r:List V→Hp→VK→Prop) (t:TA):TE:=fun σ H Q=>t σ H fun vs H1=>r vs H1 Q
theorem pe_callB (hc:CallR X (.builtin id) r) (hg:Gl X x) (hm:X.mg x=none) (hv:bootBuiltins x=some (.builtin id)) (ha:PA X (e::es) t) (hn:x≠"__name__":=by decide) (hdb:(x == ("__debug__":Str))=false:=by decide)
  (he:starEach (e::es) X.env=(false,eval e X.env)::starEach es X.env:=by rfl) (hpl:(backTo pos (starEach es X.env)).any (·.1)=false:=by rfl):PE X (.Call (.Name x p) (e::es) [] pos) (tCB r t):=by
 intro pins s σ H Q I h
 refine wpAny_Call_Name_kw (ld_blt I hg hm hv ?_ hn hdb)
 exact PyProof.Rows.callWith_builtin1 (thn (ha pos pins s σ H _ I h) fun us s1 ⟨vs,H1,I1,r1,q1⟩=>hc pins s1 σ H1 vs us Q I1 r1 q1) he hpl
theorem pe_callTy (hc:CallR X (.type T) r) (hg:Gl X x) (hm:X.mg x=none) (hv:bootBuiltins x=some (.type T)) (ha:PA X (e::es) t) (hn:x≠"__name__":=by decide) (hdb:(x == ("__debug__":Str))=false:=by decide)
  (he:starEach (e::es) X.env=(false,eval e X.env)::starEach es X.env:=by rfl) (hpl:(backTo pos (starEach es X.env)).any (·.1)=false:=by rfl):PE X (.Call (.Name x p) (e::es) [] pos) (tCB r t):=by
 intro pins s σ H Q I h
 refine wpAny_Call_Name_kw (ld_blt I hg hm hv ?_ hn hdb)
 exact PyProof.Rows.callWith_type1 (thn (ha pos pins s σ H _ I h) fun us s1 ⟨vs,H1,I1,r1,q1⟩=>hc pins s1 σ H1 vs us Q I1 r1 q1) he hpl
end
end L2
namespace HT
open PySem PyProof.Rows
def lexLt:List Int→List Int→Bool
 | [],[]=>false
 | [],_::_=>true
 | _::_,[]=>false
 | x::xs,y::ys=>if x=y then lexLt xs ys else decide (x < y)
section
open PySem.SeqAt
open PySem.AutoSeq1 (wpAny_loadPart')
open PySem.MeetsSeq PySem.MeetsSeq2 PySem.MeetsSeq3
end
section
variable {prog:Program}{w:World}{A:Around}{E:Value→Shared→Prop}{s:Shared}
def sIx (n d:Nat):Option Int→Nat
 | none=>d
 | some v=>if v < 0 then(v + (n:Int)).toNat else min v.toNat n
theorem sIx_none (n d:Nat):sIx n d none=d:=rfl
theorem sIx_nat (n d k:Nat):sIx n d (some (k:Int))=min k n:=by
 show (if (k:Int) < 0 then((k:Int) + (n:Int)).toNat else min (k:Int).toNat n)=min k n
 rw [if_neg (by omega),Int.toNat_natCast]
end
end HT
namespace L2
open PySem PySem.Spec PyProof.Rows
abbrev TO:=St→Hp→(Option Int→Hp→Prop)→Prop
def PO (X:Cx) (e:Option Expr) (t:TO):Prop:=
 ∀ (pins:List (Addr × Obj)) (s:Shared) (σ:St) (H:Hp) (Q:Option Int→Hp→Prop),Inv X pins σ H s→t σ H Q→
  wpAny (model X.prog X.w) X.A (evalPart e X.env) (fun u s'=>∃ o H',Inv X pins σ H' s'∧IsPart u o∧Q o H') X.xe s
def tNoPart:TO:=fun _ H Q=>Q none H
def tPart (t:TE):TO:=fun σ H Q=>t σ H fun x H1=>∃ i,x=.int i∧Q (some i) H1
section
variable {X:Cx}{e:Expr}{te:TE}{lo hi:Option Expr}{tl th:TO}{pos p2:Pos}
theorem po_none:PO X none tNoPart:=by
 intro pins s σ H Q I h
 rw [evalPart_none]
 exact wpAny_pure ⟨none,H,I,.none,h⟩
theorem po_some (h:PE X e te):PO X (some e) (tPart te):=by
 intro pins s σ H Q I hw
 rw [evalPart_some]
 refine thn (h pins s σ H _ I hw) fun u s1 ⟨x,H1,I1,r1,q1⟩=>?_
 obtain⟨i,rfl,q⟩:=q1
 obtain⟨t,rfl⟩:=r1
 exact⟨some i,H1,I1,.int i t,q⟩
def SlR (X:Cx) (r:V→Option Int→Option Int→Hp→VK→Prop):Prop:=
 ∀ (pins:List (Addr × Obj)) (s:Shared) (σ:St) (H:Hp) (x:V) (v vl vu:Value) (lo hi:Option Int) (sl:Addr) (Q:VK),Inv X pins σ H s→RelV x v→s.heap.IsSliceOf sl vl vu .none→IsPart vl lo→IsPart vu hi→r x lo hi H Q→
  ∃ T id,typeLookup (.type T) "__getitem__"=pure (some (.builtin id))∧s.TypeIs v T∧wpAny (model X.prog X.w) X.A (getItem v (.ref sl)) (EP X pins σ Q) X.xe s
def tSl (r:V→Option Int→Option Int→Hp→VK→Prop) (te:TE) (tl th:TO):TE:=fun σ H Q=>te σ H fun x H1=>tl σ H1 fun l H2=>th σ H2 fun u H3=>r x l u H3 Q
theorem pe_slice {r:V→Option Int→Option Int→Hp→VK→Prop}(hr:SlR X r) (he:PE X e te) (hl:PO X lo tl) (hu:PO X hi th):PE X (.Subscript e (.Slice lo hi none p2) pos) (tSl r te tl th):=by
 intro pins s σ H Q I h
 refine Subscript_ (thn (he pins s σ H _ I h) fun v s1 ⟨x,H1,I1,r1,q1⟩=>?_)
 refine wpAny_Slice (thn (hl pins s1 σ H1 _ I1 q1) fun vl s2 ⟨l,H2,I2,pl,q2⟩=>thn (hu pins s2 σ H2 _ I2 q2) fun vu s3 ⟨u,H3,I3,pu,q3⟩=>?_)
 rw [evalPart_none]
 refine wpAny_pure ?_
 have I4:Inv X pins σ H3 { s3 with heap:=s3.heap.push { cls:=.type "slice",data:=.fields #[vl,vu,.none] } }:=I3.kept (t':=s3.toks) fun b ob q=>Heap.get?_push_of_some _ q
 obtain⟨T,id,hT,ht,hg⟩:=hr pins { s3 with heap:=s3.heap.push { cls:=.type "slice",data:=.fields #[vl,vu,.none] } } σ H3 x v vl vu l u s3.heap.objs.size Q I4 r1 (Heap.IsSliceOf.new ..) pl pu q3
 show wpAny (model X.prog X.w) X.A (subscriptTail e (.Slice lo hi none p2) v (.ref s3.heap.objs.size)) (EP X pins σ Q) X.xe { s3 with heap:=s3.heap.push { cls:=.type "slice",data:=.fields #[vl,vu,.none] } }
 exact tail_any (ops:=[.ref s3.heap.objs.size,v]) ht hT hg (by with_unfolding_all rfl)
def cutV (xs:List V) (lo hi:Option Int):List V:=(xs.drop (HT.sIx xs.length 0 lo)).take (HT.sIx xs.length xs.length hi - HT.sIx xs.length 0 lo)
theorem cutV_length (xs:List V) (lo hi:Option Int):(cutV xs lo hi).length≤xs.length:=by
 unfold cutV
 rw [List.length_take,List.length_drop]
 omega
end
end L2
namespace L2
open PySem PySem.Spec PyProof.Rows
def ixN (n:Nat) (i:Int):Option Nat:=if 0≤i then(if i < n then some i.toNat else none) else if -(n:Int)≤i then some (i + n).toNat else none
def atI {α:Type}(xs:List α) (i:Int):Option α:=(ixN xs.length i).bind fun j=>xs[j]?
theorem ixN_seq {n:Nat}{i:Int}{j:Nat}(h:ixN n i=some j):seqIndex? i n=some j∧j < n∧-(n:Int)≤i∧i < n:=by
 unfold ixN at h
 by_cases h0:0≤i
 ·rw [if_pos h0] at h
  by_cases h1:i < n
  ·rw [if_pos h1] at h
   have e:i.toNat=j:=Option.some.inj h
   exact⟨by rw [seqIndex_of h0 h1,e],by omega,by omega,h1⟩
  ·rw [if_neg h1] at h;cases h
 ·rw [if_neg h0] at h
  by_cases h1:-(n:Int)≤i
  ·rw [if_pos h1] at h
   have e:(i + n).toNat=j:=Option.some.inj h
   exact⟨by rw [seqIndex_neg (by omega) h1,e],by omega,h1,by omega⟩
  ·rw [if_neg h1] at h;cases h
theorem atI_get {α:Type}{xs:List α}{i:Int}{v:α}(h:atI xs i=some v):∃ j,seqIndex? i xs.length=some j∧xs[j]?=some v∧j < xs.length∧-(xs.length:Int)≤i∧i < xs.length:=by
 unfold atI at h
 cases e:ixN xs.length i with
 | none=>rw [e] at h;cases h
 | some j=>
  rw [e] at h
  obtain⟨h1,h2,h3,h4⟩:=ixN_seq e
  exact⟨j,h1,h,h2,h3,h4⟩
theorem atI_nat {α:Type}{xs:List α}{j:Nat}{v:α}(h:xs[j]?=some v):atI xs (j:Int)=some v:=by
 have hj:j < xs.length:=(List.getElem?_eq_some_iff.mp h).1
 have e:ixN xs.length (j:Int)=some j:=by
  unfold ixN
  rw [if_pos (by omega),if_pos (by omega)];simp
 unfold atI;rw [e];exact h
def PlainIx (b:Expr):Prop:=∀ o i,subscripted b false o i=operate [o,i] (getItem o i)
def IxR (X:Cx) (r:R2):Prop:=
 ∀ (value slice:Expr) (pins:List (Addr × Obj)) (s:Shared) (σ:St) (H:Hp) (x y:V) (v u:Value) (Q:VK),Inv X pins σ H s→RelV x v→RelV y u→r x y H Q→
  subscripted slice false v u=operate [v,u] (getItem v u)→wpAny (model X.prog X.w) X.A (subscriptTail value slice v u) (EP X pins σ Q) X.xe s
def MtR (X:Cx) (id:String) (r:V→List V→Hp→VK→Prop):Prop:=
 ∀ (pins:List (Addr × Obj)) (s:Shared) (σ:St) (H:Hp) (x:V) (xs:List V) (v:Value) (us:List Value) (Q:VK),Inv X pins σ H s→RelV x v→Vals xs us→r x xs H Q→
  wpAny (model X.prog X.w) X.A (call (.builtin id) (v::us)) (EP X pins σ Q) X.xe s
section
variable {X:Cx}{a b:Expr}{ta tb:TE}{pos:Pos}
theorem pe_ix {r:R2}(hr:IxR X r) (ha:PE X a ta) (hb:PE X b tb) (hs:PlainIx b):PE X (.Subscript a b pos) (tOp r ta tb):=by
 intro pins s σ H Q I h
 exact Subscript_ (binT ha hb I h fun v u s2 x y H2 I2 rx ry q=>hr a b pins s2 σ H2 x y v u Q I2 rx ry q (hs _ _))
def rIxL (K:PySem.W.Frag):R2:=fun x y H Q=>∃ p xs i v,x=.ref p∧y=.int i∧SqL K H p xs∧atI xs i=some v∧Q v H
def rIxT (K:PySem.W.Frag):R2:=fun x y H Q=>∃ p xs i v,x=.ref p∧y=.int i∧SqT K H p xs∧atI xs i=some v∧Q v H
def rIxS:R2:=fun x y H Q=>∃ z i c,x=.str z∧y=.int i∧z.length≤sizeLine∧atI z.cps.toList i=some c∧Q (.str ⟨#[c]⟩) H
theorem ix_list:IxR X (rIxL X.K):=by
 intro value slice pins s σ H x y v u Q I rx ry h hs
 obtain⟨p,xs,i,z,rfl,rfl,hq,he,q⟩:=h
 cases rx
 obtain⟨t,rfl⟩:=ry
 obtain⟨its,r,pl,hz⟩:=I.list hq
 obtain⟨j,h1,h2,h3,h4,h5⟩:=atI_get he
 obtain⟨w,ew,rw'⟩:=r.get h2
 have hl:=r.length
 have hn:=line63
 have fin:EP X pins σ Q w s:=⟨z,H,I,rw',q⟩
 by_cases h0:0≤i
 ·have hj:i.toNat=j:=by
   rw [seqIndex_of h0 h5] at h1
   exact Option.some.inj h1
  exact item_listR pl.isList h0 (by omega) (by rw [hj];simpa using ew) fin hs
 ·have hj:(i + (its.toArray.size:Int)).toNat=j:=by
   rw [seqIndex_neg (by omega) h4] at h1
   rw [List.size_toArray,← hl]
   exact Option.some.inj h1
  exact subscriptTail_builtinR (x:=w) pl.isList.typeIs slot_list_getitem.lookup
   (wpAny_getItem_list_neg (Q:=fun r s'=>r=w∧EP X pins σ Q r s') pl.isList (by omega) (by rw [List.size_toArray] <;> omega) (by omega) (by rw [hj];simpa using ew) ⟨rfl,fin⟩) hs
theorem ix_tup:IxR X (rIxT X.K):=by
 intro value slice pins s σ H x y v u Q I rx ry h hs
 obtain⟨p,xs,i,z,rfl,rfl,hq,he,q⟩:=h
 cases rx
 obtain⟨t,rfl⟩:=ry
 obtain⟨its,r,pl,hz⟩:=I.tuple hq
 obtain⟨j,h1,h2,h3,h4,h5⟩:=atI_get he
 obtain⟨w,ew,rw'⟩:=r.get h2
 have hl:=r.length
 have hn:=line63
 have fin:EP X pins σ Q w s:=⟨z,H,I,rw',q⟩
 exact subscriptTail_builtinR (x:=w) pl.typeIs slot_tuple_getitem.lookup
  (getItem_tuple (j:=j) (Q:=fun r s'=>r=w∧EP X pins σ Q r s') pl (by omega) (by omega) (by rw [List.size_toArray,← hl];exact h1) (by simpa using ew) ⟨rfl,fin⟩) hs
theorem ix_str:IxR X rIxS:=by
 intro value slice pins s σ H x y v u Q I rx ry h hs
 obtain⟨z,i,c,rfl,rfl,hz,he,q⟩:=h
 obtain⟨t,rfl⟩:=rx
 obtain⟨t',rfl⟩:=ry
 obtain⟨j,h1,h2,h3,h4,h5⟩:=atI_get he
 have hl:z.cps.toList.length=z.length:=by simp [Str.length]
 rw [hl] at h1 h4 h5
 have hn:=line63
 exact tail_any (typeIs_str s z t) slot_str_getitem.lookup (getItem_str (c:=c) (by
  have e1:decide (i < -(2 ^ 63:Int))=false:=decide_eq_false (by omega)
  have e2:decide (i ≥ 2 ^ 63)=false:=decide_eq_false (by omega)
  rw [e1,e2,Bool.or_false]) (by rw [h1];simpa using h2) ⟨.str ⟨#[c]⟩,H,I.tok _,⟨_,rfl⟩,q⟩) hs
theorem mapSeq_set (its:List Value) (n j:Nat) (u:Value):Obj.mapSeq (·.setIfInBounds j u) { cls:=.type "list",data:=.seq its.toArray n }={ cls:=.type "list",data:=.seq (its.set j u).toArray n }:=by
 simp [Obj.mapSeq]
theorem Inv.lst {pins:List (Addr × Obj)}{σ:St}{H:Hp}{s:Shared}{p:Addr}{xs:List V}(I:Inv X pins σ H s) (h:H p=some (.lst xs)):
  ∃ (its:List Value) (n:Nat),Vals xs its∧s.heap.get? p=some { cls:=.type "list",data:=.seq its.toArray n }∧xs.length≤sizeLine:=by
 obtain⟨z,its,n,r,e⟩:=I.hok p _ h
 exact⟨its,n,r,e,z⟩
theorem Inv.lstUpd {pins:List (Addr × Obj)}{σ:St}{H:Hp}{s:Shared}{p:Addr}{xs ys:List V}{its its':List Value}{n n':Nat}{f:Obj→Obj}(I:Inv X pins σ H s) (h:H p=some (.lst xs))
  (ho:s.heap.get? p=some { cls:=.type "list",data:=.seq its.toArray n }) (hf:f { cls:=.type "list",data:=.seq its.toArray n }={ cls:=.type "list",data:=.seq its'.toArray n' }) (r:Vals ys its') (hz:ys.length≤sizeLine) (t:Nat):
  Inv X pins σ (upd H p (.lst ys)) { s with heap:=s.heap.update p f,toks:=t }:=by
 have e:(s.heap.update p f).get? p=some { cls:=.type "list",data:=.seq its'.toArray n' }:=by
  rw [Heap.get?_update_self f ho (by rw [hf] <;> rfl),hf]
 refine I.write (x:=p) (e:=p) (by rw [h];trivial) (.inl rfl) (fun b u hb q=>(Heap.get?_update_other _ _ (Ne.symm hb)).trans q) ⟨_,e⟩ ?_
 exact⟨hz,its',n',r,e⟩
def rSetL:V→V→V→Hp→(Hp→Prop)→Prop:=fun o i v H Q=>∃ p xs k j,o=.ref p∧i=.int k∧H p=some (.lst xs)∧ixN xs.length k=some j∧Q (upd H p (.lst (xs.set j v)))
theorem set_list:PSet X rSetL:=by
 intro pins s σ H o i v ov iv u Q I ro ri rv h
 obtain⟨p,xs,k,j,rfl,rfl,hp,hj,q⟩:=h
 cases ro
 obtain⟨t,rfl⟩:=ri
 obtain⟨its,n,r,ho,hz⟩:=I.lst hp
 obtain⟨h1,h2,h3,h4⟩:=ixN_seq hj
 have hl:=r.length
 have hn:=line63
 have I':Inv X pins σ (upd H p (.lst (xs.set j v))) { s with heap:=s.heap.update p (Obj.mapSeq (·.setIfInBounds j u)) }:=
  I.lstUpd hp ho (mapSeq_set its n j u) (r.set rv j) (by rw [List.length_set];exact hz) s.toks
 by_cases h0:0≤k
 ·have hk:k.toNat=j:=by
   rw [seqIndex_of h0 h4] at h1
   exact Option.some.inj h1
  exact PySem.W.ki_setAt ho h0 (by omega) (by rw [List.size_toArray,← hl];exact h4) (by rw [hk];exact⟨_,I',q⟩)
 ·have hk:(k + (its.toArray.size:Int)).toNat=j:=by
   rw [seqIndex_neg (by omega) h3] at h1
   rw [List.size_toArray,← hl]
   exact Option.some.inj h1
  exact PySem.W.ki_setBack ho (by omega) (by rw [List.size_toArray,← hl];exact h3) (by omega) (by rw [hk];exact⟨_,I',q⟩)
theorem slice_bounds (lo hi:Option Int) (n:Nat):(sliceBounds lo hi none n).1=((HT.sIx n 0 lo:Nat):Int)∧(sliceBounds lo hi none n).2.1=((HT.sIx n n hi:Nat):Int)∧(sliceBounds lo hi none n).2.2=1:=by
 refine⟨?_,?_,rfl⟩
 ·cases lo with
  | none=>simp [sliceBounds,HT.sIx]
  | some i=>
   simp only [sliceBounds,HT.sIx,Option.getD_none,show (1:Int) > 0 by decide,if_true]
   by_cases h:i < 0
   ·simp only [h,if_true] <;> omega
   ·simp only [h,if_false] <;> omega
 ·cases hi with
  | none=>simp [sliceBounds,HT.sIx]
  | some i=>
   simp only [sliceBounds,HT.sIx,Option.getD_none,show (1:Int) > 0 by decide,if_true]
   by_cases h:i < 0
   ·simp only [h,if_true] <;> omega
   ·simp only [h,if_false] <;> omega
theorem slicePick_cut (its:List Value) (lo hi:Option Int):slicePick its.toArray lo hi none=((its.drop (HT.sIx its.length 0 lo)).take (HT.sIx its.length its.length hi - HT.sIx its.length 0 lo)).toArray:=by
 obtain⟨h1,h2,h3⟩:=slice_bounds lo hi its.toArray.size
 unfold slicePick
 rw [h1,h2,h3]
 simp only [sliceRange_one,pick_run,List.size_toArray] <;> rfl
def rSlL (K:PySem.W.Frag):V→Option Int→Option Int→Hp→VK→Prop:=fun x lo hi H Q=>∃ a xs,x=.ref a∧SqL K H a xs∧∀ p,H p=none→Q (.ref p) (upd H p (.lst (cutV xs lo hi)))
theorem sl_list:SlR X (rSlL X.K):=by
 intro pins s σ H x v vl vu lo hi sl Q I rx hs pl pu h
 obtain⟨a,xs,rfl,hx,q⟩:=h
 cases rx
 obtain⟨its,r,ht,hz⟩:=I.list hx
 have hlen:=r.length
 refine⟨"list",_,slot_list_getitem.lookup,ht.isList.typeIs,?_⟩
 refine wpAny_getItem_list_slice ht.isList hs pl pu .none (by simp) ?_ (by rw [List.size_toArray] <;> omega)
 rw [slicePick_cut,← hlen]
 refine⟨.ref s.heap.objs.size,_,I.laid (t':=s.toks) (o:=.lst (cutV xs lo hi)) (fun b ob q=>Heap.get?_push_of_some _ q) (Nat.le_refl _) ?_,rfl,q _ (I.hok.fresh (Nat.le_refl _))⟩
 exact⟨Nat.le_trans (cutV_length xs lo hi) hz,_,0,(r.drop (HT.sIx xs.length 0 lo)).take (HT.sIx xs.length xs.length hi - HT.sIx xs.length 0 lo),Heap.get?_push_size _ rfl⟩
def flatV:V→Bool
 | .non=>true
 | .bl _=>true
 | .int _=>true
 | .str _=>true
 | _=>false
def eqV:V→V→Bool
 | .non,.non=>true
 | .bl a,.bl b=>a == b
 | .bl a,.int b=>(if a then 1 else 0) == b
 | .int a,.bl b=>a == (if b then 1 else 0)
 | .int a,.int b=>a == b
 | .str a,.str b=>a == b
 | _,_=>false
theorem eqAt_V {A:Around}{s:Shared}{y x:V}{u v:Value}(ry:RelV y u) (rx:RelV x v) (fy:flatV y=true) (fx:flatV x=true):SeqAt.EqAt A s u v (eqV y x):=by
 cases y with
 | non=>
  cases ry
  cases x with
  | non=>cases rx;exact SeqAt.EqAt.same _
  | bl b=>cases rx;exact SeqAt.EqAt.none_bool b
  | int b=>obtain⟨t,rfl⟩:=rx;exact SeqAt.EqAt.none_int b t
  | str b=>obtain⟨t,rfl⟩:=rx;exact SeqAt.EqAt.none_str b t
  | _=>exact absurd (show false=true from fx) Bool.false_ne_true
 | bl a=>
  cases ry
  cases x with
  | non=>cases rx;exact SeqAt.EqAt.bool_none a
  | bl b=>cases rx;exact SeqAt.EqAt.bool_bool a b
  | int b=>obtain⟨t,rfl⟩:=rx;exact SeqAt.EqAt.bool_int a b t
  | str b=>obtain⟨t,rfl⟩:=rx;exact SeqAt.EqAt.bool_str a b t
  | _=>exact absurd (show false=true from fx) Bool.false_ne_true
 | int a=>
  obtain⟨t',rfl⟩:=ry
  cases x with
  | non=>cases rx;exact SeqAt.EqAt.int_none a t'
  | bl b=>cases rx;exact SeqAt.EqAt.int_bool a t' b
  | int b=>obtain⟨t,rfl⟩:=rx;exact SeqAt.EqAt.int_int a t' b t
  | str b=>obtain⟨t,rfl⟩:=rx;exact SeqAt.EqAt.int_str a t' b t
  | _=>exact absurd (show false=true from fx) Bool.false_ne_true
 | str a=>
  obtain⟨t',rfl⟩:=ry
  cases x with
  | non=>cases rx;exact SeqAt.EqAt.str_none a t'
  | bl b=>cases rx;exact SeqAt.EqAt.str_bool a t' b
  | int b=>obtain⟨t,rfl⟩:=rx;exact SeqAt.EqAt.str_int a t' b t
  | str b=>obtain⟨t,rfl⟩:=rx;exact SeqAt.EqAt.str_str a t' b t
  | _=>exact absurd (show false=true from fx) Bool.false_ne_true
 | _=>exact absurd (show false=true from fy) Bool.false_ne_true
def eqU (x:V) (u:Value):Bool:=match u with
 | .none=>eqV .non x
 | .bool b=>eqV (.bl b) x
 | .int i _=>eqV (.int i) x
 | .str z _=>eqV (.str z) x
 | _=>false
theorem eqU_of {x y:V}{u:Value}(r:RelV y u) (f:flatV y=true):eqU x u=eqV y x:=by
 cases y with
 | non=>cases r;rfl
 | bl b=>cases r;rfl
 | int i=>obtain⟨t,rfl⟩:=r;rfl
 | str z=>obtain⟨t,rfl⟩:=r;rfl
 | _=>exact absurd (show false=true from f) Bool.false_ne_true
theorem any_eqU {x:V}:∀ {xs:List V}{us:List Value},Vals xs us→xs.all flatV=true→us.any (eqU x)=xs.any fun y=>eqV y x
 | _,_,.nil,_=>rfl
 | y::xs,u::us,.cons r t,f=>by
  rw [List.all_cons,Bool.and_eq_true] at f
  rw [List.any_cons,List.any_cons,eqU_of r f.1,any_eqU t f.2]
theorem mem_eqAt {A:Around}{s:Shared}{x:V}{v:Value}(rx:RelV x v) (fx:flatV x=true):∀ {xs:List V}{us:List Value},Vals xs us→xs.all flatV=true→∀ u∈us,SeqAt.EqAt A s u v (eqU x u)
 | _,_,.nil,_=>fun u hu=>by cases hu
 | y::xs,u::us,.cons r t,f=>fun u' hu=>by
  rw [List.all_cons,Bool.and_eq_true] at f
  rcases List.mem_cons.mp hu with rfl | hu
  ·rw [eqU_of r f.1];exact eqAt_V r rx f.1 fx
  ·exact mem_eqAt rx fx t f.2 u' hu
def inV (x:V) (xs:List V):Bool:=xs.any fun y=>eqV y x
def rIn (K:PySem.W.Frag) (neg:Bool):R2:=fun x y H Q=>∃ p xs,y=.ref p∧(SqL K H p xs∨SqT K H p xs)∧flatV x=true∧xs.all flatV=true∧Q (.bl (if neg then !inV x xs else inV x xs)) H
theorem op_in_seq:OpR X (compareOp .In) (rIn X.K false):=by
 intro pins s σ H x y v u Q I rx ry h
 obtain⟨p,xs,rfl,hq,fx,fs,q⟩:=h
 cases ry
 rcases hq with hq | hq
 ·obtain⟨its,r,pl,hz⟩:=I.list hq
  refine SeqAt.in_listAt (eqU x) pl.isList (fun w hw=>mem_eqAt rx fx r fs w (by simpa using hw)) ⟨.bl _,H,I,rfl,?_⟩
  rw [show its.toArray.any (eqU x)=its.any (eqU x) by simp,any_eqU r fs]
  exact q
 ·obtain⟨its,r,pl,hz⟩:=I.tuple hq
  refine SeqAt.in_tupleAt (eqU x) pl (fun w hw=>mem_eqAt rx fx r fs w (by simpa using hw)) ⟨.bl _,H,I,rfl,?_⟩
  rw [show its.toArray.any (eqU x)=its.any (eqU x) by simp,any_eqU r fs]
  exact q
theorem op_notIn_seq:OpR X (compareOp .NotIn) (rIn X.K true):=by
 intro pins s σ H x y v u Q I rx ry h
 obtain⟨p,xs,rfl,hq,fx,fs,q⟩:=h
 cases ry
 rcases hq with hq | hq
 ·obtain⟨its,r,pl,hz⟩:=I.list hq
  refine SeqAt.notIn_listAt (eqU x) pl.isList (fun w hw=>mem_eqAt rx fx r fs w (by simpa using hw)) ⟨.bl _,H,I,rfl,?_⟩
  rw [show its.toArray.any (eqU x)=its.any (eqU x) by simp,any_eqU r fs]
  exact q
 ·obtain⟨its,r,pl,hz⟩:=I.tuple hq
  refine SeqAt.notIn_tupleAt (eqU x) pl (fun w hw=>mem_eqAt rx fx r fs w (by simpa using hw)) ⟨.bl _,H,I,rfl,?_⟩
  rw [show its.toArray.any (eqU x)=its.any (eqU x) by simp,any_eqU r fs]
  exact q
theorem call_len_seq:CallR X (.builtin "len") (fun xs H Q=>∃ p ys,xs=[.ref p]∧(SqL X.K H p ys∨SqT X.K H p ys)∧Q (.int ys.length) H):=by
 intro pins s σ H xs us Q I r h
 obtain⟨p,ys,rfl,hq,q⟩:=h
 obtain⟨u,rfl,rx⟩:=vals1 r
 cases rx
 have hn:=line63
 rcases hq with hq | hq
 ·obtain⟨its,r',pl,hz⟩:=I.list hq
  have hlen:=r'.length
  exact Calls.call_len_list pl.isList (by simp only [List.size_toArray] <;> omega) ⟨.int ys.length,H,I.tok _,⟨s.toks + 1,by rw [List.size_toArray,hlen]⟩,q⟩
 ·obtain⟨its,r',pl,hz⟩:=I.tuple hq
  have hlen:=r'.length
  exact len_tuple pl (by simp only [List.size_toArray] <;> omega) ⟨.int ys.length,H,I.tok _,⟨s.toks + 1,by rw [List.size_toArray,hlen]⟩,q⟩
theorem call_len_str:CallR X (.builtin "len") (fun xs H Q=>∃ z,xs=[.str z]∧z.length≤sizeLine∧Q (.int z.length) H):=by
 intro pins s σ H xs us Q I r h
 obtain⟨z,rfl,hz,q⟩:=h
 obtain⟨u,rfl,t,rfl⟩:=vals1 r
 have hn:=line63
 exact len_str (by omega) ⟨.int z.length,H,I.tok _,⟨_,rfl⟩,q⟩
theorem call_list_of:CallR X (.type "list") (fun xs H Q=>∃ p ys,xs=[.ref p]∧(SqL X.K H p ys∨SqT X.K H p ys)∧∀ l,H l=none→Q (.ref l) (upd H l (.lst ys))):=by
 intro pins s σ H xs us Q I r h
 obtain⟨p,ys,rfl,hq,q⟩:=h
 obtain⟨u,rfl,rx⟩:=vals1 r
 cases rx
 have fin:∀ (its:List Value),Vals ys its→ys.length≤sizeLine→∀ (h':Heap) (c':Nat),(∀ b o',s.heap.get? b=some o'→h'.get? b=some o')→
   h'.get? s.heap.objs.size=some { cls:=.type "list",dict:=none,data:=.seq its.toArray c',slots:=#[] }→EP X pins σ Q (.ref s.heap.objs.size) { s with heap:=h' }:=fun its r' hz h' c' kp e=>
  ⟨.ref s.heap.objs.size,_,I.laid (t':=s.toks) kp (Nat.le_refl _) (show ObjOk X.prog X.w _ h' _ (.lst ys) from⟨hz,its,c',r',e⟩),rfl,q _ (I.hok.fresh (Nat.le_refl _))⟩
 rcases hq with hq | hq
 ·obtain⟨its,r',pl,hz⟩:=I.list hq
  have hlen:=r'.length
  obtain⟨o,ho,hc,n,hd⟩:=pl.isList
  exact call_list_seq p (.inl rfl) ho hc hd (fun h' c' kp e=>fin its r' hz h' c' kp e) (by simp only [List.size_toArray] <;> omega)
 ·obtain⟨its,r',pl,hz⟩:=I.tuple hq
  have hlen:=r'.length
  obtain⟨o,ho,hc,n,hd⟩:=pl
  exact call_list_seq p (.inr rfl) ho hc hd (fun h' c' kp e=>fin its r' hz h' c' kp e) (by simp only [List.size_toArray] <;> omega)
theorem call_tuple_of:CallR X (.type "tuple") (fun xs H Q=>∃ p ys,xs=[.ref p]∧((SqL X.K H p ys∧∀ l,H l=none→Q (.ref l) (upd H l (.tup ys)))∨(SqT X.K H p ys∧Q (.ref p) H))):=by
 intro pins s σ H xs us Q I r h
 obtain⟨p,ys,rfl,h⟩:=h
 obtain⟨u,rfl,rx⟩:=vals1 r
 cases rx
 rcases h with ⟨hq,q⟩ | ⟨hq,q⟩
 ·obtain⟨its,r',pl,hz⟩:=I.list hq
  have hlen:=r'.length
  refine call_tuple_list pl.isList (fun h' kp=>?_) (by simp only [List.size_toArray] <;> omega)
  have I1:Inv X pins σ H { s with heap:=h' }:=I.kept (t':=s.toks) kp
  have I2:Inv X pins σ (upd H h'.objs.size (.tup ys)) { s with heap:=h'.push { cls:=.type "tuple",data:=.seq its.toArray } }:=
   I1.laid (t':=s.toks) (fun b o e=>Heap.get?_push_of_some _ e) (Nat.le_refl _) (show ObjOk X.prog X.w _ _ _ (.tup ys) from⟨hz,its,r',IsTup.new _ _⟩)
  exact⟨.ref h'.objs.size,_,I2,rfl,q _ (I1.hok.fresh (Nat.le_refl _))⟩
 ·obtain⟨its,r',pl,hz⟩:=I.tuple hq
  exact call_tuple_same pl ⟨.ref p,H,I,rfl,q⟩
def tyV (K:PySem.W.Frag) (T:String) (x:V) (H:Hp):Prop:=match x with
 | .str _=>T="str"
 | .int _=>T="int"
 | .ref p=>(T="list"∧∃ xs,SqL K H p xs)∨(T="tuple"∧∃ o,K.lookup p=some o∧o.cls=.type "tuple"∧o.dict=none)∨
   (T="dict"∧((∃ kvs,H p=some (.dK kvs))∨∃ kvs,H p=some (.dT kvs)))∨(T="set"∧∃ S n,H p=some (.set S n))
 | _=>False
theorem tyV_is {pins:List (Addr × Obj)}{σ:St}{H:Hp}{s:Shared}{T:String}{x:V}{v:Value}(I:Inv X pins σ H s) (r:RelV x v) (ty:tyV X.K T x H):
  s.TypeIs v T∧∀ a,v=.ref a→∃ ob,s.heap.get? a=some ob∧ob.dict=none:=by
 cases x with
 | str z=>
  obtain⟨t,rfl⟩:=r
  cases (show T="str" from ty)
  exact⟨typeIs_str s z t,fun _ e=>nomatch e⟩
 | int i=>
  obtain⟨t,rfl⟩:=r
  cases (show T="int" from ty)
  exact⟨typeIs_int s i t,fun _ e=>nomatch e⟩
 | ref p=>
  cases r
  rcases ty with ⟨rfl,xs,hq⟩ | ⟨rfl,o,hk,hc,hd⟩ | ⟨rfl,hk⟩ | ⟨rfl,S,n,hk⟩
  ·obtain⟨its,_,pl,_⟩:=I.list hq
   refine⟨pl.isList.typeIs,fun a e=>?_⟩
   cases e
   obtain⟨o,n,e,c,hd,_⟩:=pl
   exact⟨o,e,hd⟩
  ·refine⟨⟨o,I.kIn p o hk,hc⟩,fun a e=>?_⟩
   cases e
   exact⟨o,I.kIn _ o hk,hd⟩
  ·have z:∃ o,s.heap.get? p=some o∧o.ExactDict:=by
    rcases hk with ⟨kvs,hk⟩ | ⟨kvs,hk⟩
    ·obtain⟨_,_,_,_,o,_,_,e,ex,_⟩:=I.hok p _ hk
     exact⟨o,e,ex⟩
    ·obtain⟨_,_,_,_,o,_,_,e,ex,_⟩:=I.hok p _ hk
     exact⟨o,e,ex⟩
   obtain⟨o,e,ex⟩:=z
   refine⟨⟨o,e,ex.1⟩,fun a e2=>?_⟩
   cases e2
   exact⟨o,e,ex.2.1⟩
  ·obtain⟨o,_,_,_,e,ex,_⟩:=I.hok p _ hk
   refine⟨⟨o,e,ex.1⟩,fun a e2=>?_⟩
   cases e2
   exact⟨o,e,ex.2.1⟩
 | _=>exact False.elim ty
def tBM (K:PySem.W.Frag) (T:String) (r:V→List V→Hp→VK→Prop) (to:TE) (t:TA):TE:=fun σ H Q=>to σ H fun x H1=>tyV K T x H1∧t σ H1 fun xs H2=>r x xs H2 Q
variable {o e:Expr}{es:List Expr}{to:TE}{t:TA}{name:Str}{apos cpos:Pos}{T id:String}{r:V→List V→Hp→VK→Prop}
theorem pe_bm (pa:PlainAttrs T) (slot:Slot T name id) (hty:typeOf (.builtin id)=pure (.type "method_descriptor")) (hm:MtR X id r) (ho:PE X o to) (ha:PA X (e::es) t)
  (hbase:attributeBase o name X.env (eval o X.env)=eval o X.env:=by rfl)
  (hfew:((backTo cpos (starEach (e::es) X.env)).all (fun x=>!x.1) && (backToKw cpos (keywordEach [] X.env)).all (fun x=>x.1.isSome)
   && decide ((e::es).length + ([]:List Keyword).length + (if ([]:List Keyword).isEmpty then 0 else 1) < 30))=true:=by rfl)
  (hline:(apos.endLine == cpos.line)=true:=by rfl) (hs:starEach (e::es) X.env=(false,eval e X.env)::starEach es X.env:=by rfl) (hplain:(backTo cpos (starEach es X.env)).any (·.1)=false:=by rfl):
  PE X (.Call (.Attribute o name apos) (e::es) [] cpos) (tBM X.K T r to t):=by
 intro pins s σ H Q I h
 refine wpAny_Call_method_late hbase hfew hline rfl (thn (ho pins s σ H _ I h) fun v s1 ⟨x,H1,I1,r1,ty,q1⟩=>?_)
 obtain⟨h1,h2⟩:=tyV_is I1 r1 ty
 refine⟨T,id,pa,slot,hty,h1,h2,?_⟩
 have hA:=ha cpos pins s1 σ H1 _ I1 q1
 rw [hs] at hA ⊢
 refine Calls.callWith_builtin (by show (false || (backTo cpos (starEach es X.env)).any (·.1))=false;rw [hplain] <;> rfl) (Calls.evalArgs_plain ?_)
 exact thn hA fun us s2 ⟨vs,H2,I2,r2,q2⟩=>hm pins s2 σ H2 x vs v us Q I2 r1 r2 q2
end
end L2
namespace L2
open PySem PySem.Spec PyProof.Rows
def MtM (X:Cx) (id:String) (r:V→List V→Hp→VK→Prop):Prop:=
 ∀ (pins:List (Addr × Obj)) (s:Shared) (σ:St) (H:Hp) (x:V) (xs:List V) (v:Value) (us:List Value) (Q:VK),Inv X pins σ H s→RelV x v→Vals xs us→r x xs H Q→
  wpAny (model X.prog X.w) X.A (call (.builtin id) (v::us)) (EP X pins σ Q) X.xe s
theorem Vals.one:∀ {x:V}{us:List Value},Vals [x] us→∃ u,us=[u]∧RelV x u
 | _,_,.cons r .nil=>⟨_,rfl,r⟩
section
variable {X:Cx}{pins:List (Addr × Obj)}{σ:St}{H:Hp}{s:Shared}{l b:Addr}{xs ys zs:List V}
theorem Inv.lset {its its':List Value}{n:Nat}{f:Array Value→Array Value}{t':Nat}(I:Inv X pins σ H s) (hH:H l=some (.lst xs))
  (e:s.heap.get? l=some { cls:=.type "list",data:=.seq its.toArray n }) (hf:f its.toArray=its'.toArray) (hv:Vals ys its') (hz:ys.length≤sizeLine):
  Inv X pins σ (upd H l (.lst ys)) { s with heap:=s.heap.update l (Obj.mapSeq f),toks:=t' }:=by
 have q:=PySem.IsL.update e f
 rw [hf] at q
 refine I.write (x:=l) (e:=l) (by rw [hH];exact trivial) (.inl rfl) (fun b' u hb hu=>(Heap.get?_update_other s.heap (Obj.mapSeq f) (Ne.symm hb)).trans hu) ⟨_,q⟩ ?_
 exact⟨hz,its',_,hv,q⟩
theorem Inv.lnew {its:List Value}{t':Nat}(I:Inv X pins σ H s) (hv:Vals ys its) (hz:ys.length≤sizeLine):
  Inv X pins σ (upd H s.heap.objs.size (.lst ys)) { s with heap:=s.heap.push { cls:=.type "list",data:=.seq its.toArray },toks:=t' }:=
 I.laid (fun _ _ q=>Heap.get?_push_of_some _ q) (Nat.le_refl _) ⟨hz,its,0,hv,Heap.get?_push_size _ rfl⟩
theorem Inv.fresh (I:Inv X pins σ H s):H s.heap.objs.size=none:=I.hok.fresh (Nat.le_refl _)
theorem Inv.lstM (I:Inv X pins σ H s) (hH:H l=some (.lst xs)):xs.length≤sizeLine∧∃ (its:List Value) (n:Nat),Vals xs its∧xs.length=its.length∧s.heap.get? l=some { cls:=.type "list",data:=.seq its.toArray n }:=by
 obtain⟨z,its,n,r,e⟩:=I.hok l _ hH
 exact⟨z,its,n,r,r.length,e⟩
end
section
variable {X:Cx}
def rAppend:V→List V→Hp→VK→Prop:=fun x vs H Q=>∃ l xs y,x=.ref l∧vs=[y]∧H l=some (.lst xs)∧xs.length < sizeLine∧Q .non (upd H l (.lst (xs++[y])))
theorem mt_append:MtM X "list.append" rAppend:=by
 intro pins s σ H x vs v us Q I rx rv h
 obtain⟨l,xs,y,rfl,rfl,hH,hz,q⟩:=h
 cases rx
 obtain⟨u,rfl,ru⟩:=rv.one
 obtain⟨z,its,n,r,hl,e⟩:=I.lstM hH
 refine call_meets F.slot_list_append ⟨_,e,rfl⟩ F.entry_list_append (F.args_list_append_2 _ _) (PySem.list_append l its.toArray n u (by rw [List.size_toArray];omega)) ⟨e,?_⟩
 refine⟨.non,_,I.lset (its':=its++[u]) hH e (by simp) (r.append (.cons ru .nil)) ?_,rfl,q⟩
 rw [List.length_append,List.length_singleton]
 omega
def rCat:R2:=fun x y H Q=>∃ l b xs zs,x=.ref l∧y=.ref b∧H l=some (.lst xs)∧H b=some (.lst zs)∧xs.length + zs.length≤sizeLine∧∀ p,H p=none→Q (.ref p) (upd H p (.lst (xs++zs)))
theorem op_cat:OpR X (binaryOp .Add) rCat:=by
 intro pins s σ H x y v u Q I rx ry h
 obtain⟨l,b,xs,zs,rfl,rfl,hH,hB,hz,q⟩:=h
 cases rx
 cases ry
 obtain⟨z,its,n,r,hl,e⟩:=I.lstM hH
 obtain⟨z2,its2,n2,r2,hl2,e2⟩:=I.lstM hB
 refine PySem.P.add_list e e2 ?_ (by rw [List.size_toArray,List.size_toArray];omega)
 have ea:its.toArray++its2.toArray=(its++its2).toArray:=by simp
 rw [ea]
 exact⟨.ref _,_,I.lnew (t':=s.toks) (r.append r2) (by rw [List.length_append];omega),rfl,q _ I.fresh⟩
end
section
variable {prog:Program}{w:World}{A:Around}{E:Value→Shared→Prop}{s:Shared}
end
section
variable {X:Cx}
end
end L2
namespace Att
open PySem PySem.W PySem.Calls PyProof.Rows
theorem ints_of_wellAll {P:Params}{h:Heap}:∀ (ns:List Int) (vs:List Value),WellAll P h vs (ns.map WData.int)→IntsAre vs ns:=by
 intro ns
 induction ns with
 | nil=>
  intro vs w
  rw [List.map_nil] at w
  cases w
  exact .nil
 | cons n ns ih=>
  intro vs w
  rw [List.map_cons] at w
  cases w with
  | cons a b=>
   cases a
   exact .cons _ _ (ih _ b)
theorem script_of {l:OpenLaw}{n:Nat}(hn:l.most=some n){P:Params}{h:Heap}{args:List WData}{vals:List Value}
  (hpre:l.row.toRowW.claim.pre args=true) (hwl:WellAll P h vals args):
  ∃ a vs ns,vals=[Value.ref a]∧args=[WData.list (ns.map WData.int)]∧h.get? a=some { cls:=.type "list",data:=.seq vs.toArray }∧IntsAre vs ns∧ns.length≤n:=by
 have hsh:WShape.hasAll [] args [.list .int]=true:=(pre_splitW hpre).1
 have hc:l.pre.holds [] { args:=args }=true:=(pre_splitW hpre).2
 obtain⟨d,r,rfl,h1,h2⟩:=hasAllW_cons hsh
 obtain rfl:=hasAllW_nil h2
 obtain⟨xs,rfl,h3⟩:=hasW_list h1
 obtain⟨ns,rfl⟩:=items_int h3
 have hlen:ns.length≤n:=by
  unfold OpenLaw.pre at hc
  have h4:(WTm.not (.lt (.lit (.int (n:Int))) (.len (.arg 0)))).holds [] { args:=[.list (ns.map .int)] }=true:=by
   have h4:=(holds_andW hc).1
   rw [hn] at h4
   exact h4
  have h5:=condW_of h4 (w_not (w_lt w_lit (w_len_list (w_arg rfl))))
  rw [List.length_map] at h5
  refine Nat.le_of_not_lt fun q=>?_
  have q':(n:Int) < ((ns.length:Nat):Int):=by omega
  first
   | (rw [decide_eq_true q'] at h5;exact absurd h5 (by decide))
   | (simp at h5;omega)
 cases hwl with
 | cons w1 w2=>
  cases w2
  cases w1 with
  | list ho hall=>exact⟨_,_,ns,rfl,rfl,ho,ints_of_wellAll ns _ hall,hlen⟩
theorem post_true (l:OpenLaw) (args:List WData):l.row.toRowW.claim.post args (.bool true) args=true:=
 postW_of (r:=l.row.toRowW) (X:=(true == true))
  (show WShape.has [] (.bool true) .bool=true by first | rfl | decide | simp [WShape.has,WShape.arms,WShape.armsAll])
  (show (WTm.eq .res (.lit (.bool true))).value [] { args:=args,res:=some (.bool true),after:=args }=some (.bool (true == true)) from w_eq_bool (w_res rfl) w_lit) rfl
section
variable {prog:Program}{w:World}{A:Around}{E:Value→Shared→Prop}{s:Shared}{K:Frag}
end
end Att
namespace L2
open PySem PySem.Spec PyProof.Rows
theorem vals_ints:∀ {vs:List Value}{ns:List Int},IntsAre vs ns→Vals (ns.map V.int) vs
 | _,_,.nil=>.nil
 | _,_,.cons n t h=>.cons ⟨t,rfl⟩ (vals_ints h)
def Only (H:Hp):Prop:=∀ b,H b=none∨∃ o xs,H b=some (.frz o (.lst xs))
theorem law_call {P:Program}{w:World}{K:PySem.W.Frag}{mg mb:Str→Option Value}{CX:CXT}{k:Nat}{fa a:Addr}{fd:FuncData}{x:Str}{sp:Sp}{s₁:Shared}{vs:List Value}{ns:List Int}
  (KX:K.In s₁.heap) (hns:s₁.heap.Ns mainGlobals mg) (hb:s₁.heap.Ns builtinsNs mb) (hbb:∀ x:Str,x≠"__name__"→mb x=bootBuiltins x) (hlim:s₁.heap.NoLimit) (hg:s₁.gens=#[])
  (ha:s₁.heap.get? a=some { cls:=.type "list",data:=.seq vs.toArray }) (hi:IntsAre vs ns) (hl:ns.length≤sizeLine) (hr:Room k callerA)
  (F:∀ base:Heap,K.In base→base.Ns mainGlobals mg→FnOk P w K mg base CX k fa fd [x] sp) (hbind:∀ (s:Shared) (u:Value),BindsTo s fd ⟨[u],[]⟩ [(x,u)])
  (hsp:∀ H:Hp,Only H→SqL K H a (ns.map V.int)→sp [.ref a] H (fun v _=>v=.bl true) fun _ _ _=>False)
  (hCX:∀ H e s',CX [] H s₁ (fun _ _ _=>False) e s'→False):
  codeAny (model P w) callerA (.call (.ref fa) ⟨[.ref a],[]⟩) (fun r s'=>r=.ok (.ret (.bool true))∧OldK s₁.heap s'.heap∧s'.os=s₁.os∧AllBare s'.gens) s₁:=by
 have rv:=vals_ints hi
 have lenV:=hi.length
 have core:∀ H:Hp,Only H→SqL K H a (ns.map V.int)→HOk P w H s₁.heap→(∀ b,H b≠none→b=a)→(H a≠none→K.lookup a=none)→
   codeAny (model P w) callerA (.call (.ref fa) ⟨[.ref a],[]⟩) (fun r s'=>r=.ok (.ret (.bool true))∧OldK s₁.heap s'.heap∧s'.os=s₁.os∧AllBare s'.gens) s₁:=by
  intro H hO hS hok hA hK
  have base_of:∀ {b:Addr}{o:Obj},s₁.heap.get? b=some o→H b=none→(hidT s₁.heap H).get? b=some o:=fun e n=>hidT_get e n
  have noA:∀ {b:Addr}{o:Obj}{es:Array DictEntry}{ep:Nat},s₁.heap.get? b=some o→o.data=.dict es ep→H b=none:=fun{b o es ep} e d=>by
   cases q:H b with
   | none=>rfl
   | some u=>
    have e':b=a:=hA b (by rw [q];simp)
    subst e'
    rw [ha] at e;cases e
    have d':Data.seq vs.toArray _=Data.dict es ep:=d
    cases d'
  have nsK:∀ {b:Addr}{m:Str→Option Value},s₁.heap.Ns b m→(hidT s₁.heap H).Ns b m:=fun{b m} ⟨o,es,ep,e,d,r⟩=>⟨o,es,ep,base_of e (noA e d),d,r⟩
  have hKb:K.In (hidT s₁.heap H):=fun b o e=>base_of (KX b o e) (by
   cases q:H b with
   | none=>rfl
   | some u=>
    have e':b=a:=hA b (by rw [q];simp)
    subst e'
    rw [hK (by rw [q];simp)] at e;cases e)
  have hM:Mod K mg (hidT s₁.heap H):=⟨hKb,nsK hns,⟨mb,nsK hb,hbb⟩,let ⟨mc,h1,h2⟩:=hlim;⟨mc,nsK h1,h2⟩⟩
  have e0:Env0 P w K mg (hidT s₁.heap H) callerA [] s₁ H:=⟨rfl,hM,fun b o e=>of_hidT e,Nat.le_of_eq (hidT_size _ _),trivial,fun b hb=>absurd (show b∈([]:List Addr) from hb) (by simp),hok,.of_eq hg⟩
  refine codeAny_mono ((F _ hKb (nsK hns)).run callerA [] s₁ H ⟨[.ref a],[]⟩ [.ref a] [.ref a] _ _ hr e0 (hbind s₁ (.ref a)) (.cons rfl .nil) (hsp H hO hS)) fun r s' h=>?_
  cases r with
  | error e=>exact(hCX H e s' h).elim
  | ok fl=>
   cases fl with
   | next=>exact False.elim h
   | brk=>exact False.elim h
   | cont=>exact False.elim h
   | ret u=>
    obtain⟨v,H',os,bare,un,hok',r',q⟩:=h
    have q':v=.bl true:=q
    subst q'
    obtain rfl:u=Value.bool true:=r'
    refine⟨rfl,OldK.of_keep fun b o e=>?_,os,bare⟩
    cases q:H b with
    | none=>exact un.keep b o e q (by intro z;exact absurd (show b∈([]:List Addr) from z) (by simp)) (by simp)
    | some u=>
     rcases hO b with z | ⟨ob,xs,z⟩
     ·rw [q] at z;cases z
     ·have z2:=un.frzs b ob _ z
      obtain⟨e1,_⟩:=hok b _ z
      obtain⟨e2,_⟩:=hok' b _ z2
      rw [e] at e1;cases e1
      exact e2
 cases hk:K.lookup a with
 | some o=>
  have e:=KX a o hk
  rw [ha] at e
  cases e
  refine core (fun _=>none) (fun _=>.inl rfl) (.inr ⟨_,vs.toArray,_,hk,rfl,rfl,rfl,by rw [List.size_toArray,lenV];exact hl,by simpa using rv⟩) (fun b u z=>by have z':(none:Option HO)=some u:=z;cases z') (fun b z=>absurd rfl z) fun z=>absurd rfl z
 | none=>
  refine core (fun b=>if b=a then some (.frz { cls:=.type "list",data:=.seq vs.toArray } (.lst (ns.map V.int))) else none) (fun b=>?_) (.inl (.inr ⟨{ cls:=.type "list",data:=.seq vs.toArray },if_pos rfl⟩)) (fun b u z=>?_) (fun b z=>?_) fun _=>hk
  ·by_cases hb:b=a
   ·exact .inr ⟨_,_,if_pos hb⟩
   ·exact .inl (if_neg hb)
  ·by_cases hb:b=a
   ·have z':=(if_pos hb).symm.trans z
    cases z'
    subst hb
    exact⟨ha,by rw [List.length_map];exact hl,vs,_,rv,ha⟩
   ·have z':=(if_neg hb).symm.trans z
    cases z'
  ·by_cases hb:b=a
   ·exact hb
   ·exact absurd (if_neg hb) z
end L2
namespace L2
open PySem PySem.Spec PyProof.Rows
end L2
namespace L2
open PySem PySem.Spec PyProof.Rows
def inClass (s:Stmt) (j:Nat):Stmt:=match s with
 | .ClassDef _ _ _ body _ _ _ _ _ _ _=>body.getD j (.Pass ⟨0,0,0,0⟩)
 | _=>.Pass ⟨0,0,0,0⟩
def defArgs (s:Stmt):Arguments:=match s with
 | .FunctionDef _ a _ _ _ _ _ _ _ _=>a
 | _=>{ posonlyargs:=[],args:=[],vararg:=none,kwonlyargs:=[],kw_defaults:=[],kwarg:=none,defaults:=[] }
def defBody (s:Stmt):List Stmt:=match s with
 | .FunctionDef _ _ b _ _ _ _ _ _ _=>b
 | _=>[]
def defScope (s:Stmt):Scope:=match s with
 | .FunctionDef _ _ _ _ _ _ sc _ _ _=>sc
 | _=>{ kind:=.function,names:=[],isGenerator:=false,isCoroutine:=false }
abbrev CX0:CXT:=fun _ _ _ _ _ _=>False
abbrev E0:XK:=fun _ _ _=>False
theorem pass0 {X:Cx}:Passes CX0 X E0:=fun _ _ _ _ _ _ _ h=>h.elim
structure Fun (K:PySem.W.Frag) (x qual:Str) (st:Stmt) (f:Addr) (fd:FuncData):Prop where
 ex:∃ (oc:Value) (od:Option Addr) (kV doc pm:Value) (an:Option Addr) (cdv ct:Value) (osl:Array (Option Value)),
  fd=PySem.W.fnOf x qual (defArgs st) (defBody st) (defScope st) .none kV doc pm an cdv ct∧K.lookup f=some ⟨oc,od,.func fd,osl⟩∧PySem.W.codeIn K cdv qual=true
 kp:PySem.W.keepIn K (.ref f)=true
section
variable {P:Program}{w:World}{K:PySem.W.Frag}{mg:Str→Option Value}{base:Heap}
theorem Fun.ok {x qual:Str}{st:Stmt}{f:Addr}{fd:FuncData}{N ps:List Str}{k:Nat}{sp:Sp}(F:Fun K x qual st f fd) (S:FnScope N ps (defScope st)) (len:∀ vs H Q E,sp vs H Q E→vs.length=ps.length)
  (hbody:∀ (cdv:Value) (A:Around) (outer:List Env) (s:Shared) (H:Hp) (vs:List V) (Q:VK) (E:XK),Room k (A.deeper (envOfC qual (defScope st) s.heap.objs.size f cdv))→sp vs H Q E→
   ∃ t,PSs (cxOf CX0 P w K mg base N qual (defScope st) f cdv A outer s H E).nox (defBody st) t∧t { nx:=fun _ H'=>Q .non H',rt:=Q } (start N vs) H):FnOk P w K mg base CX0 (k + 1) f fd ps sp:=by
 obtain⟨oc,od,kV,doc,pm,an,cdv,ct,osl,rfl,lk,hcd⟩:=F.ex
 refine fn_of lk hcd S len fun A outer s H vs Q E hr hsp=>?_
 obtain⟨t,h,q⟩:=hbody cdv A outer s H vs Q E hr hsp
 exact⟨t,h.nox,q⟩
theorem Fun.binds {x qual:Str}{st:Stmt}{f:Addr}{fd:FuncData}{ps:List Str}(F:Fun K x qual st f fd)
  (h:∀ (kV doc pm:Value) (an:Option Addr) (cdv ct:Value) (us:List Value),us.length=ps.length→bindArgs (PySem.W.fnOf x qual (defArgs st) (defBody st) (defScope st) .none kV doc pm an cdv ct) ⟨us,[]⟩=pure (ps.zip us)):Binds K fd ps []:=by
 obtain⟨oc,od,kV,doc,pm,an,cdv,ct,osl,rfl,lk,hcd⟩:=F.ex
 exact .all (h kV doc pm an cdv ct)
theorem fun_mk {x qual:Str}{st:Stmt}{f:Addr}{oc:Value}{od an:Option Addr}{osl:Array (Option Value)}{kV doc pm cdv ct:Value}(l:K.lookup f=some ⟨oc,od,.func (PySem.W.fnOf x qual (defArgs st) (defBody st) (defScope st) .none kV doc pm an cdv ct),osl⟩)
  (c:PySem.W.codeIn K cdv qual=true) (k:PySem.W.keepIn K (.ref f)=true):Fun K x qual st f (PySem.W.fnOf x qual (defArgs st) (defBody st) (defScope st) .none kV doc pm an cdv ct):=⟨⟨oc,od,kV,doc,pm,an,cdv,ct,osl,rfl,l,c⟩,k⟩
end
section
variable {X:Cx}
theorem pv (i:Nat){x:Str}{pos:Pos}(hN:X.N[i]?=some x:=by rfl) (hv:Vis X.env.scope x:=by first | exact Or.inl rfl | exact Or.inr (Or.inl rfl) | exact Or.inr (Or.inr rfl)) (hd:(x == ("__debug__":Str))=false:=by decide)
  (hcd:(x == ("__classdict__":Str))=false:=by decide):PE X (.Name x pos) (tVar i):=pe_var hN hv hd hcd
end
def Same (H H':Hp):Prop:=∀ b o,H b=some o→H' b=some o
theorem Same.refl (H:Hp):Same H H:=fun _ _ h=>h
theorem Same.trans {H H1 H2:Hp}(a:Same H H1) (b:Same H1 H2):Same H H2:=fun c o h=>b c o (a c o h)
theorem Same.free {H H':Hp}(e:Same H H'){l:Addr}(h:H' l=Option.none):H l=Option.none:=by
 cases q:H l with
 | none=>rfl
 | some o=>
  rw [e l o q] at h
  cases h
theorem Same.seq {K:PySem.W.Frag}{H H':Hp}{a:Addr}{xs:List V}(e:Same H H') (h:SqL K H a xs):SqL K H' a xs:=by
 rcases h with (h | ⟨o,h⟩) | h
 ·exact .inl (.inl (e _ _ h))
 ·exact .inl (.inr ⟨o,e _ _ h⟩)
 ·exact .inr h
end L2
set_option Elab.async false
set_option linter.all false
set_option maxRecDepth 100000
namespace L2
open PySem PySem.Spec PyProof.Rows
section
variable {κ:Type} [DecidableEq κ]
def valV (kvs:List (κ × V)) (k:κ):Option V:=(kvs.find? fun kv=>decide (kv.1=k)).map (·.2)
def putK (kvs:List (κ × V)) (k:κ) (v:V):List (κ × V):=
 if (kvs.any fun kv=>decide (kv.1=k))=true then kvs.map (fun kv=>if kv.1=k then(kv.1,v) else kv) else kvs++[(k,v)]
def dropK (kvs:List (κ × V)) (k:κ):List (κ × V):=kvs.filter fun kv=>decide (kv.1≠k)
theorem valV_pos {p:κ × V}{r:List (κ × V)}{k:κ}(e:p.1=k):valV (p::r) k=some p.2:=by simp [valV,List.find?_cons,e]
theorem valV_neg {p:κ × V}{r:List (κ × V)}{k:κ}(e:¬ p.1=k):valV (p::r) k=valV r k:=by simp [valV,List.find?_cons,e]
theorem valV_any (k:κ):∀ kvs:List (κ × V),(kvs.any fun kv=>decide (kv.1=k))=(valV kvs k).isSome
 | []=>rfl
 | p::r=>by
  rw [List.any_cons]
  by_cases e:p.1=k
  ·simp only [valV_pos e,decide_eq_true e,Bool.true_or,Option.isSome_some]
  ·rw [valV_neg e,decide_eq_false e,Bool.false_or];exact valV_any k r
theorem valV_map (k j:κ) (y:V):∀ kvs:List (κ × V),valV (kvs.map fun kv=>if kv.1=k then(kv.1,y) else kv) j=(valV kvs j).map fun x=>if j=k then y else x
 | []=>rfl
 | p::r=>by
  have ih:=valV_map k j y r
  rw [List.map_cons]
  by_cases h:p.1=k
  ·rw [if_pos h]
   by_cases e:p.1=j
   ·rw [valV_pos (p:=(p.1,y)) e,valV_pos e,Option.map_some,if_pos (e.symm.trans h)]
   ·rw [valV_neg (p:=(p.1,y)) e,valV_neg e,ih]
  ·rw [if_neg h]
   by_cases e:p.1=j
   ·rw [valV_pos (p:=p) e,valV_pos e,Option.map_some,if_neg (fun z=>h (e.trans z))]
   ·rw [valV_neg (p:=p) e,valV_neg e,ih]
theorem valV_snoc (k j:κ) (y:V):∀ kvs:List (κ × V),valV kvs k=none→valV (kvs++[(k,y)]) j=if j=k then some y else valV kvs j
 | [],_=>by
  by_cases e:k=j
  ·rw [if_pos e.symm];exact valV_pos (p:=(k,y)) e
  ·rw [if_neg (fun z=>e z.symm)];exact valV_neg (p:=(k,y)) e
 | p::r,hn=>by
  rw [List.cons_append]
  have hk:¬ p.1=k:=fun z=>by rw [valV_pos z] at hn;cases hn
  rw [valV_neg hk] at hn
  have ih:=valV_snoc k j y r hn
  by_cases e:p.1=j
  ·rw [valV_pos e,valV_pos e,if_neg (fun z=>hk (e.trans z))]
  ·rw [valV_neg e,valV_neg e,ih]
theorem valV_put (kvs:List (κ × V)) (k j:κ) (y:V):valV (putK kvs k y) j=if j=k then some y else valV kvs j:=by
 unfold putK
 by_cases a:(kvs.any fun kv=>decide (kv.1=k))=true
 ·rw [if_pos a,valV_map]
  rw [valV_any] at a
  by_cases e:j=k
  ·obtain⟨x,hx⟩:=Option.isSome_iff_exists.mp a
   rw [if_pos e,e,hx,Option.map_some,if_pos rfl]
  ·rw [if_neg e]
   cases valV kvs j with
   | none=>rfl
   | some x=>rw [Option.map_some,if_neg e]
 ·rw [if_neg a]
  refine valV_snoc k j y kvs ?_
  rw [valV_any] at a
  cases q:valV kvs k with
  | none=>rfl
  | some x=>rw [q] at a;exact(a rfl).elim
theorem length_putK (kvs:List (κ × V)) (k:κ) (v:V):(putK kvs k v).length≤kvs.length + 1:=by
 unfold putK
 split
 ·rw [List.length_map];omega
 ·rw [List.length_append,List.length_cons,List.length_nil];omega
theorem putK_new {kvs:List (κ × V)}{k:κ}(v:V) (h:valV kvs k=none):putK kvs k v=kvs++[(k,v)]:=by
 unfold putK
 rw [valV_any,h]
 exact if_neg (by decide)
theorem RelO.isSome_eq {o:Option V}{u:Option Value}(r:RelO o u):o.isSome=u.isSome:=by
 cases o with
 | none=>cases u with
  | none=>rfl
  | some _=>exact(show False from r).elim
 | some _=>cases u with
  | none=>exact(show False from r).elim
  | some _=>rfl
theorem RelO.getD {o:Option V}{u:Option Value}{d:V}{d':Value}(r:RelO o u) (rd:RelV d d'):RelV (o.getD d) (u.getD d'):=by
 cases o with
 | none=>cases u with
  | none=>exact rd
  | some _=>exact(show False from r).elim
 | some _=>cases u with
  | none=>exact(show False from r).elim
  | some _=>exact r
theorem KV.val {kvs:List (κ × V)}{vs:List (κ × Value)} (r:KV kvs vs) (k:κ):RelO (valV kvs k) (valueAt vs k):=by
 unfold KV at r
 induction r with
 | nil=>exact True.intro
 | @cons p q ps qs h t ih=>
  obtain⟨h1,h2⟩:=h
  by_cases e:p.1=k
  ·have e':q.1=k:=h1.symm.trans e
   have b:valueAt (q::qs) k=some q.2:=by simp [valueAt,List.find?_cons,e']
   rw [valV_pos e,b];exact h2
  ·have e':¬ q.1=k:=fun z=>e (h1.trans z)
   have b:valueAt (q::qs) k=valueAt qs k:=by simp [valueAt,List.find?_cons,e']
   rw [valV_neg e,b];exact ih
theorem KV.any {kvs:List (κ × V)}{vs:List (κ × Value)} (r:KV kvs vs) (k:κ):(kvs.any fun kv=>decide (kv.1=k))=vs.any fun kv=>decide (kv.1=k):=by
 unfold KV at r
 induction r with
 | nil=>rfl
 | cons h t ih=>rw [List.any_cons,List.any_cons,ih,h.1]
theorem KV.repl {kvs:List (κ × V)}{vs:List (κ × Value)} (r:KV kvs vs) (k:κ){y:V}{u:Value}(ry:RelV y u):
  KV (kvs.map fun kv=>if kv.1=k then(kv.1,y) else kv) (vs.map fun kv=>if kv.1=k then(kv.1,u) else kv):=by
 unfold KV at r ⊢
 induction r with
 | nil=>exact .nil
 | @cons p q ps qs h t ih=>
  rw [List.map_cons,List.map_cons]
  refine .cons ?_ ih
  obtain⟨h1,h2⟩:=h
  by_cases e:p.1=k
  ·rw [if_pos e,if_pos (h1.symm.trans e)];exact⟨h1,ry⟩
  ·rw [if_neg e,if_neg (fun z=>e (h1.trans z))];exact⟨h1,h2⟩
theorem KV.put {kvs:List (κ × V)}{vs:List (κ × Value)} (r:KV kvs vs) (k:κ){y:V}{u:Value}(ry:RelV y u):KV (putK kvs k y) (stored vs k u):=by
 unfold putK stored
 rw [r.any k]
 by_cases e:(vs.any fun kv=>decide (kv.1=k))=true
 ·rw [if_pos e,if_pos e];exact r.repl k ry
 ·rw [if_neg e,if_neg e];exact Paired.snoc r ⟨rfl,ry⟩
theorem KV.length {kvs:List (κ × V)}{vs:List (κ × Value)} (r:KV kvs vs):kvs.length=vs.length:=Paired.length r
end
theorem kV_is {P:Program}{w:World}{k:Key}{u:Value}(r:RelV (kV k) u):(mixKind P w).is k u=true:=by
 cases k with
 | inl i=>obtain⟨t,e⟩:=(show ∃ t,u=Value.int i t from r);subst e;exact mixKind_int P w i t
 | inr x=>obtain⟨t,e⟩:=(show ∃ t,u=Value.str x t from r);subst e;exact mixKind_str P w x t
theorem items_are {P:Program}{w:World}:∀ {ks:List Key}{us:List Value},Vals (ks.map kV) us→ItemsAre (mixKind P w) ks us
 | [],_,r=>by rw [List.map_nil] at r;cases r;exact .nil
 | k::ks,_,r=>by
  rw [List.map_cons] at r
  cases r with
  | cons h t=>exact .cons (kV_is h) (items_are t)
abbrev KT (H:Hp):List (List Key × V)→List (List Key × Addr × Value)→Prop:=Paired fun p q=>p.1=q.1∧H q.2.1=some (.tup (p.1.map kV))∧RelV p.2 q.2.2
theorem KT.val {H:Hp}{kvs:List (List Key × V)}{xs:List (List Key × Addr × Value)} (r:KT H kvs xs) (k:List Key):RelO (valV kvs k) ((atKey xs k).map (·.2)):=by
 induction r with
 | nil=>exact True.intro
 | @cons p q ps qs h t ih=>
  obtain⟨h1,_,h2⟩:=h
  by_cases e:p.1=k
  ·have e':q.1=k:=h1.symm.trans e
   have b:atKey (q::qs) k=some q.2:=by simp [atKey,List.find?_cons,e']
   rw [valV_pos e,b];exact h2
  ·have e':¬ q.1=k:=fun z=>e (h1.trans z)
   have b:atKey (q::qs) k=atKey qs k:=by simp [atKey,List.find?_cons,e']
   rw [valV_neg e,b];exact ih
theorem KT.repl {H:Hp}{kvs:List (List Key × V)}{xs:List (List Key × Addr × Value)} (r:KT H kvs xs) (k:List Key){y:V}{u:Value}(ry:RelV y u):
  KT H (kvs.map fun kv=>if kv.1=k then(kv.1,y) else kv) (xs.map (putAt k u)):=by
 induction r with
 | nil=>exact .nil
 | @cons p q ps qs h t ih=>
  rw [List.map_cons,List.map_cons]
  refine .cons ?_ ih
  obtain⟨h1,h2,h3⟩:=h
  unfold putAt
  by_cases e:p.1=k
  ·rw [if_pos e,if_pos (h1.symm.trans e)];exact⟨h1,h2,ry⟩
  ·rw [if_neg e,if_neg (fun z=>e (h1.trans z))];exact⟨h1,h2,h3⟩
theorem KT.put {H:Hp}{kvs:List (List Key × V)}{xs:List (List Key × Addr × Value)} (r:KT H kvs xs) (k:List Key){b:Addr}{y:V}{u:Value}(hb:H b=some (.tup (k.map kV))) (ry:RelV y u):
  KT H (putK kvs k y) (storedH xs k b u):=by
 have e:(kvs.any fun kv=>decide (kv.1=k))=(atKey xs k).isSome:=by
  rw [valV_any,(r.val k).isSome_eq,Option.isSome_map]
 unfold putK storedH
 rw [e]
 by_cases q:(atKey xs k).isSome=true
 ·rw [if_pos q,if_pos q];exact r.repl k ry
 ·rw [if_neg q,if_neg q];exact Paired.snoc r ⟨rfl,hb,ry⟩
theorem KT.keeps {H H':Hp}{kvs:List (List Key × V)}{xs:List (List Key × Addr × Value)} (r:KT H kvs xs) (ht:∀ b ys,H b=some (.tup ys)→H' b=some (.tup ys)):KT H' kvs xs:=
 Paired.mapP r fun _ _ z=>⟨z.1,ht _ _ z.2.1,z.2.2⟩
section
variable {P:Program}{w:World}{H:Hp}{h:Heap}{a:Addr}
theorem rd_of {u:HO}(ok:HOk P w H h) (e:Rd H a u):ObjOk P w H h a u:=e.ok ok
theorem dk_rd {kvs:List (Key × V)} (ok:HOk P w H h) (e:Rd H a (.dK kvs)):kvs.length≤sizeLine∧(a == sysModules)=false∧∃ vs,KV kvs vs∧h.DictOf (mixKind P w) a vs:=
 show ObjOk P w H h a (.dK kvs) from rd_of ok e
theorem dk_of {kvs:List (Key × V)} (ok:HOk P w H h) (e:H a=some (.dK kvs)):kvs.length≤sizeLine∧(a == sysModules)=false∧∃ vs,KV kvs vs∧h.DictOf (mixKind P w) a vs:=dk_rd ok (.inl e)
theorem key_of {ks:List Key}(ok:HOk P w H h) (e:H a=some (.tup (ks.map kV))):(tupleKind (mixKind P w)).is h ks a:=by
 obtain⟨_,its,r,o,h1,h2,n,h3⟩:=(show ObjOk P w H h a (.tup (ks.map kV)) from ok a _ e)
 exact⟨o,its.toArray,n,h1,h2,h3,by simpa using items_are r⟩
theorem dt_rd {kvs:List (List Key × V)} (ok:HOk P w H h) (e:Rd H a (.dT kvs)):kvs.length≤sizeLine∧(a == sysModules)=false∧
  ∃ xs,KT H kvs xs∧h.DictOfH (tupleKind (mixKind P w)) a xs:=by
 obtain⟨z,y,xs,r,o,es,ep,h1,h2,h3,h4,h5⟩:=(show ObjOk P w H h a (.dT kvs) from rd_of ok e)
 refine⟨z,y,xs,r,o,es,ep,h1,h2,h3,h4,fun x hx=>?_,h5⟩
 have all:∀ {l:List (List Key × V)}{m:List (List Key × Addr × Value)},KT H l m→∀ x∈m,(tupleKind (mixKind P w)).is h x.1 x.2.1:=by
  intro l m q
  induction q with
  | nil=>intro x hx;exact nomatch hx
  | @cons p q ps qs hq t ih=>
   intro x hx
   rcases List.mem_cons.mp hx with e | hx
   ·subst e
    exact key_of ok (by rw [← hq.1];exact hq.2.1)
   ·exact ih x hx
 exact all r x hx
theorem dt_of {kvs:List (List Key × V)} (ok:HOk P w H h) (e:H a=some (.dT kvs)):kvs.length≤sizeLine∧(a == sysModules)=false∧
  ∃ xs,KT H kvs xs∧h.DictOfH (tupleKind (mixKind P w)) a xs:=dt_rd ok (.inl e)
end
def DGet (H:Hp) (a:Addr) (y:V) (r:Option V):Prop:=
 (∃ kvs k,Rd H a (.dK kvs)∧y=kV k∧r=valV kvs k)∨∃ kvs k b,Rd H a (.dT kvs)∧y=.ref b∧H b=some (.tup (k.map kV))∧r=valV kvs k
def DPut (H:Hp) (a:Addr) (y v:V) (H':Hp):Prop:=
 (∃ kvs k,H a=some (.dK kvs)∧y=kV k∧kvs.length < sizeLine∧H'=upd H a (.dK (putK kvs k v)))∨
 ∃ kvs k b,H a=some (.dT kvs)∧y=.ref b∧H b=some (.tup (k.map kV))∧kvs.length < sizeLine∧H'=upd H a (.dT (putK kvs k v))
theorem DGet.k {H:Hp}{a:Addr}{kvs:List (Key × V)}{k:Key}(e:H a=some (.dK kvs)):DGet H a (kV k) (valV kvs k):=.inl ⟨kvs,k,.inl e,rfl,rfl⟩
theorem DGet.t {H:Hp}{a b:Addr}{kvs:List (List Key × V)}{k:List Key}(e:H a=some (.dT kvs)) (eb:H b=some (.tup (k.map kV))):DGet H a (.ref b) (valV kvs k):=.inr ⟨kvs,k,b,.inl e,rfl,eb,rfl⟩
theorem DPut.k {H:Hp}{a:Addr}{kvs:List (Key × V)}{k:Key}{v:V}(e:H a=some (.dK kvs)) (hl:kvs.length < sizeLine):DPut H a (kV k) v (upd H a (.dK (putK kvs k v))):=.inl ⟨kvs,k,e,rfl,hl,rfl⟩
theorem DPut.t {H:Hp}{a b:Addr}{kvs:List (List Key × V)}{k:List Key}{v:V}(e:H a=some (.dT kvs)) (eb:H b=some (.tup (k.map kV))) (hl:kvs.length < sizeLine):
  DPut H a (.ref b) v (upd H a (.dT (putK kvs k v))):=.inr ⟨kvs,k,b,e,rfl,eb,hl,rfl⟩
section
variable {X:Cx}{pins:List (Addr × Obj)}{σ:St}{H:Hp}{s:Shared}{a:Addr}{y v:V}{u r:Value}{o:Option V}{A:Around}{E:Value→Shared→Prop}
theorem Inv.big (I:Inv X pins σ H s):sysModules < s.heap.objs.size:=by
 have h:mainGlobals < s.heap.objs.size:=(I.mod.glob.keeps I.bk).lt
 exact Nat.lt_trans (by decide) h
theorem d_getItem {Q:Value→Shared→Prop}(hu:A.units + 1 < cLine) (I:Inv X pins σ H s) (g:DGet H a y (some v)) (ry:RelV y u) (h:∀ w' s',Inv X pins σ H s'→RelV v w'→Q w' s'):
  wpAny (model X.prog X.w) A (getItem (.ref a) u) Q E s:=by
 rcases g with ⟨kvs,k,e,ey,l⟩ | ⟨kvs,k,b,e,ey,eb,l⟩
 ·subst ey
  obtain⟨z,hd,vs,rel,dd⟩:=dk_rd I.hok e
  obtain⟨w',hw,rw'⟩:=RelO.some_of (v:=v) (o:=valueAt vs k) (by rw [l];exact rel.val k)
  exact wpAny_getItem_of (kV_is ry) dd.mapOf hw (h w' _ (I.tok _) rw')
 ·subst ey
  cases (show u=Value.ref b from ry)
  obtain⟨z,hd,xs,rel,dd⟩:=dt_rd I.hok e
  obtain⟨w',hw,rw'⟩:=RelO.some_of (v:=v) (o:=(atKey xs k).map (·.2)) (by rw [l];exact rel.val k)
  obtain⟨p,hp,hp2⟩:=Option.map_eq_some_iff.mp hw
  refine wpAny_getItem_heap (tupleKind_room_in1 hu) (key_of I.hok eb) dd hp ?_
  rw [hp2]
  exact h w' _ (I.tok _) rw'
theorem d_notIn {Q:Value→Shared→Prop}(hu:A.units + 1 < cLine) (I:Inv X pins σ H s) (g:DGet H a y o) (ry:RelV y u) (h:∀ s',Inv X pins σ H s'→Q (.bool (!o.isSome)) s'):
  wpAny (model X.prog X.w) A (compareOp .NotIn u (.ref a)) Q E s:=by
 rcases g with ⟨kvs,k,e,ey,l⟩ | ⟨kvs,k,b,e,ey,eb,l⟩
 ·subst ey
  obtain⟨z,hd,vs,rel,dd⟩:=dk_rd I.hok e
  refine wpAny_notIn_of (kV_is ry) hd dd.mapOf ?_
  rw [← (rel.val k).isSome_eq,← l]
  exact h _ (I.tok _)
 ·subst ey
  cases (show u=Value.ref b from ry)
  obtain⟨z,hd,xs,rel,dd⟩:=dt_rd I.hok e
  refine wpAny_notIn_heap (tupleKind_room_in1 hu) (key_of I.hok eb) hd dd ?_
  have q:=(rel.val k).isSome_eq
  rw [Option.isSome_map] at q
  rw [← q,← l]
  exact h _ (I.tok _)
theorem d_write {h':Heap}{t':Nat}{ob:HO}(I:Inv X pins σ H s) (mu:Mut (H a)) (hs:Heap.SameBut a s.heap h') (he:∃ q,h'.get? a=some q) (new:ObjOk X.prog X.w (upd H a ob) h' a ob):
  Inv X pins σ (upd H a ob) { s with heap:=h',toks:=t' }:=
 I.write (x:=a) (e:=a) mu (.inl rfl) (fun b q hb z=>(hs.2 b hb).trans z) he new
theorem dk_new {P:Program}{w:World}{H':Hp}{h':Heap}{kvs:List (Key × V)}{vs:List (Key × Value)} (z:kvs.length≤sizeLine) (hd:(a == sysModules)=false) (rel:KV kvs vs) (dd:h'.DictOf (mixKind P w) a vs):
  ObjOk P w H' h' a (.dK kvs):=⟨z,hd,vs,rel,dd⟩
theorem d_setItem {H':Hp}{Q:Unit→Shared→Prop}(hu:A.units + 1 < cLine) (I:Inv X pins σ H s) (g:DPut H a y v H') (ry:RelV y u) (rv:RelV v r) (h:∀ s',Inv X pins σ H' s'→Q () s'):
  wpAny (model X.prog X.w) A (setItem (.ref a) u r) Q E s:=by
 rcases g with ⟨kvs,k,e,ey,l,eH⟩ | ⟨kvs,k,b,e,ey,eb,l,eH⟩
 ·subst ey eH
  obtain⟨z,hd,vs,rel,dd⟩:=dk_of I.hok e
  have hz:vs.length≤sizeLine:=by rw [← rel.length];exact z
  have hl:(putK kvs k v).length≤sizeLine:=by have:=length_putK kvs k v;omega
  refine wpAny_setItem_pairs (hsz:=hz) (kV_is ry) dd fun h' dd' hs=>h _ ?_
  have he:∃ q,h'.get? a=some q:=let ⟨q,_,_,hq,_⟩:=dd';⟨q,hq⟩
  exact d_write I (by rw [e];exact True.intro) hs he (dk_new hl hd (rel.put k rv) dd')
 ·subst ey eH
  cases (show u=Value.ref b from ry)
  obtain⟨z,hd,xs,rel,dd⟩:=dt_of I.hok e
  have hz:xs.length≤sizeLine:=by rw [← Paired.length rel];exact z
  have hl:(putK kvs k v).length≤sizeLine:=by have:=length_putK kvs k v;omega
  refine wpAny_setItem_heap (hsz:=hz) (tupleKind_room_in1 hu) (key_of I.hok eb) dd fun h' dd' hs=>h _ ?_
  obtain⟨q,es,ep,hq,h2,h3,h4,_,h5⟩:=dd'
  refine d_write I (by rw [e];exact True.intro) hs ⟨q,hq⟩ ⟨hl,hd,_,(rel.put k eb rv).keeps fun c ys ec=>?_,q,es,ep,hq,h2,h3,h4,h5⟩
  rw [upd_ne (ne_of ec e (fun z=>nomatch z))]
  exact ec
end
section
variable {X:Cx}{pins:List (Addr × Obj)}{σ:St}{H:Hp}{s:Shared}{a:Addr}{kvs:List (Key × V)}{k:Key}{u:Value}{A:Around}{E:Value→Shared→Prop}
theorem d_len {Q:Value→Shared→Prop}(I:Inv X pins σ H s) (e:Rd H a (.dK kvs)) (h:∀ t s',Inv X pins σ H s'→Q (.int kvs.length t) s'):wpAny (model X.prog X.w) A (call (.builtin "len") [.ref a]) Q E s:=by
 obtain⟨z,hd,vs,rel,dd⟩:=dk_rd I.hok e
 refine call_len_dict hd dd (by rw [← rel.length];rw [sizeLine_eq] at z;omega) ?_
 rw [← rel.length]
 exact h _ _ (I.tok _)
end
def NoSl (i:Expr):Prop:=∀ ov iv,subscripted i false ov iv=operate [ov,iv] (getItem ov iv)
theorem subD_of {prog:Program}{w:World}{A:Around}{E:Value→Shared→Prop}{s:Shared}{env:Env}{value slice:Expr}{pos:Pos}{T id:String}{Q:Value→Shared→Prop}
  (hl:typeLookup (.type T) "__getitem__"=pure (some (.builtin id))) (hs:NoSl slice)
  (h:wpAny (model prog w) A (eval value env) (fun o s₁=>wpAny (model prog w) A (eval slice env) (fun i s₂=>s₂.TypeIs o T∧wpAny (model prog w) A (getItem o i) Q E s₂) E s₁) E s):
  wpAny (model prog w) A (eval (.Subscript value slice pos) env) Q E s:=by
 refine Subscript_ (wpAny_mono h (fun o s₁ h₁=>wpAny_mono h₁ (fun i s₂ h₂=>?_) fun _ _ x=>x) fun _ _ x=>x)
 obtain⟨hT,h₂⟩:=h₂
 unfold subscriptTail
 refine wpAny_bind ?_
 rw [getitemInPython_of_ne hT.not_modules]
 refine wpAny_bind (wpAny_specialOf hT hl ?_)
 have fin:wpAny (model prog w) A (subscripted slice false o i) (fun r s₃=>wpAny (model prog w) A (letTemporaryGo value o r >>= fun _=>pure r) Q E s₃) E s₂:=by
  rw [hs o i]
  exact wpAny_operating (wpAny_mono h₂ (fun r s₃ h₃=>wpAny_bind (wpAny_letTemporaryGo (wpAny_pure h₃))) fun _ _ x=>x)
 first
  | exact wpAny_pure (wpAny_bind fin)
  | exact wpAny_bind (wpAny_pure (wpAny_bind fin))
  | exact wpAny_bind fin
theorem dict_typeIs {X:Cx}{pins:List (Addr × Obj)}{σ:St}{H:Hp}{s:Shared}{a:Addr}{y:V}{o:Option V}(I:Inv X pins σ H s) (g:DGet H a y o):s.TypeIs (.ref a) "dict":=by
 rcases g with ⟨kvs,k,e,_,_⟩ | ⟨kvs,k,b,e,_,_,_⟩
 ·obtain⟨_,_,vs,_,dd⟩:=dk_rd I.hok e
  exact dd.typeIs
 ·obtain⟨_,_,xs,_,dd⟩:=dt_rd I.hok e
  exact dd.typeIs
def tDGet (td ty:TE):TE:=fun σ H Q=>td σ H fun x H1=>ty σ H1 fun y H2=>∃ a v,x=.ref a∧DGet H2 a y (some v)∧Q v H2
def tDNotIn (ty td:TE):TE:=fun σ H Q=>ty σ H fun y H1=>td σ H1 fun x H2=>∃ a o,x=.ref a∧DGet H2 a y o∧Q (.bl (!o.isSome)) H2
def sDPut (td ty tv:TE):TS:=fun D σ H=>tv σ H fun v H1=>td σ H1 fun x H2=>ty σ H2 fun y H3=>∃ a H4,x=.ref a∧DPut H3 a y v H4∧D.nx σ H4
section
variable {X:Cx}{o i e value:Expr}{pos pos' tpos:Pos}{td ty tv:TE}
theorem pe_dget (hu:X.A.units + 1 < cLine) (ho:PE X o td) (hi:PE X i ty) (hs:NoSl i):PE X (.Subscript o i pos) (tDGet td ty):=by
 intro pins s σ H Q I h
 refine subD_of PySem.F.slot_dict_getitem.lookup hs (thn (ho pins s σ H _ I h) fun u s1 ⟨x,H1,I1,rx,q1⟩=>thn (hi pins s1 σ H1 _ I1 q1) fun iv s2 ⟨y,H2,I2,ry,a,v,ex,g,q2⟩=>?_)
 subst ex
 obtain rfl:u=Value.ref a:=rx
 exact⟨dict_typeIs I2 g,d_getItem hu I2 g ry fun w' s3 I3 rw'=>⟨v,H2,I3,rw',q2⟩⟩
theorem pc_dnotin (hu:X.A.units + 1 < cLine) (hi:PE X i ty) (ho:PE X o td):PC X .NotIn i o (tDNotIn ty td):=by
 intro pins s σ H Q I h
 refine thn (hi pins s σ H _ I h) fun iv s1 ⟨y,H1,I1,ry,q1⟩=>thn (ho pins s1 σ H1 _ I1 q1) fun u s2 ⟨x,H2,I2,rx,a,ov,ex,g,q2⟩=>?_
 subst ex
 obtain rfl:u=Value.ref a:=rx
 exact d_notIn hu I2 g ry fun s3 I3=>⟨.bl (!ov.isSome),H2,I3,rfl,q2⟩
theorem ps_dput (hu:X.A.units + 1 < cLine) (ho:PE X o td) (hi:PE X i ty) (hv:PE X value tv) (hs:swapsWith value (some (.Subscript o i pos')) pos.line X.env=pure false):
  PS X (.Assign [.Subscript o i pos'] value pos) (sDPut td ty tv):=by
 intro pins s σ H D I h
 refine wpAny_Assign_Subscript (thn (hv pins s σ H _ I h) fun r s1 ⟨v,H1,I1,rv,q1⟩=>thn (ho pins s1 σ H1 _ I1 q1) fun u s2 ⟨x,H2,I2,rx,q2⟩=>thn (hi pins s2 σ H2 _ I2 q2) fun iv s3 ⟨y,H3,I3,ry,a,H4,ex,g,q3⟩=>?_) hs
 subst ex
 obtain rfl:u=Value.ref a:=rx
 exact d_setItem hu I3 g ry rv fun s4 I4=>⟨σ,H4,I4,q3⟩
end
theorem dk_empty {P:Program}{w:World}{H:Hp}(h:Heap) (hb:sysModules < h.objs.size):ObjOk P w H (h.push { cls:=.type "dict",data:=.dict #[] }) h.objs.size (.dK []):=
 ⟨Nat.zero_le _,beq_eq_false_iff_ne.mpr (Ne.symm (Nat.ne_of_lt hb)),[],.nil,Heap.DictOf.new h⟩
theorem dt_empty {P:Program}{w:World}{H:Hp}(h:Heap) (hb:sysModules < h.objs.size):ObjOk P w H (h.push { cls:=.type "dict",data:=.dict #[] }) h.objs.size (.dT []):=
 ⟨Nat.zero_le _,beq_eq_false_iff_ne.mpr (Ne.symm (Nat.ne_of_lt hb)),[],.nil,_,#[],0,Heap.get?_push_size _ rfl,⟨rfl,rfl,rfl⟩,rfl,rfl,List.nodup_nil⟩
def tDNewK:TE:=fun _ H Q=>∀ p,H p=none→Q (.ref p) (upd H p (.dK []))
def tDNewT:TE:=fun _ H Q=>∀ p,H p=none→Q (.ref p) (upd H p (.dT []))
section
variable {X:Cx}{pos:Pos}
theorem pe_dnewK:PE X (.Dict [] [] pos) tDNewK:=fun pins s σ H Q I h=>
 wpAny_Dict_empty ⟨.ref s.heap.objs.size,_,I.laid (a:=s.heap.objs.size) (o:=.dK []) (t':=s.toks) (fun _ _ q=>Heap.get?_push_of_some _ q) (Nat.le_refl _) (dk_empty s.heap I.big),rfl,h _ (I.hok.fresh (Nat.le_refl _))⟩
theorem pe_dnewT:PE X (.Dict [] [] pos) tDNewT:=fun pins s σ H Q I h=>
 wpAny_Dict_empty ⟨.ref s.heap.objs.size,_,I.laid (a:=s.heap.objs.size) (o:=.dT []) (t':=s.toks) (fun _ _ q=>Heap.get?_push_of_some _ q) (Nat.le_refl _) (dt_empty s.heap I.big),rfl,h _ (I.hok.fresh (Nat.le_refl _))⟩
end
def tPairs:List (TE × TE)→St→Hp→(List (V × V)→Hp→Prop)→Prop
 | [],_,H,Q=>Q [] H
 | (tk,tv)::r,σ,H,Q=>tk σ H fun x H1=>tv σ H1 fun y H2=>tPairs r σ H2 fun ps H3=>Q ((x,y)::ps) H3
abbrev VV:List (V × V)→List (Value × Value)→Prop:=Paired fun p q=>RelV p.1 q.1∧RelV p.2 q.2
def PPs (X:Cx) (pos:Pos) (keys:List (Option Expr)) (values:List Expr) (trs:List (TE × TE)):Prop:=
 ∀ (pins:List (Addr × Obj)) (s:Shared) (σ:St) (H:Hp) (Q:List (V × V)→Hp→Prop),Inv X pins σ H s→tPairs trs σ H Q→
  wpAny (model X.prog X.w) X.A (evalPairs (pairTrees keys values X.env pos)) (fun vs s'=>∃ ps H',Inv X pins σ H' s'∧VV ps vs∧Q ps H') X.xe s
theorem pps_nil {X:Cx}{pos:Pos}:PPs X pos [] [] []:=fun pins s σ H Q I h=>pairTrees_nil_walk ⟨[],H,I,.nil,h⟩
theorem pps_cons {X:Cx}{pos:Pos}{k v:Expr}{ks:List (Option Expr)}{vs:List Expr}{tk tv:TE}{trs:List (TE × TE)} (hk:PE X k tk) (hv:PE X v tv) (hr:PPs X pos ks vs trs):
  PPs X pos (some k::ks) (v::vs) ((tk,tv)::trs):=fun pins s σ H Q I h=>
 pairTrees_cons_walk (thn (hk pins s σ H _ I h) fun u s1 ⟨x,H1,I1,rx,q1⟩=>thn (hv pins s1 σ H1 _ I1 q1) fun w2 s2 ⟨y,H2,I2,ry,q2⟩=>
  thn (hr pins s2 σ H2 _ I2 q2) fun ws s3 ⟨ps,H3,I3,rel,q3⟩=>⟨(x,y)::ps,H3,I3,.cons ⟨rx,ry⟩ rel,q3⟩)
def mergeK (kvs more:List (Key × V)):List (Key × V):=more.foldl (fun acc kv=>putK acc kv.1 kv.2) kvs
theorem KV.merge:∀ {more:List (Key × V)}{rs:List (Key × Value)}{kvs:List (Key × V)}{vs:List (Key × Value)},KV more rs→KV kvs vs→KV (mergeK kvs more) (merged vs rs):=by
 intro more rs kvs vs r
 unfold KV at r
 induction r generalizing kvs vs with
 | nil=>intro q;exact q
 | @cons p q ps qs h t ih=>
  intro r0
  have e:KV (putK kvs p.1 p.2) (stored vs q.1 q.2):=by
   have:=r0.put p.1 h.2
   rw [← h.1];exact this
  exact ih e
theorem length_mergeK:∀ (more kvs:List (Key × V)),(mergeK kvs more).length≤kvs.length + more.length
 | [],kvs=>by show kvs.length≤kvs.length + 0;omega
 | p::r,kvs=>by
  have h1:=length_mergeK r (putK kvs p.1 p.2)
  have h2:=length_putK kvs p.1 p.2
  show (mergeK (putK kvs p.1 p.2) r).length≤_
  rw [List.length_cons];omega
theorem carries_of {P:Program}{w:World}:∀ {kvs:List (Key × V)}{ws:List (Value × Value)},VV (kvs.map fun kv=>(kV kv.1,kv.2)) ws→∃ rs,Carries (mixKind P w) ws rs∧KV kvs rs
 | [],_,r=>by rw [List.map_nil] at r;cases r;exact⟨[],True.intro,.nil⟩
 | p::kvs,_,r=>by
  rw [List.map_cons] at r
  cases r with
  | @cons a b as bs h t=>
   obtain⟨rs,c,q⟩:=carries_of (P:=P) (w:=w) t
   obtain⟨b1,b2⟩:=b
   exact⟨(p.1,b2)::rs,⟨kV_is h.1,rfl,c⟩,.cons ⟨rfl,h.2⟩ q⟩
def tDisp (trs:List (TE × TE)):TE:=fun σ H Q=>∀ p,H p=none→tPairs trs σ (upd H p (.dK [])) fun ps H2=>H2 p=some (.dK [])∧∃ kvs:List (Key × V),ps=kvs.map (fun kv=>(kV kv.1,kv.2))∧kvs.length≤15∧Q (.ref p) (upd H2 p (.dK (mergeK [] kvs)))
theorem pe_disp {X:Cx}{pos:Pos}{keys:List (Option Expr)}{values:List Expr}{trs:List (TE × TE)} (h:PPs X pos keys values trs) (hall:keys.all (·.isSome)=true) (hl:keys.length=values.length) (h0:keys≠[])
  (h15:keys.length≤15):PE X (.Dict keys values pos) (tDisp trs):=by
 intro pins s σ H Q I q
 have hn:=I.hok.fresh (Nat.le_refl s.heap.objs.size)
 have I1:=I.laid (a:=s.heap.objs.size) (o:=.dK []) (h':=s.heap.push { cls:=.type "dict",data:=.dict #[] }) (t':=s.toks) (fun _ _ q=>Heap.get?_push_of_some _ q) (Nat.le_refl _) (dk_empty s.heap I.big)
 refine wpAny_Dict_walk (knd:=mixKind X.prog X.w) hall hl h0 h15 (thn (h pins _ σ _ _ I1 (q _ hn)) fun ws s2 ⟨ps,H2,I2,rel,e,kvs,ep,lk,q2⟩=>?_)
 subst ep
 obtain⟨rs,c,rk⟩:=carries_of (P:=X.prog) (w:=X.w) rel
 obtain⟨z,hd,vs0,r0,dd⟩:=dk_of I2.hok e
 cases r0
 refine⟨rs,c,dd,fun h' dd' hs=>⟨.ref s.heap.objs.size,_,?_,rfl,q2⟩⟩
 have hz:(mergeK [] kvs).length≤sizeLine:=by
  have h1:=length_mergeK kvs []
  rw [List.length_nil] at h1
  rw [sizeLine_eq];omega
 have he:∃ q,h'.get? s.heap.objs.size=some q:=let ⟨q,_,_,hq,_⟩:=dd';⟨q,hq⟩
 exact d_write I2 (by rw [e];exact True.intro) hs he (dk_new hz hd (rk.merge .nil) dd')
structure M1 (X:Cx) (o:Expr) (m:Str) (apos:Pos) (e:Expr) (cpos:Pos):Prop where
 base:attributeBase o m X.env (eval o X.env)=eval o X.env
 few:((backTo cpos (starEach [e] X.env)).all (fun x=>!x.1) && (backToKw cpos (keywordEach [] X.env)).all (fun x=>x.1.isSome)
  && decide (([e]:List Expr).length + ([]:List Keyword).length + (if ([]:List Keyword).isEmpty then 0 else 1) < 30))=true
 line:(apos.endLine == cpos.line)=true
 trees:backTo cpos (starEach [e] X.env)=[(false,eval e X.env)]
structure M2 (X:Cx) (o:Expr) (m:Str) (apos:Pos) (e f:Expr) (cpos:Pos):Prop where
 base:attributeBase o m X.env (eval o X.env)=eval o X.env
 few:((backTo cpos (starEach [e,f] X.env)).all (fun x=>!x.1) && (backToKw cpos (keywordEach [] X.env)).all (fun x=>x.1.isSome)
  && decide (([e,f]:List Expr).length + ([]:List Keyword).length + (if ([]:List Keyword).isEmpty then 0 else 1) < 30))=true
 line:(apos.endLine == cpos.line)=true
 trees:backTo cpos (starEach [e,f] X.env)=[(false,eval e X.env),(false,eval f X.env)]
def IsD (H:Hp) (a:Addr):Prop:=(∃ kvs,Rd H a (.dK kvs))∨∃ kvs,Rd H a (.dT kvs)
theorem isD_at {X:Cx}{pins:List (Addr × Obj)}{σ:St}{H:Hp}{s:Shared}{a:Addr}(I:Inv X pins σ H s) (d:IsD H a):
  s.TypeIs (.ref a) "dict"∧(∀ b,Value.ref a=.ref b→∃ ob,s.heap.get? b=some ob∧ob.dict=none)∧(a == sysModules)=false:=by
 rcases d with ⟨kvs,e⟩ | ⟨kvs,e⟩
 ·obtain⟨_,hd,vs,_,dd⟩:=dk_rd I.hok e
  refine⟨dd.typeIs,fun b q=>?_,hd⟩
  cases q
  obtain⟨ob,_,_,h1,h2,_⟩:=dd
  exact⟨ob,h1,h2.2.1⟩
 ·obtain⟨_,hd,xs,_,dd⟩:=dt_rd I.hok e
  refine⟨dd.typeIs,fun b q=>?_,hd⟩
  cases q
  obtain⟨ob,_,_,h1,h2,_⟩:=dd
  exact⟨ob,h1,h2.2.1⟩
section
variable {X:Cx}{pins:List (Addr × Obj)}{σ:St}{H:Hp}{s:Shared}{a:Addr}{y d:V}{u r:Value}{o:Option V}{A:Around}{E:Value→Shared→Prop}
theorem d_get1 {Q:Value→Shared→Prop}(hu:A.units + 1 < cLine) (I:Inv X pins σ H s) (g:DGet H a y o) (ry:RelV y u) (h:∀ w' s',Inv X pins σ H s'→RelV (o.getD .non) w'→Q w' s'):
  wpAny (model X.prog X.w) A (call (.builtin "dict.get") [.ref a,u]) Q E s:=by
 rcases g with ⟨kvs,k,e,ey,l⟩ | ⟨kvs,k,b,e,ey,eb,l⟩
 ·subst ey
  obtain⟨z,hd,vs,rel,dd⟩:=dk_rd I.hok e
  refine call_meetsIn PySem.F.slot_dict_get dd.typeIs PySem.F.entry_dict_get (PySem.F.args_dict_get_2 _ _) (meets_dict_get (mixKind X.prog X.w) a (kV_is ry) hd) ⟨_,dd.mapOf,h _ _ (I.tok _) ?_⟩
  rw [l]
  exact(rel.val k).getD rfl
 ·subst ey
  cases (show u=Value.ref b from ry)
  obtain⟨z,hd,xs,rel,dd⟩:=dt_rd I.hok e
  refine call_meetsIn PySem.F.slot_dict_get dd.typeIs PySem.F.entry_dict_get (PySem.F.args_dict_get_2 _ _) (meetsH_dict_get (tupleKind (mixKind X.prog X.w)) a b hd) ⟨tupleKind_room_in1 hu,k,xs,key_of I.hok eb,dd,h _ _ (I.tok _) ?_⟩
  rw [l]
  exact(rel.val k).getD rfl
theorem d_get2 {Q:Value→Shared→Prop}(hu:A.units + 1 < cLine) (I:Inv X pins σ H s) (g:DGet H a y o) (ry:RelV y u) (rd:RelV d r) (h:∀ w' s',Inv X pins σ H s'→RelV (o.getD d) w'→Q w' s'):
  wpAny (model X.prog X.w) A (call (.builtin "dict.get") [.ref a,u,r]) Q E s:=by
 rcases g with ⟨kvs,k,e,ey,l⟩ | ⟨kvs,k,b,e,ey,eb,l⟩
 ·subst ey
  obtain⟨z,hd,vs,rel,dd⟩:=dk_rd I.hok e
  refine call_meetsIn PySem.F.slot_dict_get dd.typeIs PySem.F.entry_dict_get (PySem.F.args_dict_get_3 _ _ _) (meets_dict_get_default (mixKind X.prog X.w) a (kV_is ry) hd r) ⟨_,dd.mapOf,h _ _ (I.tok _) ?_⟩
  rw [l]
  exact(rel.val k).getD rd
 ·subst ey
  cases (show u=Value.ref b from ry)
  obtain⟨z,hd,xs,rel,dd⟩:=dt_rd I.hok e
  refine call_meetsIn PySem.F.slot_dict_get dd.typeIs PySem.F.entry_dict_get (PySem.F.args_dict_get_3 _ _ _) (meetsH_dict_get_default (tupleKind (mixKind X.prog X.w)) a b hd r) ⟨tupleKind_room_in1 hu,k,xs,key_of I.hok eb,dd,h _ _ (I.tok _) ?_⟩
  rw [l]
  exact(rel.val k).getD rd
end
def tDGet1 (td ty:TE):TE:=fun σ H Q=>td σ H fun x H1=>∃ a,x=.ref a∧IsD H1 a∧ty σ H1 fun y H2=>∃ o,DGet H2 a y o∧Q (o.getD .non) H2
def tDGet2 (td ty tx:TE):TE:=fun σ H Q=>td σ H fun x H1=>∃ a,x=.ref a∧IsD H1 a∧ty σ H1 fun y H2=>tx σ H2 fun z H3=>∃ o,DGet H3 a y o∧Q (o.getD z) H3
section
variable {X:Cx}{o e f:Expr}{apos cpos:Pos}{td ty tx:TE}
theorem pe_dget1 (hu:X.A.units + 1 < cLine) (ho:PE X o td) (he:PE X e ty) (m:M1 X o "get" apos e cpos):PE X (.Call (.Attribute o "get" apos) [e] [] cpos) (tDGet1 td ty):=by
 intro pins s σ H Q I h
 refine wpAny_Call_method m.base m.few m.line PySem.F.plainAttrs_dict PySem.F.slot_dict_get PySem.F.type_dict_get (thn (ho pins s σ H _ I h) fun u s1 ⟨x,H1,I1,rx,a,ex,d,q1⟩=>?_)
 subst ex
 obtain rfl:u=Value.ref a:=rx
 obtain⟨t1,t2,_⟩:=isD_at I1 d
 refine⟨t1,t2,?_⟩
 rw [m.trees]
 refine Calls.callWith_builtin rfl (Calls.evalArgs_plain (Calls.spliced_cons (thn (he pins s1 σ H1 _ I1 q1) fun iv s2 ⟨y,H2,I2,ry,ov,g,q2⟩=>Calls.spliced_nil ?_)))
 exact d_get1 hu I2 g ry fun w' s3 I3 rw'=>⟨_,H2,I3,rw',q2⟩
theorem pe_dget2 (hu:X.A.units + 1 < cLine) (ho:PE X o td) (he:PE X e ty) (hf:PE X f tx) (m:M2 X o "get" apos e f cpos):PE X (.Call (.Attribute o "get" apos) [e,f] [] cpos) (tDGet2 td ty tx):=by
 intro pins s σ H Q I h
 refine wpAny_Call_method m.base m.few m.line PySem.F.plainAttrs_dict PySem.F.slot_dict_get PySem.F.type_dict_get (thn (ho pins s σ H _ I h) fun u s1 ⟨x,H1,I1,rx,a,ex,d,q1⟩=>?_)
 subst ex
 obtain rfl:u=Value.ref a:=rx
 obtain⟨t1,t2,_⟩:=isD_at I1 d
 refine⟨t1,t2,?_⟩
 rw [m.trees]
 refine Calls.callWith_builtin rfl (Calls.evalArgs_plain (Calls.spliced_cons (thn (he pins s1 σ H1 _ I1 q1) fun iv s2 ⟨y,H2,I2,ry,q2⟩=>
  Calls.spliced_cons (thn (hf pins s2 σ H2 _ I2 q2) fun fv s3 ⟨z,H3,I3,rz,ov,g,q3⟩=>Calls.spliced_nil ?_))))
 exact d_get2 hu I3 g ry rz fun w' s4 I4 rw'=>⟨_,H3,I4,rw',q3⟩
end
section
variable {X:Cx}{pins:List (Addr × Obj)}{σ:St}{H:Hp}{s:Shared}{a:Addr}{kvs:List (Key × V)}{A:Around}{E:Value→Shared→Prop}
end
section
variable {X:Cx}{pins:List (Addr × Obj)}{σ:St}{H:Hp}{s:Shared}{a:Addr}{y:V}{u:Value}{A:Around}{E:Value→Shared→Prop}
end
end L2
namespace L2
open PySem PySem.Spec PyProof.Rows
section
variable {X:Cx}
end
section
variable {κ:Type} [DecidableEq κ]
theorem valV_not {kvs:List (κ × V)}{k:κ}(h:valV kvs k=none):¬ k∈kvs.map (·.1):=by
 intro m
 obtain⟨p,hp,e⟩:=List.mem_map.mp m
 have q:(kvs.any fun kv=>decide (kv.1=k))=true:=List.any_eq_true.mpr ⟨p,hp,decide_eq_true e⟩
 rw [valV_any,h] at q
 exact absurd q (by simp)
theorem valV_in {kvs:List (κ × V)}{k:κ}{v:V}(h:valV kvs k=some v):k∈kvs.map (·.1):=by
 have q:(kvs.any fun kv=>decide (kv.1=k))=true:=by
  rw [valV_any,h]
  all_goals rfl
 obtain⟨p,hp,e⟩:=List.any_eq_true.mp q
 exact List.mem_map.mpr ⟨p,hp,of_decide_eq_true e⟩
theorem nd_snoc:∀ {l:List κ}{k:κ},l.Nodup→¬ k∈l→(l++[k]).Nodup
 | [],k,_,_=>by simp
 | a::r,k,h,hk=>by
  obtain⟨h1,h2⟩:=List.nodup_cons.mp h
  show (a::(r++[k])).Nodup
  refine List.nodup_cons.mpr ⟨fun m=>?_,nd_snoc h2 fun m=>hk (List.mem_cons.mpr (Or.inr m))⟩
  rcases List.mem_append.mp m with q | q
  ·exact h1 q
  ·exact hk (List.mem_cons.mpr (Or.inl (List.mem_singleton.mp q).symm))
theorem nd_putK {kvs:List (κ × V)}{k:κ}(v:V) (hn:(kvs.map (·.1)).Nodup) (h:valV kvs k=none):((putK kvs k v).map (·.1)).Nodup:=by
 rw [putK_new v h,List.map_append]
 exact nd_snoc hn (valV_not h)
end
end L2
set_option Elab.async false
set_option linter.all false
set_option maxRecDepth 100000
namespace L2
open PySem PySem.Spec PyProof.Rows
def cxComp (X:Cx) (scope:Scope) (cl:List (Str × Addr)) (N:List Str) (C:Addr) (ex:List Addr) (s₀:Shared) (H₀:Hp):Cx where
 prog:=X.prog
 w:=X.w
 K:=X.K
 mg:=X.mg
 base:=X.base
 A:=X.A
 N:=N
 s₀:=s₀
 H₀:=H₀
 env:=compEnvC scope cl C X.env
 outer:=X.stack
 stack:=X.stack
 ex:=ex
 fn:=fun _=>false
 calm:=X.calm
 pn:=X.pn
 xe:=fun _ _=>False
theorem z256 {X:Cx}{scope:Scope}{cl:List (Str × Addr)}{N:List Str}{C:Addr}{ex:List Addr}{s₀:Shared}{H₀:Hp}(c:Calm X):Calm (cxComp X scope cl N C ex s₀ H₀):=c
structure z8 (X:Cx) (scope:Scope) (tn cn:List Str) (caps:List Nat):Prop where
 kind:scope.kind=.function
 nocell:∀ y∈scope.names,y.2≠.cell
 names:∀ y∈scope.names,y.2=.local→scope.names.lookup y.1=some .local
 caught:∀ y∈scope.names,y.2=.free→X.env.kindOf y.1=some .cell∨X.env.kindOf y.1=some .free
 free:∀ y∈cn,scope.names.lookup y=some .free
 slots:caps.map (fun j=>X.N[j]?)=cn.map some
theorem z8.of {X:Cx}{scope osc:Scope}{tn cn:List Str}{caps:List Nat}(ho:X.env.scope=osc) (kind:scope.kind=.function) (nocell:∀ y∈scope.names,y.2≠.cell)
  (names:∀ y∈scope.names,y.2=.local→scope.names.lookup y.1=some .local) (caught:∀ y∈scope.names,y.2=.free→osc.names.lookup y.1=some .cell∨osc.names.lookup y.1=some .free) (free:∀ y∈cn,scope.names.lookup y=some .free)
  (slots:caps.map (fun j=>X.N[j]?)=cn.map some):z8 X scope tn cn caps:=
 ⟨kind,nocell,names,fun y hy hf=>by show X.env.scope.names.lookup y.1=_∨X.env.scope.names.lookup y.1=_;rw [ho];exact caught y hy hf,free,slots⟩
def capσ (σ:St) (caps:List Nat):St:=caps.map fun j=>(σ[j]?).getD none
theorem z94 (env:Env):∀ (names:List (Str × NameKind)) (cs:List (Str × Addr)),(∀ x∈names,x.2=.free→∃ c,env.cells.lookup x.1=some c)→(∀ y c,cs.lookup y=some c→env.cells.lookup y=some c)→
  ∃ cl:List (Str × Addr),(forIn names cs fun(x:Str × NameKind) (r:List (Str × Addr))=>(if (x.2 == NameKind.free)=true then do let a ← cellOf env x.1;pure (ForInStep.yield ((x.1,a)::r)) else pure (ForInStep.yield r):Sem (ForInStep (List (Str × Addr)))))=pure cl∧
   (∀ y c,cl.lookup y=some c→env.cells.lookup y=some c)∧(∀ x∈names,x.2=.free→∃ c,cl.lookup x.1=some c)∧∀ y c,cs.lookup y=some c→∃ c',cl.lookup y=some c'
 | [],cs,_,h2=>⟨cs,by simp,h2,fun x h=>absurd h (by simp),fun y c h=>⟨c,h⟩⟩
 | (n,k)::r,cs,h1,h2=>by
  by_cases hk:(k == NameKind.free)=true
  ·obtain⟨c,hc⟩:=h1 (n,k) List.mem_cons_self (by simpa using hk)
   have h2':∀ y d,((n,c)::cs).lookup y=some d→env.cells.lookup y=some d:=fun y d h=>by
    rw [List.lookup_cons] at h
    split at h
    ·rename_i e
     have e':y=n:=by simpa using e
     cases h
     rw [e'];exact hc
    ·exact h2 y d h
   obtain⟨cl,e,p1,p2,p3⟩:=z94 env r ((n,c)::cs) (fun x hx=>h1 x (List.mem_cons_of_mem _ hx)) h2'
   refine⟨cl,?_,p1,fun x hx hf=>?_,fun y d h=>?_⟩
   ·rw [List.forIn_cons]
    simp only [hk,if_true,cellOf,hc,pure_bind]
    exact e
   ·rcases List.mem_cons.mp hx with e1 | e1
    ·subst e1
     exact p3 n c (by rw [List.lookup_cons];simp)
    ·exact p2 x e1 hf
   ·by_cases hy:(y == n)=true
    ·exact p3 y c (by rw [List.lookup_cons,hy])
    ·exact p3 y d (by rw [List.lookup_cons];simp only [Bool.not_eq_true] at hy;rw [hy];exact h)
  ·obtain⟨cl,e,p1,p2,p3⟩:=z94 env r cs (fun x hx=>h1 x (List.mem_cons_of_mem _ hx)) h2
   refine⟨cl,?_,p1,fun x hx hf=>?_,p3⟩
   ·rw [List.forIn_cons]
    simp only [hk,if_false,pure_bind,Bool.false_eq_true]
    exact e
   ·rcases List.mem_cons.mp hx with e1 | e1
    ·subst e1
     exact absurd (by simpa using hf) hk
    ·exact p2 x e1 hf
theorem z134 {scope:Scope}{env:Env}(h:∀ x∈scope.names,x.2=.free→∃ c,env.cells.lookup x.1=some c):
  ∃ cl:List (Str × Addr),closureFor scope env=pure cl∧(∀ y c,cl.lookup y=some c→env.cells.lookup y=some c)∧∀ x∈scope.names,x.2=.free→∃ c,cl.lookup x.1=some c:=by
 obtain⟨cl,e,p1,p2,_⟩:=z94 env scope.names [] h (fun y c h=>by simp at h)
 refine⟨cl,?_,p1,p2⟩
 unfold closureFor
 simp only [bind_pure]
 first
  | exact e
  | (rw [← e];rfl)
  | (rw [← e];congr 1;funext x r;obtain⟨n,k⟩:=x;by_cases hk:(k == NameKind.free)=true <;> simp [hk])
theorem z77 {env:Env}:∀ {names:List (Str × NameKind)}{x:Str},names.lookup x=some .free→
  (names.map fun(n,k)=>if (k == NameKind.free && env.scope.kind == .function && env.kindOf n == some .cell) then(n,NameKind.cell) else(n,k)).lookup x=some .cell∨
  (names.map fun(n,k)=>if (k == NameKind.free && env.scope.kind == .function && env.kindOf n == some .cell) then(n,NameKind.cell) else(n,k)).lookup x=some .free
 | [],_,h=>by simp at h
 | (n,k)::r,x,h=>by
  have ih:=@z77 env r x
  show List.lookup x ((if (k == NameKind.free && env.scope.kind == .function && env.kindOf n == some .cell)=true then(n,NameKind.cell) else(n,k))::_)=_∨List.lookup x ((if (k == NameKind.free && env.scope.kind == .function && env.kindOf n == some .cell)=true then(n,NameKind.cell) else(n,k))::_)=_
  cases hx:x == n with
  | true=>
   simp only [List.lookup_cons,hx] at h
   cases h
   by_cases hc:(NameKind.free == NameKind.free && env.scope.kind == .function && env.kindOf n == some .cell)=true
   ·rw [if_pos hc];simp [List.lookup_cons,hx]
   ·rw [if_neg hc];simp [List.lookup_cons,hx]
  | false=>
   simp only [List.lookup_cons,hx] at h
   by_cases hc:(k == NameKind.free && env.scope.kind == .function && env.kindOf n == some .cell)=true
   ·rw [if_pos hc];simp only [List.lookup_cons,hx];exact ih h
   ·rw [if_neg hc];simp only [List.lookup_cons,hx];exact ih h
theorem z241 {env:Env}:∀ {names:List (Str × NameKind)}{x:Str},(∀ y∈names,y.2≠.cell)→
  ((names.map fun(n,k)=>if (k == NameKind.free && env.scope.kind == .function && env.kindOf n == some .cell) then(n,NameKind.cell) else(n,k)).lookup x=some .cell∨
  (names.map fun(n,k)=>if (k == NameKind.free && env.scope.kind == .function && env.kindOf n == some .cell) then(n,NameKind.cell) else(n,k)).lookup x=some .free)→names.lookup x=some .free
 | [],_,_,h=>by simp at h
 | (n,k)::r,x,hn,h=>by
  have ih:=@z241 env r x (fun y hy=>hn y (List.mem_cons_of_mem _ hy))
  have h:List.lookup x ((if (k == NameKind.free && env.scope.kind == .function && env.kindOf n == some .cell)=true then(n,NameKind.cell) else(n,k))::_)=_∨List.lookup x ((if (k == NameKind.free && env.scope.kind == .function && env.kindOf n == some .cell)=true then(n,NameKind.cell) else(n,k))::_)=_:=h
  cases hx:x == n with
  | true=>
   simp only [List.lookup_cons,hx]
   by_cases hc:(k == NameKind.free && env.scope.kind == .function && env.kindOf n == some .cell)=true
   ·have:(k == NameKind.free)=true:=by
     simp only [Bool.and_eq_true] at hc;exact hc.1.1
    have:k=.free:=by simpa using this
    rw [this]
   ·rw [if_neg hc] at h
    simp only [List.lookup_cons,hx] at h
    rcases h with h | h
    ·exact absurd (Option.some.inj h) (hn (n,k) List.mem_cons_self)
    ·rw [Option.some.inj h]
  | false=>
   simp only [List.lookup_cons,hx]
   by_cases hc:(k == NameKind.free && env.scope.kind == .function && env.kindOf n == some .cell)=true
   ·rw [if_pos hc] at h;simp only [List.lookup_cons,hx] at h;exact ih h
   ·rw [if_neg hc] at h;simp only [List.lookup_cons,hx] at h;exact ih h
section
variable {X:Cx}{scope:Scope}{tn cn:List Str}{caps:List Nat}{pins:List (Addr × Obj)}{σ:St}{H:Hp}{s:Shared}{fp:List Addr}{cl:List (Str × Addr)}{ob:Obj}
theorem z620 (S:z8 X scope tn cn caps) (I:Inv X pins σ H s) (hcl:∀ y c,cl.lookup y=some c→X.env.cells.lookup y=some c) (hcl2:∀ x∈scope.names,x.2=.free→∃ c,cl.lookup x.1=some c)
  (hf:∀ b∈fp,FpOk X pins H b) (hfp:∀ b∈fp,b < s.heap.objs.size) (N:List Str):
  (cxComp X scope cl N (s.heap.push ob).objs.size (s.heap.objs.size::fp) { s with heap:=s.heap.push ob } H).Ok:=by
 have hC:(s.heap.push ob).objs.size=s.heap.objs.size + 1:=by rw [Heap.size_push]
 refine⟨I.ok.mod,S.kind,I.ok.glob,I.ok.blt,Nat.le_refl _,fun x y c h1 h2=>I.ok.inj x y c (hcl x c h1) (hcl y c h2),fun x hx=>?_,fun x c h=>absurd h (by simp [cxComp]),I.ok.hd,I.ok.frames,.inl rfl,fun b hb=>?_,
  fun b o e=>⟨Heap.get?_push_of_some _ (I.bs b o e).1,(I.bs b o e).2⟩,?_,fun b o e hb=>?_,fun b hb z=>?_,?_,I.stkFree⟩
 ·exact hcl2 (x,.free) (PySem.mem_of_lookup (z241 S.nocell hx)) rfl
 ·rcases List.mem_cons.mp (show b∈s.heap.objs.size::fp from hb) with e | hb
  ·subst e
   refine⟨fun z=>?_,fun x c e z=>?_⟩
   ·have z':s.heap.objs.size=(s.heap.push ob).objs.size:=z
    omega
   ·obtain⟨v,q⟩:=I.cell x c (hcl x c e)
    exact absurd q.lt (by rw [z];exact Nat.lt_irrefl _)
  ·refine⟨fun z=>?_,fun x c e=>(hf b hb).2.2.2.2.1 x c (hcl x c e)⟩
   have z':b=(s.heap.push ob).objs.size:=z
   have h1:=hfp b hb
   rw [z',hC] at h1
   exact Nat.lt_irrefl _ (Nat.lt_of_succ_lt h1)
 ·show X.base.objs.size≤(s.heap.push ob).objs.size
  have h1:=I.ok.bsz
  have h2:=I.sz
  omega
 ·rcases List.mem_cons.mp (show b∈s.heap.objs.size::fp from hb) with e1 | hb
  ·subst e1
   exact absurd (Heap.lt_size (I.bk _ o e)) (Nat.lt_irrefl _)
  ·rcases (hf b hb).2.2.2.1 with z | z
   ·exact I.ok.noex b o e z
   ·have h1:=I.ok.bsz
    have h2:=Heap.lt_size e
    exact Nat.lt_irrefl _ (Nat.lt_of_lt_of_le h2 (Nat.le_trans h1 z))
 ·have z':=I.stkSub b z
  rcases List.mem_cons.mp (show b∈s.heap.objs.size::fp from hb) with e1 | hb
  ·subst e1
   rcases List.mem_cons.mp z' with z1 | z1
   ·exact absurd I.lt (by rw [← z1];exact Nat.lt_irrefl _)
   ·exact I.nofs (Nat.le_refl _) z1
  ·rcases List.mem_cons.mp z' with z1 | z1
   ·exact(hf b hb).2.1 z1
   ·exact(hf b hb).2.2.1 z1
 ·exact I.stack.of_keeps fun b o e _=>⟨o,Heap.get?_push_of_some _ e,rfl⟩
theorem z591 (S:z8 X scope tn cn caps) (I:Inv X pins σ H s) (hcl:∀ y c,cl.lookup y=some c→X.env.cells.lookup y=some c) (hcl2:∀ x∈scope.names,x.2=.free→∃ c,cl.lookup x.1=some c)
  (hf:∀ b∈fp,FpOk X pins H b) (hfp:∀ b∈fp,b < s.heap.objs.size) (hob:∀ v,ob.data≠.cell v) (hfr:ob.isFreed=false){h1:Heap}{m0:Str→Option Value}{tk:Nat}(hn:h1.Ns (s.heap.push ob).objs.size m0)
  (hk:∀ b o,(s.heap.push ob).get? b=some o→h1.get? b=some o):
  Inv (cxComp X scope cl (tn++cn) (s.heap.push ob).objs.size (s.heap.objs.size::fp) { s with heap:=s.heap.push ob } H) (X.pn++pins++[(s.heap.objs.size,ob)]) (List.replicate tn.length none++capσ σ caps) H { s with heap:=h1,toks:=tk }:=by
 have hC:(s.heap.push ob).objs.size=s.heap.objs.size + 1:=by rw [Heap.size_push]
 have hk':∀ b o,s.heap.get? b=some o→h1.get? b=some o:=fun b o e=>hk b o (Heap.get?_push_of_some _ e)
 have hlen:caps.length=cn.length:=by have:=congrArg List.length S.slots;simpa using this
 refine⟨z620 S I hcl hcl2 hf hfp _,rfl,I.bare,Un.kept hk,⟨m0,hn,fun i x v e1 e2 e3=>?_⟩,fun x c e=>?_,I.hok.fresh (by rw [hC];exact Nat.le_succ _),fun x c e=>I.freeC x c (hcl x c e),fun p hp=>?_,I.hok.kept hk',?_⟩
 ·have e1:(tn++cn)[i]?=some x:=e1
  by_cases hi:i < tn.length
  ·rw [List.getElem?_append_left (by simpa using hi),List.getElem?_replicate,if_pos hi] at e2
   cases e2
  ·have hi':tn.length≤i:=Nat.le_of_not_lt hi
   rw [List.getElem?_append_right (by simpa using hi'),List.length_replicate] at e2
   rw [List.getElem?_append_right hi'] at e1
   have hx:x∈cn:=List.mem_of_getElem? e1
   have hsl:(caps.map fun j=>X.N[j]?)[i - tn.length]?=(cn.map some)[i - tn.length]?:=by rw [S.slots]
   rw [List.getElem?_map,List.getElem?_map,e1] at hsl
   unfold capσ at e2
   rw [List.getElem?_map] at e2
   cases hj:caps[i - tn.length]? with
   | none=>rw [hj] at e2;cases e2
   | some j=>
    rw [hj] at hsl e2
    have hN:X.N[j]?=some x:=Option.some.inj hsl
    have e2:(σ[j]?).getD none=some v:=Option.some.inj e2
    have hσ:σ[j]?=some (some v):=by
     cases q:σ[j]? with
     | none=>rw [q] at e2;cases e2
     | some y=>rw [q] at e2;rw [← e2];rfl
    have hkx:=S.caught (x,.free) (PySem.mem_of_lookup (S.free x hx)) rfl
    obtain⟨m,_,hl⟩:=I.loc
    obtain⟨u,r,l⟩:=hl j x v hN hσ (by rcases hkx with z | z;exact .inr (.inl z);exact .inr (.inr z))
    refine⟨u,r,?_⟩
    rcases l with ⟨k,_⟩ | ⟨k,c,e,z⟩
    ·rcases hkx with z | z
     ·rw [show X.env.kindOf x=_ from k] at z;cases z
     ·rw [show X.env.kindOf x=_ from k] at z;cases z
    ·obtain⟨c',ec⟩:=hcl2 (x,.free) (PySem.mem_of_lookup (S.free x hx)) rfl
     have e':=hcl x c' ec
     rw [e] at e'
     cases e'
     obtain⟨oc,ho,hd⟩:=z
     exact .inr ⟨z77 (S.free x hx),c,ec,oc,hk' c oc ho,hd⟩
 ·obtain⟨v,oc,ho,hd⟩:=I.cell x c (hcl x c e)
  exact⟨v,oc,hk' c oc ho,hd⟩
 ·have hp:p∈X.pn++pins++[(s.heap.objs.size,ob)]:=(List.mem_append.mp hp).elim (fun z=>List.mem_append_left _ (List.mem_append_left _ z)) id
  rcases List.mem_append.mp hp with hp | hp
  ·obtain⟨e,n,ne,nf,d⟩:=I.pin p hp
   refine⟨hk' _ _ e,n,fun z=>?_,fun z=>?_,d⟩
   ·have z':p.1=(s.heap.push ob).objs.size:=z
    have h1:=Heap.lt_size e
    rw [z',hC] at h1
    exact Nat.lt_irrefl _ (Nat.lt_of_succ_lt h1)
   ·rcases List.mem_cons.mp (I.stkSub p.1 z) with z1 | z1
    ·exact ne z1
    ·exact nf z1
  ·have e:p=(s.heap.objs.size,ob):=by simpa using hp
   subst e
   refine⟨hk _ _ (Heap.get?_push_size _ hfr),I.hok.fresh (Nat.le_refl _),fun z=>?_,fun z=>?_,hob⟩
   ·have z':s.heap.objs.size=(s.heap.push ob).objs.size:=z
    omega
   ·rcases List.mem_cons.mp (I.stkSub s.heap.objs.size z) with z1 | z1
    ·exact absurd I.lt (by rw [← z1];exact Nat.lt_irrefl _)
    ·exact I.nofs (Nat.le_refl _) z1
 ·show (List.replicate tn.length none++capσ σ caps).length=(tn++cn).length
  unfold capσ
  simp [hlen]
theorem z597 {N:List Str}{σ0:St}{H':Hp}{s':Shared}{C:Addr}{s3:Shared}{its:List Value}{n:Nat}{ys:List V}(I:Inv X pins σ H s) (hf:∀ b∈fp,FpOk X pins H b) (hfp:∀ b∈fp,b < s.heap.objs.size) (hC:s.heap.objs.size < C)
  (hs3:∀ b o,s.heap.get? b=some o→s3.heap.get? b=some o) (hos:s3.os=s.os)
  (I':Inv (cxComp X scope cl N C (s.heap.objs.size::fp) s3 H) (X.pn++pins++[(s.heap.objs.size,{ cls:=.type "list",data:=.seq its.toArray n })]) σ0 H' s') (rv:Vals ys its) (hz:ys.length≤sizeLine):
  Inv X pins σ (upd H' s.heap.objs.size (.lst ys)) s'∧H' s.heap.objs.size=none∧FpOk X pins (upd H' s.heap.objs.size (.lst ys)) C∧∃ m,s'.heap.Ns C m:=by
 have pD:=I'.pin (s.heap.objs.size,{ cls:=.type "list",data:=.seq its.toArray n }) (by show _∈X.pn++(X.pn++pins++[_]);simp)
 have hD:H' s.heap.objs.size=none:=pD.2.1
 have base:Un (frs X.stack) (s.heap.objs.size::fp) H H' s3.heap s'.heap:=I'.base
 have old:∀ b o,s.heap.get? b=some o→b≠s.heap.objs.size:=fun b o e=>Nat.ne_of_lt (Heap.lt_size e)
 have nex:∀ b o,s.heap.get? b=some o→b ∉ fp→b ∉ s.heap.objs.size::fp:=fun b o e h z=>by
  rcases List.mem_cons.mp z with z | z
  ·exact old b o e z
  ·exact h z
 have oldT:∀ b u,H b=some u→b≠s.heap.objs.size:=fun b u e=>Nat.ne_of_lt (I.hok.lt e)
 refine⟨I.call' (ch:=fp) (I'.os.trans hos) ⟨fun b o e n hb hx=>base.keep b o (hs3 b o e) n hb (nex b o e hx),fun b o e n hb hx=>base.slot b o (hs3 b o e) n hb (nex b o e hx),fun b o e n hx=>?_,fun b o e hx=>base.there b o (hs3 b o e) (nex b o e hx),
  fun b xs e=>?_,fun b o u e=>?_,fun b ps e=>?_⟩ (fun a o e=>?_) I'.bare fun b hb=>?_,hD,I.fpOk (Nat.le_of_lt hC) ?_,?_⟩
 ·rw [upd_ne (old b o e)];exact base.free b o (hs3 b o e) n (nex b o e hx)
 ·rw [upd_ne (oldT b _ e)];exact base.tups b xs e
 ·rw [upd_ne (oldT b _ e)];exact base.frzs b o u e
 ·rw [upd_ne (oldT b _ e)];exact base.tbls b ps e
 ·by_cases ha:a=s.heap.objs.size
  ·subst ha
   rw [upd_same] at e
   cases e
   exact⟨hz,its,n,rv,pD.1⟩
  ·rw [upd_ne ha] at e
   exact(I'.hok a o e).stay (fun _ _ _ q=>q) (fun c q=>by rw [upd_ne (ne_of_none q hD)];exact q) fun c xs q=>by rw [upd_ne (ne_of_none q hD)];exact q
 ·have q:=hf b hb
  exact⟨q.2.2.2.1,q.2.1,q.2.2.2.2.1,q.2.2.2.2.2⟩
 ·rw [upd_ne (Nat.ne_of_gt hC)];exact I'.free
 ·obtain⟨m,hn,_⟩:=I'.loc
  exact⟨m,hn⟩
end
def PTs (X:Cx) (ifs:List Expr) (t:TT):Prop:=
 ∀ (pins:List (Addr × Obj)) (s:Shared) (σ:St) (H:Hp) (Q:Bool→Hp→Prop),Inv X pins σ H s→t σ H Q→
  wpAny (model X.prog X.w) X.A (forIn ifs true fun c r=>if r=true then do let ok ← isTrue c X.env (eval c X.env);pure (ForInStep.yield ok) else pure (ForInStep.yield r)) (TP X pins σ Q) X.xe s
def tYes:TT:=fun _ H Q=>Q true H
theorem z246 {X:Cx}:PTs X [] tYes:=fun _ _ _ H _ I h=>wpAny_tests_nil ⟨H,I,h⟩
theorem z331 {X:Cx}{c:Expr}{t:TT}(h:PT X c t):PTs X [c] t:=fun pins s σ H Q I hw=>wpAny_tests_one (h pins s σ H Q I hw)
theorem z317 {prog:Program}{w:World}{A:Around}{R:Result→Shared→Prop}{s:Shared}{elt target iter:Expr}{ifs:List Expr}{scope:Scope}{pos:Pos}{it acc:Value}{env:Env}(I:Nat→Shared→Prop)
  (turn:∀ n s,I n s→wpAny (model prog w) A (pyNext it) (fun r s₁=>match r with
   | none=>R (.ok .next) s₁
   | some v=>wpAny (model prog w) A (letOwnedTupleGo target it v) (fun _ s₁'=>wpAny (model prog w) A (assign target env v) (fun _ s₂=>
     wpAny (model prog w) A (forIn ifs true fun c r=>if r=true then do let ok ← isTrue c env (eval c env);pure (ForInStep.yield ok) else pure (ForInStep.yield r)) (fun ok s₃=>
      if ok=true then wpAny (model prog w) A (eval elt env) (fun x s₄=>
       wpAny (model prog w) A (call (.builtin "list.append") [acc,x]) (fun _ s₅=>∃ m,m < n∧I m s₅) (fun _ _=>False) s₄) (fun _ _=>False) s₃
      else ∃ m,m < n∧I m s₃) (fun _ _=>False) s₂) (fun _ _=>False) s₁') (fun _ _=>False) s₁) (fun _ _=>False) s)
  (n:Nat) (h:I n s):
  codeAny (model prog w) A (.compLoop (.ListComp elt [⟨target,iter,ifs,0⟩] scope pos) 0 it acc env) R s:=by
 refine codeAny_loop rfl I (fun n s hI=>?_) n h
 show wpAny _ A ((compTurn (.ListComp elt [⟨target,iter,ifs,0⟩] scope pos) 0 it acc env).onRaise (fun x=>do noteFrame x env;theTreesLotGoes x)) _ _ s
 refine wpAny_noted ?_
 rw [compTurn_list]
 refine wpAny_bind (wpAny_standAt (wpAny_bind (wpAny_mono (turn n s hI) (fun r s₁ h₁=>?_) fun _ _ h'=>h'.elim)))
 cases r with
 | none=>exact wpAny_pure h₁
 | some v=>
  refine wpAny_bind (wpAny_mono h₁ (fun _ s₁' h₁'=>?_) fun _ _ h'=>h'.elim)
  refine wpAny_bind (wpAny_mono h₁' (fun _ s₂ h₂=>wpAny_bind (wpAny_mono h₂ (fun ok s₃ h₃=>?_) fun _ _ h'=>h'.elim)) fun _ _ h'=>h'.elim)
  cases ok with
  | false=>exact wpAny_pure ⟨rfl,h₃⟩
  | true=>
   exact wpAny_bind (wpAny_bind (wpAny_mono h₃ (fun x s₄ h₄=>wpAny_bind (wpAny_mono h₄ (fun _ s₅ h₅=>wpAny_pure (wpAny_pure ⟨rfl,h₅⟩)) fun _ _ h'=>h'.elim)) fun _ _ h'=>h'.elim))
def CompW (J:It) (g:TG) (tt:TT) (te:TE) (σ0:St) (W:Nat→Nat→List V→Hp→Prop) (F:List V→Hp→Prop):Prop:=
 ∀ i m ys H,W i m ys H→(J.stop i H∧ys.length≤sizeLine∧F ys H)∨(J.go i H∧∃ N:List V→Hp→Prop,(∀ ys' H',N ys' H'→∃ m',m' < m∧W (i + 1) m' ys' H')∧
  ∀ x H',J.yld i H x H'→g x σ0 H' fun σ2 H2=>(σ2.length=σ0.length∧∀ (j:Nat) (v:V),σ0[j]?=some (some v)→σ2[j]?=some (some v))∧
   tt σ2 H2 fun b H3=>if b=true then te σ2 H3 fun y H4=>ys.length≤sizeLine∧N (ys++[y]) H4 else N ys H3)
section
variable {X:Cx}{scope:Scope}{tn cn:List Str}{caps:List Nat}
theorem z293 {tg iter elt:Expr}{ifs:List Expr}{pos:Pos}{g:TG}{tt:TT}{te:TE}{pins:List (Addr × Obj)}{σ:St}{H:Hp}{s:Shared}{it:Addr}{fp:List Addr}{tnn:Nat→Heap→Prop}{J:It}{cl:List (Str × Addr)}
  {W:Nat→Nat→List V→Hp→Prop}{F:List V→Hp→Prop}{m0:Nat}{E:Value→Shared→Prop}{RR:Value→Addr→Result→Shared→Prop}
  (S:z8 X scope tn cn caps) (hc:Calm X) (hcl:∀ y c,cl.lookup y=some c→X.env.cells.lookup y=some c) (hcl2:∀ x∈scope.names,x.2=.free→∃ c,cl.lookup x.1=some c)
  (hg:∀ C ex s₀ H₀,PG (cxComp X scope cl (tn++cn) C ex s₀ H₀) tg g) (ht:∀ C ex s₀ H₀,PTs (cxComp X scope cl (tn++cn) C ex s₀ H₀) ifs tt) (he:∀ C ex s₀ H₀,PE (cxComp X scope cl (tn++cn) C ex s₀ H₀) elt te)
  (I:Inv X pins σ H s) (T:Turn X.prog X.w X.K tg J fp it tnn) (st:tnn 0 s.heap) (hf:∀ b∈fp,FpOk X pins H b) (hW:CompW J g tt te (List.replicate tn.length none++capσ σ caps) W F) (w0:W 0 m0 [] H)
  (hRR:∀ D C s' H' ys m,H' D=none→F ys H'→Inv X pins σ (upd H' D (.lst ys)) s'→FpOk X pins (upd H' D (.lst ys)) C→s'.heap.Ns C m→RR (.ref D) C (.ok .next) s'):
  wpAny (model X.prog X.w) X.A (newList []) (fun acc s₃=>wpAny (model X.prog X.w) X.A (newFunctionEnv scope X.env.globals cl [] X.env.qual none .none (some X.env)) (fun cenv s₄=>
   codeAny (model X.prog X.w) X.A (.compStart (.ListComp elt [⟨tg,iter,ifs,0⟩] scope pos) 0 (.ref it) acc { cenv with scope:=relabel scope X.env }) (RR acc cenv.locals) s₄) E s₃) E s:=by
 have hfp:∀ b∈fp,b < s.heap.objs.size:=fun b hb=>let ⟨o,e,_⟩:=T.obj 0 s.heap st b hb;Heap.lt_size e
 refine wpAny_newObj_type (wpAny_newFunctionEnv S.nocell (by intro y hy;simp at hy) (fun h₁ hns₁ hsb₁=>?_) S.kind)
 dsimp only at hns₁ hsb₁ ⊢
 have hk:∀ b o,(s.heap.push { cls:=.type "list",dict:=none,data:=.seq ([]:List Value).toArray }).get? b=some o→h₁.get? b=some o:=fun b o e=>
  hsb₁.extBut b o (Nat.ne_of_lt (Heap.lt_size e)) (Heap.get?_push_of_some _ e)
 have I1:=z591 (tk:=s.toks + ([]:List (Str × Value)).length) S I hcl hcl2 hf hfp (ob:={ cls:=.type "list",dict:=none,data:=.seq ([]:List Value).toArray }) (fun v z=>by cases z) rfl hns₁ hk
 have hC:(s.heap.push { cls:=.type "list",dict:=none,data:=.seq ([]:List Value).toArray }).objs.size=s.heap.objs.size + 1:=by rw [Heap.size_push]
 generalize hCe:(s.heap.push { cls:=.type "list",dict:=none,data:=.seq ([]:List Value).toArray }).objs.size=C at *
 have st1:tnn 0 h₁:=T.keep 0 _ _ st fun b hb o e=>hk b o (Heap.get?_push_of_some _ e)
 have hE:∀ b o,s.heap.get? b=some o→({ s with heap:=s.heap.push { cls:=.type "list",dict:=none,data:=.seq ([]:List Value).toArray } }:Shared).heap.get? b=some o:=fun b o e=>Heap.get?_push_of_some _ e
 generalize hs3:({ s with heap:=s.heap.push { cls:=.type "list",dict:=none,data:=.seq ([]:List Value).toArray } }:Shared)=s3 at *
 have hos:s3.os=s.os:=by rw [← hs3]
 have hfp0:∀ b∈fp,H b=none:=fun b hb=>(hf b hb).1
 have stat:∀ {its:List Value}{n:Nat}{H':Hp},(∀ b∈fp,H' b=none)→∀ b∈fp,FpOk (cxComp X scope cl (tn++cn) C (s.heap.objs.size::fp) s3 H) (X.pn++pins++[(s.heap.objs.size,{ cls:=.type "list",data:=.seq its.toArray n })]) H' b:=fun{its n H'} hn b hb=>by
  have q:=hf b hb
  have hlt:=hfp b hb
  refine⟨hn b hb,fun z=>?_,fun z=>?_,.inl (List.mem_cons_of_mem _ hb),fun x c e=>q.2.2.2.2.1 x c (hcl x c e),fun p hp z=>?_⟩
  ·have z':b=C:=z
   rw [z',hC] at hlt
   exact Nat.lt_irrefl _ (Nat.lt_of_succ_lt hlt)
  ·rcases List.mem_cons.mp (I.stkSub b z) with z1 | z1
   ·exact q.2.1 z1
   ·exact q.2.2.1 z1
  ·have hp:p∈X.pn++pins++[(s.heap.objs.size,_)]:=(List.mem_append.mp hp).elim (fun z=>List.mem_append_left _ (List.mem_append_left _ z)) id
   rcases List.mem_append.mp hp with hp | hp
   ·exact q.2.2.2.2.2 p hp z
   ·have e:=List.mem_singleton.mp hp
    rw [e] at z
    have z':s.heap.objs.size=b:=z
    rw [← z'] at hlt
    exact Nat.lt_irrefl _ hlt
 have loop:∀ s₄:Shared,s₄={ s with heap:=h₁,toks:=s.toks + ([]:List (Str × Value)).length }→
   codeAny (model X.prog X.w) X.A (.compLoop (.ListComp elt [⟨tg,iter,ifs,0⟩] scope pos) 0 (.ref it) (.ref s.heap.objs.size) (compEnvC scope cl C X.env)) (RR (.ref s.heap.objs.size) C) s₄:=by
  rintro s₄ rfl
  refine z317 (fun n s'=>∃ i ys its k H',Inv (cxComp X scope cl (tn++cn) C (s.heap.objs.size::fp) s3 H) (X.pn++pins++[(s.heap.objs.size,{ cls:=.type "list",data:=.seq (List.toArray its) k })]) (List.replicate tn.length none++capσ σ caps) H' s'∧
   tnn i s'.heap∧(∀ b∈fp,H' b=none)∧Vals ys its∧W i n ys H') ?_ m0 ⟨0,[],[],0,H,I1,st1,hfp0,.nil,w0⟩
  rintro n s5 ⟨i,ys,its,k,H5,I5,st5,fr5,rv5,w5⟩
  rcases hW i n ys H5 w5 with ⟨stop,hz,f5⟩ | ⟨go,Nw,hNw,step⟩
  ·refine wpAny_mono (T.done (cxComp X scope cl (tn++cn) C (s.heap.objs.size::fp) s3 H) rfl rfl rfl (z256 hc) i _ s5 _ H5 (fun _ _=>False) I5 (stat fr5) st5 stop) (fun r s6 h6=>?_) fun _ _ z=>z
   obtain⟨hr,I6⟩:=h6
   subst hr
   obtain⟨J1,J2,J3,m,J4⟩:=z597 I hf hfp (by omega) hE hos I6 rv5 hz
   exact hRR _ _ _ _ _ m J2 f5 J1 J3 J4
  ·refine wpAny_mono (T.item (cxComp X scope cl (tn++cn) C (s.heap.objs.size::fp) s3 H) rfl rfl rfl (z256 hc) i _ s5 _ H5 (fun _ _=>False) I5 (stat fr5) st5 go) (fun r s6 h6=>?_) fun _ _ z=>z
   obtain⟨u,hr,h6⟩:=h6
   subst hr
   refine wpAny_mono h6 (fun _ s7 h7=>?_) fun _ _ z=>z
   obtain⟨x,H7,I7,r7,y7,st7,fr7⟩:=h7
   have I7':=I7.pinned (stat fr7) (T.obj _ _ st7)
   refine wpAny_mono (hg C (s.heap.objs.size::fp) s3 H _ s7 _ H7 x u _ I7' r7 (step x H7 y7)) (fun _ s8 h8=>?_) fun _ _ z=>z
   obtain⟨σ8,H8,I8,⟨hl8,hk8⟩,q8⟩:=h8
   have back:∀ {H9:Hp}{s9:Shared},Inv (cxComp X scope cl (tn++cn) C (s.heap.objs.size::fp) s3 H) (X.pn++pins++[(s.heap.objs.size,{ cls:=.type "list",data:=.seq (List.toArray its) k })]++pinsAt fp s7.heap) σ8 H9 s9→
     tnn (i + 1) s9.heap∧(∀ b∈fp,H9 b=none):=fun{H9 s9} I9=>by
    refine⟨T.keep _ _ _ st7 fun b hb o e=>(I9.pin (b,o) (List.mem_append_right _ (List.mem_append_right _ (mem_pinsAt hb e)))).1,fun b hb=>?_⟩
    obtain⟨o,e,d⟩:=T.obj _ _ st7 b hb
    exact(I9.pin (b,o) (List.mem_append_right _ (List.mem_append_right _ (mem_pinsAt hb e)))).2.1
   refine wpAny_mono (ht C (s.heap.objs.size::fp) s3 H _ s8 σ8 H8 _ I8 q8) (fun ok s9 h9=>?_) fun _ _ z=>z
   obtain⟨H9,I9,q9⟩:=h9
   cases ok with
   | false=>
    rw [if_neg (by decide)] at q9 ⊢
    obtain⟨m',hm,w9⟩:=hNw _ _ q9
    obtain⟨b1,b2⟩:=back I9
    exact⟨m',hm,i + 1,ys,its,k,H9,I9.unpinned.weak hl8.symm hk8,b1,b2,rv5,w9⟩
   | true=>
    rw [if_pos rfl] at q9 ⊢
    refine wpAny_mono (he C (s.heap.objs.size::fp) s3 H _ s9 σ8 H9 _ I9 q9) (fun yv s10 h10=>?_) fun _ _ z=>z
    obtain⟨y,H10,I10,r10,hz10,n10⟩:=h10
    obtain⟨m',hm,w10⟩:=hNw _ _ n10
    obtain⟨b1,b2⟩:=back I10
    have pD:=I10.pin (s.heap.objs.size,{ cls:=.type "list",data:=.seq (List.toArray its) k }) (List.mem_append_right _ (List.mem_append_left _ (List.mem_append_right _ (List.mem_singleton.mpr rfl))))
    refine wpAny_list_append_plain (hsz:=by rw [List.size_toArray,← rv5.length];exact hz10) ⟨k,pD.1⟩ fun h11 hl11 hs11=>?_
    obtain⟨k',e11⟩:=hl11
    have I10':Inv (cxComp X scope cl (tn++cn) C (s.heap.objs.size::fp) s3 H) (X.pn++pins) σ8 H10 s10:=I10.pins_of fun p hp=>I10.pin p (List.mem_append_right _ (List.mem_append_left _ (List.mem_append_left _ hp)))
    have I11:=I10'.turned (t':=s10.toks) (h':=h11) (it:=s.heap.objs.size) (fun b o hb e=>hs11.extBut b o hb e) pD.2.1 pD.2.2.1 (.inl List.mem_cons_self) (fun x c e z=>?_) (fun p hp z=>?_)
    ·refine⟨m',hm,i + 1,ys++[y],its++[yv],k',H10,?_,?_,b2,rv5.append (.cons r10 .nil),w10⟩
     ·refine(I11.pins_of fun p hp=>?_).weak hl8.symm hk8
      rcases List.mem_append.mp hp with hp | hp
      ·exact I11.pin p (List.mem_append_right _ hp)
      ·have e:=List.mem_singleton.mp hp
       subst e
       refine⟨?_,pD.2.1,pD.2.2.1,pD.2.2.2.1,fun v z=>by cases z⟩
       show h11.get? s.heap.objs.size=_
       rw [e11]
       simp
     ·refine T.keep _ _ _ b1 fun b hb o e=>hs11.extBut b o (fun z=>?_) e
      have h1:=hfp b hb
      rw [z] at h1
      exact Nat.lt_irrefl _ h1
    ·obtain⟨v,q⟩:=I.cell x c (hcl x c e)
     exact absurd q.lt (by rw [z];exact Nat.lt_irrefl _)
    ·have hp:p∈X.pn++pins:=(List.mem_append.mp hp).elim (fun z=>List.mem_append_left _ z) id
     exact absurd (Heap.lt_size (I.pin p hp).1) (by rw [z];exact Nat.lt_irrefl _)
 exact codeAny_compStart_list (loop _ rfl) (T.self X.A 0 _ _ _ st1 (loop _ rfl))
def tComp (wi:TI) (k:Nat) (caps:List Nat) (g:TG) (tt:TT) (te:TE):TE:=fun σ H Q=>wi σ H fun J H1=>∃ W:Nat→Nat→List V→Hp→Prop,(∃ m,W 0 m [] H1)∧
 CompW J g tt te (List.replicate k none++capσ σ caps) W fun ys H'=>∀ D,H' D=none→Q (.ref D) (upd H' D (.lst ys))
theorem z213 {tg iter elt:Expr}{ifs:List Expr}{pos:Pos}{wi:TI}{g:TG}{tt:TT}{te:TE}(S:z8 X scope tn cn caps) (hc:Calm X) (hi:PI X tg iter wi)
  (hg:∀ cl C ex s₀ H₀,PG (cxComp X scope cl (tn++cn) C ex s₀ H₀) tg g) (ht:∀ cl C ex s₀ H₀,PTs (cxComp X scope cl (tn++cn) C ex s₀ H₀) ifs tt) (he:∀ cl C ex s₀ H₀,PE (cxComp X scope cl (tn++cn) C ex s₀ H₀) elt te)
  (hs:∀ x,foldedSetIterable iter X.env x=pure x:=by intro _;rfl):PE X (.ListComp elt [⟨tg,iter,ifs,0⟩] scope pos) (tComp wi tn.length caps g tt te):=by
 intro pins s σ H Q I h
 obtain⟨cl,hcl0,hcl,hcl2⟩:=z134 (scope:=scope) (env:=X.env) fun x hx hf=>I.ok.has x.1 (S.caught x hx hf)
 rw [eval_ListComp]
 refine wpAny_comprehension_free (use:=none) rfl hs hcl0 S.kind S.names (thn (hi pins s σ H _ I h) fun v s1 h1=>thn h1 fun itv s2 h2=>?_)
 obtain⟨it,fp,tnn,J,H2,e,I2,T,st2,f2,W,⟨m0,w0⟩,turn⟩:=h2
 subst e
 refine z293 (RR:=fun acc C=>compPost (model X.prog X.w) X.A X.xe none (EP X pins σ Q) acc C) S hc hcl hcl2 (hg cl) (ht cl) (he cl) I2 T st2 f2 turn w0 ?_
 intro D C s' H' ys m hD f I' fC hn
 refine⟨m,hn,fun h' hs'=>?_⟩
 have I'':=I'.turned (t':=s'.toks) (h':=h') (it:=C) (fun b o hb e=>hs'.extBut b o hb e) fC.1 fC.2.1 fC.2.2.2.1 fC.2.2.2.2.1 fC.2.2.2.2.2
 exact⟨.ref D,_,I'',rfl,f D hD⟩
def sComp (i:Nat) (wi:TI) (k:Nat) (caps:List Nat) (g:TG) (tt:TT) (te:TE):TS:=fun D σ H=>wi σ H fun J H1=>∃ W:Nat→Nat→List V→Hp→Prop,(∃ m,W 0 m [] H1)∧
 CompW J g tt te (List.replicate k none++capσ σ caps) W fun ys H'=>∀ p,H' p=none→D.nx (σ.set i (some (.ref p))) (upd H' p (.lst ys))
theorem z465 {tg iter elt:Expr}{ifs:List Expr}{pos spos py:Pos}{y:Str}{i:Nat}{wi:TI}{g:TG}{tt:TT}{te:TE}(S:z8 X scope tn cn caps) (hc:Calm X) (hN:X.N.Nodup) (hy:X.N[i]?=some y) (hl:X.env.scope.names.lookup y=some .local)
  (hi:PI X tg iter wi)
  (hg:∀ cl C ex s₀ H₀,PG (cxComp X scope cl (tn++cn) C ex s₀ H₀) tg g) (ht:∀ cl C ex s₀ H₀,PTs (cxComp X scope cl (tn++cn) C ex s₀ H₀) ifs tt) (he:∀ cl C ex s₀ H₀,PE (cxComp X scope cl (tn++cn) C ex s₀ H₀) elt te)
  (hsw:swapsWith (.ListComp elt [⟨tg,iter,ifs,0⟩] scope pos) (some (.Name y py)) spos.line X.env=pure true)
  (hs:∀ x,foldedSetIterable iter X.env x=pure x:=by intro _;rfl):PS X (.Assign [.Name y py] (.ListComp elt [⟨tg,iter,ifs,0⟩] scope pos) spos) (sComp i wi tn.length caps g tt te):=by
 intro pins s σ H D I h
 obtain⟨cl,hcl0,hcl,hcl2⟩:=z134 (scope:=scope) (env:=X.env) fun x hx hf=>I.ok.has x.1 (S.caught x hx hf)
 rw [exec_Assign_Name_used _ _ _ _ hsw]
 refine wpAny_bind (wpAny_standAt (wpAny_bind ?_))
 show wpAny _ X.A (do let _ ← comprehension (.ListComp elt [⟨tg,iter,ifs,0⟩] scope pos) scope X.env _ (newList []) false (eval iter X.env) (some (assign (.Name y py) X.env))) _ _ s
 refine wpAny_bind (wpAny_mono (wpAny_comprehension_free (use:=some (assign (.Name y py) X.env)) (Q:=fun _ s'=>SP X pins D .next s') rfl hs hcl0 S.kind S.names
  (thn (hi pins s σ H _ I h) fun v s1 h1=>thn h1 fun itv s2 h2=>?_)) (fun _ s' hq=>wpAny_pure (wpAny_pure hq)) fun _ _ e=>e)
 obtain⟨it,fp,tnn,J,H2,e,I2,T,st2,f2,W,⟨m0,w0⟩,turn⟩:=h2
 subst e
 refine z293 (RR:=fun acc C=>compPost (model X.prog X.w) X.A X.xe (some (assign (.Name y py) X.env)) (fun _ s'=>SP X pins D .next s') acc C) S hc hcl hcl2 (hg cl) (ht cl) (he cl) I2 T st2 f2 turn w0 ?_
 intro p C s' H' ys m hD f I' fC hn
 show wpAny _ X.A (assign (.Name y py) X.env (.ref p)) _ _ _
 refine wpAny_assign_Name (store_ok2 (v:=.ref p) I' hN hy (.inl hl) rfl (fun s4 I4 ⟨a,hs4,ha⟩=>?_) (.inr hl))
 have hCa:C≠a:=by
  rcases ha with ha | ha
  ·rw [ha];exact fC.2.1
  ·exact fun z=>fC.2.2.2.2.1 y a ha z.symm
 refine⟨m,hn.sameBut hs4 hCa,fun h' hs'=>?_⟩
 have I'':=I4.turned (t':=s4.toks) (h':=h') (it:=C) (fun b o hb e=>hs'.extBut b o hb e) fC.1 fC.2.1 fC.2.2.2.1 fC.2.2.2.2.1 fC.2.2.2.2.2
 exact⟨_,_,I'',f p hD⟩
end
structure SrcIs (J:It) (H:Hp) (xs:List V):Prop where
 go:∀ i,i < xs.length→J.go i H
 yld:∀ i x H',i < xs.length→J.yld i H x H'→H'=H∧xs[i]?=some x
 stop:J.stop xs.length H
theorem src_list {K:PySem.W.Frag}{H:Hp}{a:Addr}{xs:List V}(h:SqL K H a xs):SrcIs (Itl K a) H xs:=
 ⟨fun i hi=>⟨xs,xs[i],h,by simp [hi]⟩,fun i x H' _ y=>⟨y.1,y.2 xs h⟩,⟨xs,h,Nat.le_refl _⟩⟩
theorem src_range {H:Hp}{lo:Int}{n:Nat}:SrcIs (Itr lo n) H ((List.range n).map fun i=>V.int (lo + (i:Nat))):=
 ⟨fun i hi=>(show i < n by simpa using hi),fun i x H' hi y=>⟨y.1,by
  have hi':i < n:=by simpa using hi
  have e:x=.int (lo + (i:Nat)):=y.2
  rw [e,List.getElem?_map,List.getElem?_range hi'];rfl⟩,by show n≤_;simp⟩
theorem z294 {x:V}{cs:St}:((some x::cs:St).length=(none::cs:St).length)∧∀ (j:Nat) (v:V),(none::cs:St)[j]?=some (some v)→(some x::cs:St)[j]?=some (some v):=by
 refine⟨by simp,fun j v h=>?_⟩
 cases j with
 | zero=>simp at h
 | succ j=>simpa using h
theorem z123 {J:It}{H:Hp}{xs:List V}{tt:TT}{te:TE}{cs:St}{F:List V→Hp→Prop}(S:SrcIs J H xs) (p:V→Bool) (f:V→V) (htt:∀ x∈xs,∀ Q:Bool→Hp→Prop,Q (p x) H→tt (some x::cs) H Q)
  (hte:∀ x∈xs,p x=true→∀ Q:VK,Q (f x) H→te (some x::cs) H Q) (hn:xs.length≤sizeLine) (hF:F ((xs.filter p).map f) H):
  ∃ W:Nat→Nat→List V→Hp→Prop,(∃ m,W 0 m [] H)∧CompW J (gName 0) tt te (none::cs) W F:=by
 refine⟨fun i m ys H'=>m=xs.length - i∧i≤xs.length∧H'=H∧ys=((xs.take i).filter p).map f,⟨xs.length,by simp,Nat.zero_le _,rfl,by simp⟩,?_⟩
 rintro i m ys H' ⟨rfl,hi,rfl,rfl⟩
 have hlen:(((xs.take i).filter p).map f).length≤sizeLine:=by
  rw [List.length_map]
  refine Nat.le_trans (List.length_filter_le _ _) ?_
  rw [List.length_take]
  omega
 by_cases hlt:i < xs.length
 ·refine .inr ⟨S.go i hlt,fun ys' H''=>H''=H'∧ys'=((xs.take (i + 1)).filter p).map f,fun ys' H'' h=>⟨xs.length - (i + 1),by omega,rfl,hlt,h.1,h.2⟩,fun x H'' y=>?_⟩
  obtain⟨rfl,hx⟩:=S.yld i x H'' hlt y
  have hm:x∈xs:=List.mem_of_getElem? hx
  have htk:xs.take (i + 1)=xs.take i++[x]:=by
   rw [List.take_add_one,hx];rfl
  show _∧_
  refine⟨z294,?_⟩
  refine htt x hm _ ?_
  cases hp:p x with
  | true=>
   rw [if_pos rfl]
   refine hte x hm hp _ ⟨hlen,rfl,?_⟩
   rw [htk,List.filter_append,List.map_append]
   simp [hp]
  | false=>
   rw [if_neg (by decide)]
   refine⟨rfl,?_⟩
   rw [htk,List.filter_append,List.map_append]
   simp [hp]
 ·have e:i=xs.length:=by omega
  subst e
  refine .inl ⟨S.stop,hlen,?_⟩
  rw [List.take_length]
  exact hF
theorem z625 {J:It}{H:Hp}{n:Nat}{x:Nat→V}{tt:TT}{te:TE}{cs:St}{F:List V→Hp→Prop}(Pv:Nat→List V→Hp→Prop) (h0:Pv 0 [] H)
  (hgo:∀ i ys H,i < n→Pv i ys H→J.go i H∧∀ y H',J.yld i H y H'→H'=H∧y=x i) (hstop:∀ ys H,Pv n ys H→J.stop n H)
  (hs:∀ i ys H,i < n→Pv i ys H→tt (some (x i)::cs) H fun b H3=>if b=true then te (some (x i)::cs) H3 fun y H4=>ys.length≤sizeLine∧Pv (i + 1) (ys++[y]) H4 else Pv (i + 1) ys H3)
  (hd:∀ ys H,Pv n ys H→ys.length≤sizeLine∧F ys H):
  ∃ W:Nat→Nat→List V→Hp→Prop,(∃ m,W 0 m [] H)∧CompW J (gName 0) tt te (none::cs) W F:=by
 refine⟨fun i m ys H=>m=n - i∧i≤n∧Pv i ys H,⟨n,by simp,Nat.zero_le _,h0⟩,?_⟩
 rintro i m ys H ⟨rfl,hi,p⟩
 by_cases hlt:i < n
 ·obtain⟨g1,g2⟩:=hgo i ys H hlt p
  refine .inr ⟨g1,Pv (i + 1),fun ys' H' h=>⟨n - (i + 1),by omega,rfl,hlt,h⟩,fun y H' yl=>?_⟩
  obtain⟨rfl,rfl⟩:=g2 y H' yl
  exact⟨z294,hs i ys _ hlt p⟩
 ·have e:i=n:=by omega
  subst e
  obtain⟨h1,h2⟩:=hd ys H p
  exact .inl ⟨hstop ys H p,h1,h2⟩
theorem cxK {CX:CXT}{P:Program}{w:World}{K:PySem.W.Frag}{mg:Str→Option Value}{base:Heap}{N:List Str}{qual:Str}{scope:Scope}{f:Addr}{cd:Value}{A:Around}{outer:List Env}{s:Shared}{H:Hp}{E:XK}:(cxOf CX P w K mg base N qual scope f cd A outer s H E).K=K:=rfl
theorem cxA {CX:CXT}{P:Program}{w:World}{K:PySem.W.Frag}{mg:Str→Option Value}{base:Heap}{N:List Str}{qual:Str}{scope:Scope}{f:Addr}{cd:Value}{A:Around}{outer:List Env}{s:Shared}{H:Hp}{E:XK}:(cxOf CX P w K mg base N qual scope f cd A outer s H E).A=A.deeper (envOfC qual scope s.heap.objs.size f cd):=rfl
theorem cxKc {X:Cx}{scope:Scope}{cl:List (Str × Addr)}{N:List Str}{C:Addr}{ex:List Addr}{s₀:Shared}{H₀:Hp}:(cxComp X scope cl N C ex s₀ H₀).K=X.K:=rfl
theorem cxAc {X:Cx}{scope:Scope}{cl:List (Str × Addr)}{N:List Str}{C:Addr}{ex:List Addr}{s₀:Shared}{H₀:Hp}:(cxComp X scope cl N C ex s₀ H₀).A=X.A:=rfl
end L2
set_option Elab.async false
set_option linter.all false
set_option maxRecDepth 100000
namespace L2
open PySem PySem.Spec PyProof.Rows
def chr1 (c:Nat):V:=.str ⟨#[c]⟩
def Its (x:Str):It:=⟨fun i _=>i < x.cps.size,fun i H v H'=>H'=H∧∃ c,x.cps[i]?=some c∧v=chr1 c,fun i _=>x.cps.size≤i⟩
theorem z583 {P:Program}{w:World}{K:PySem.W.Frag}{tg:Expr}(it:Addr) (x:Str) (t:Tok){ty:String}(hty:ty="str_ascii_iterator"∨ty="str_iterator"):Turn P w K tg (Its x) [it] it (fun i h=>h.IsStrIter it ty x t i) where
 mem:=by simp
 obj:=fun i h st b hb=>by
  have e:b=it:=by simpa using hb
  subst e
  obtain⟨o,e,c,d⟩:=st
  exact⟨o,e,fun v z=>by rw [d] at z;cases z⟩
 keep:=fun i h h' st k=>let ⟨o,e,r⟩:=st;⟨o,k it (by simp) o e,r⟩
 item:=by
  intro X hP hw hK hc i pins s σ H E I hf st hg
  subst hP hw hK
  have hi:i < x.cps.size:=hg
  obtain⟨f0,f1,f2,f3,f4,f5⟩:=hf it (by simp)
  have hx:x.cps[i]?=some x.cps[i]:=by simp [hi]
  have fin:∀ h',h'.IsStrIter it ty x t (i + 1)→Heap.SameBut it s.heap h'→∃ u,some (Value.str ⟨#[x.cps[i]]⟩ s.toks)=some u∧
    wpAny (model X.prog X.w) X.A (letOwnedTupleGo tg (.ref it) u) (fun _ s2=>∃ y H',Inv X pins σ H' s2∧RelV y u∧(Its x).yld i H y H'∧s2.heap.IsStrIter it ty x t (i + 1)∧∀ b∈[it],H' b=none) E { s with heap:=h',toks:=s.toks + 1 }:=fun h' st' sb=>by
   have I1:Inv X pins σ H { s with heap:=h',toks:=s.toks + 1 }:=I.turned (fun b o hb e=>(sb.2 b hb).trans e) f0 f1 f3 f4 f5
   obtain⟨o,e,c,d⟩:=id st'
   refine⟨_,rfl,go_of (s:={ s with heap:=h',toks:=s.toks + 1 }) e c d ?_ ⟨chr1 x.cps[i],H,I1,⟨_,rfl⟩,⟨rfl,_,hx,rfl⟩,st',fun b hb=>(hf b hb).1⟩⟩
   rcases hty with z | z <;> (subst z;decide)
  rcases hty with z | z
  ·subst z;exact wpAny_pyNext_ascii_item st hx fin
  ·subst z;exact wpAny_pyNext_wide_item st hx fin
 done:=by
  intro X hP hw hK hc i pins s σ H E I hf st hg
  subst hP hw hK
  have hi:x.cps.size≤i:=hg
  obtain⟨f0,f1,f2,f3,f4,f5⟩:=hf it (by simp)
  have hx:x.cps[i]?=none:=by simp [hi]
  have fin:∀ h',Heap.ExtBut it s.heap h'→(none:Option Value)=none∧Inv X pins σ H { s with heap:=h' }:=fun h' eb=>⟨rfl,I.turned (t':=s.toks) (fun b o hb e=>eb b o hb e) f0 f1 f3 f4 f5⟩
  rcases hty with z | z
  ·subst z;exact z347 (.inl rfl) (I.calm hc) st hx fin
  ·subst z;exact z347 (.inr rfl) (I.calm hc) st hx fin
 self:=fun _ _ _ _ _ st h=>by
  rcases hty with z | z
  ·subst z;exact wpAny_pyIter_striter_ascii st h
  ·subst z;exact wpAny_pyIter_striter_wide st h
def iStr (tl:TE):TI:=fun σ H R=>tl σ H fun v H1=>∃ x,v=.str x∧R (Its x) H1
theorem pi_str {X:Cx}{tg l:Expr}{tl:TE}(hl:PE X l tl):PI X tg l (iStr tl):=by
 intro pins s σ H R I h
 refine thn (hl pins s σ H _ I h) fun v s1 ⟨y,H1,I1,r1,q1⟩=>?_
 obtain⟨x,e,q⟩:=q1
 subst e
 obtain⟨t,rfl⟩:=r1
 have fin:∀ ty,(ty="str_ascii_iterator"∨ty="str_iterator")→PIE X pins σ tg R (.ref s1.heap.objs.size) { s1 with heap:=s1.heap.push { cls:=.type ty,data:=.fields #[.str x t,.int 0 0] } }:=fun ty hty=>by
  refine⟨s1.heap.objs.size,[s1.heap.objs.size],_,_,H1,rfl,I1.kept (t':=s1.toks) fun b o e=>Heap.get?_push_of_some _ e,z583 _ x t hty,⟨_,Heap.get?_push_size _ rfl,rfl,rfl⟩,fun b hb=>?_,q⟩
  have e:b=s1.heap.objs.size:=by simpa using hb
  subst e
  exact I1.fpOk (Nat.le_refl _) (I1.hok.fresh (Nat.le_refl _))
 cases ha:x.cps.all (· < 128)
 ·exact wpAny_pyIter_wide ha (fin _ (.inr rfl))
 ·exact wpAny_pyIter_ascii ha (fin _ (.inl rfl))
theorem z536 {H:Hp}{x:Str}:SrcIs (Its x) H (x.cps.toList.map chr1):=
 ⟨fun i hi=>(show i < x.cps.size by simpa using hi),fun i v H' hi y=>⟨y.1,by
  obtain⟨c,e1,e2⟩:=y.2
  rw [e2,List.getElem?_map,Array.getElem?_toList,e1];rfl⟩,by show x.cps.size≤_;simp⟩
section
variable {X:Cx}
theorem z325:OpR X (compareOp .In) (fun x y H Q=>∃ c j,x=chr1 c∧y=.str j∧Q (.bl (decide (c∈j.cps.toList))) H):=by
 intro pins s σ H x y v u Q I rx ry h
 obtain⟨c,j,rfl,rfl,q⟩:=h
 refine op_in_str pins s σ H _ _ v u Q I rx ry ⟨_,j,rfl,rfl,?_⟩
 rw [PySem.StrLaws.found_one]
 exact q
theorem all_range (bs:List Bool):(List.range bs.length).all (fun i=>bs.getD i false)=bs.all id:=by
 rw [Bool.eq_iff_iff,List.all_eq_true,List.all_eq_true]
 constructor
 ·intro h b hb
  obtain⟨i,hi,e⟩:=List.mem_iff_getElem.mp hb
  have q:=h i (List.mem_range.mpr hi)
  simpa [List.getD,hi,e] using q
 ·intro h i hi
  have hi':=List.mem_range.mp hi
  have q:=h bs[i] (List.getElem_mem hi')
  simpa [List.getD,hi'] using q
theorem z169:CallR X (.builtin "all") (fun xs H Q=>∃ (a:Addr) (bs:List Bool),xs=[.ref a]∧X.A.handled=none∧SqL X.K H a (bs.map V.bl)∧Q (.bl (bs.all id)) H):=by
 intro pins s σ H xs us Q I r h
 obtain⟨a,bs,rfl,hh,hq,q⟩:=h
 obtain⟨u,rfl,ru⟩:=vals1 r
 cases ru
 obtain⟨its,rv,p,hz⟩:=I.list hq
 have hl:=rv.length
 rw [List.length_map] at hl
 obtain⟨o,ho,_⟩:=id p.isList
 have hlt:=Heap.lt_size ho
 refine call_all_walk (wpAny_pyIter_list p.isList ?_)
 refine⟨s.heap.objs.size,_,_,_,_,_,fun i=>bs.getD i false,rfl,Walks.list (A:=X.A.in1) hh s.heap.objs.size a (Nat.ne_of_lt hlt) its.toArray,⟨⟨_,Heap.get?_push_size _ rfl,rfl,rfl⟩,p.isList.at fun o e=>Heap.get?_push_of_some _ e⟩,?_,fun h' tk hk=>?_⟩
 ·intro i v s' Q' E' hv hQ
  have hv:its.toArray[i]?=some v:=hv
  have hi:its[i]?=some v:=by simpa using hv
  have hib:i < bs.length:=by rw [hl];exact(List.getElem?_eq_some_iff.mp hi).1
  obtain⟨u,hu,ru⟩:=rv.get (i:=i) (x:=V.bl bs[i]) (by simp [hib])
  rw [hi] at hu
  cases hu
  cases ru
  refine wpAny_truthy_bool ?_
  have e:bs.getD i false=bs[i]:=by simp [List.getD,hib]
  rw [← e]
  exact hQ
 ·rw [List.size_toArray,← hl,all_range]
  refine⟨.bl (bs.all id),H,I.kept fun b o e=>?_,rfl,q⟩
  exact hk b o (fun z=>Nat.lt_irrefl _ (by have:=Heap.lt_size e;rw [List.mem_singleton.mp z] at this;exact this)) (Heap.get?_push_of_some _ e)
end
theorem z186 (x y:Str):(x++y).cps.toList=x.cps.toList++y.cps.toList:=by
 show (x.cps++y.cps).toList=_
 simp
theorem z339 {x y:Str}(h:x.cps.toList=y.cps.toList):x=y:=by
 obtain⟨a⟩:=x
 obtain⟨b⟩:=y
 congr 1
 exact Array.toList_inj.mp h
theorem z197 (x:Str):x.cps.toList.length=x.length:=by simp [Str.length]
end L2
set_option Elab.async false
set_option linter.all false
set_option maxRecDepth 100000
namespace L2
open PySem PySem.Spec PyProof.Rows
mutual
inductive Den (K:PySem.W.Frag) (H:Hp):V→PyData→Prop
 | non:Den K H .non .none
 | bl (b:Bool):Den K H (.bl b) (.bool b)
 | int (i:Int):Den K H (.int i) (.int i)
 | str (x:Str):Den K H (.str x) (.str x)
 | lst {a:Addr}{xs:List V}{ds:List PyData}:SqL K H a xs→DenAll K H xs ds→Den K H (.ref a) (.list ds)
 | tup {a:Addr}{xs:List V}{ds:List PyData}:SqT K H a xs→DenAll K H xs ds→Den K H (.ref a) (.tuple ds)
inductive DenAll (K:PySem.W.Frag) (H:Hp):List V→List PyData→Prop
 | nil:DenAll K H [] []
 | cons {x:V}{xs:List V}{d:PyData}{ds:List PyData}:Den K H x d→DenAll K H xs ds→DenAll K H (x::xs) (d::ds)
end
section
variable {X:Cx}{pins:List (Addr × Obj)}{σ:St}{H:Hp}{s:Shared}
mutual
theorem Den.reads (I:Inv X pins σ H s):∀ {x:V}{d:PyData}{u:Value},Den X.K H x d→RelV x u→∃ as,Reads s.heap u d as
 | _,_,_,.non,r=>by cases r;exact⟨_,Reads.none⟩
 | _,_,_,.bl b,r=>by cases r;exact⟨_,Reads.bool b⟩
 | _,_,_,.int i,r=>by obtain⟨t,rfl⟩:=r;exact⟨_,Reads.int i t⟩
 | _,_,_,.str x,r=>by obtain⟨t,rfl⟩:=r;exact⟨_,Reads.str x t⟩
 | _,_,_,.lst h hs,r=>by
  cases r
  obtain⟨its,rv,p,hz⟩:=I.list h
  obtain⟨as,q⟩:=DenAll.reads I hs rv
  obtain⟨o,ho,hc,n,hd⟩:=p.isList
  exact⟨_,reads_list_at ho hc hd (by simpa using q)⟩
 | _,_,_,.tup h hs,r=>by
  cases r
  obtain⟨its,rv,p,hz⟩:=I.tuple h
  obtain⟨as,q⟩:=DenAll.reads I hs rv
  obtain⟨o,ho,hc,n,hd⟩:=(show s.heap.IsTuple _ _ from p)
  exact⟨_,reads_tuple_at ho hc hd (by simpa using q)⟩
theorem DenAll.reads (I:Inv X pins σ H s):∀ {xs:List V}{ds:List PyData}{us:List Value},DenAll X.K H xs ds→Vals xs us→∃ as,ReadsAll s.heap us ds as
 | _,_,_,.nil,r=>by cases r;exact⟨_,ReadsAll.nil⟩
 | _,_,_,.cons h hs,r=>by
  cases r with
  | cons r rr=>
   obtain⟨as,q⟩:=Den.reads I h r
   obtain⟨bs,p⟩:=DenAll.reads I hs rr
   exact⟨_,ReadsAll.cons q p⟩
end
def rEqD (K:PySem.W.Frag) (neg:Bool):R2:=fun x y H Q=>∃ d e,Den K H x d∧Den K H y e∧SeqAt.shaped d=true∧SeqAt.shaped e=true∧Q (.bl (if neg then !PyData.eqv d e else PyData.eqv d e)) H
theorem op_neD (hu:X.A.units + 64 < cLine):OpR X (compareOp .NotEq) (rEqD X.K true):=by
 intro pins s σ H x y v u Q I rx ry h
 obtain⟨d,e,hd,he,sd,se,q⟩:=h
 obtain⟨as,ra⟩:=hd.reads I rx
 obtain⟨bs,rb⟩:=he.reads I ry
 exact ne_dataH ra rb sd se hu (fin_bl I q rfl)
end
section
variable {X:Cx}
theorem z59:CallR X (.builtin "isinstance") (fun xs H Q=>∃ x n t b,xs=[x,.ty n]∧TyOf X.K H x t∧PySem.W.kitOne X.K t (.type n)=some b∧Q (.bl b) H):=by
 intro pins s σ H xs us Q I r h
 obtain⟨x,n,t,b,rfl,ty,e,q⟩:=h
 obtain⟨u,v,rfl,ru,rv⟩:=vals2 r
 cases rv
 exact isinst_ok I ru ty e fun tk=>⟨.bl b,H,I.tok _,rfl,q⟩
end
end L2
set_option Elab.async false
set_option linter.all false
set_option maxRecDepth 100000
namespace L2
open PySem PySem.Spec PyProof.Rows
namespace RevF
end RevF
section
variable {X:Cx}
end
end L2
set_option Elab.async false
set_option linter.all false
set_option maxRecDepth 100000
namespace L2
open PySem PySem.Spec PyProof.Rows
section
variable {X:Cx}
end
end L2
set_option Elab.async false
set_option linter.all false
set_option maxRecDepth 100000
namespace L2
open PySem PySem.Spec PyProof.Rows
theorem vis_of {X:Cx}{sc:Scope}{x:Str}(h:Vis sc x) (e:X.env.scope=sc:=by rfl):Vis X.env.scope x:=e ▸ h
theorem gl_of {X:Cx}{sc:Scope}{x:Str}(h:sc.names.lookup x=some .globalImplicit) (e:X.env.scope=sc:=by rfl):Gl X x:=by
 show X.env.scope.names.lookup x=_
 rw [e]
 exact h
theorem loc_of {X:Cx}{sc:Scope}{x:Str}(h:sc.names.lookup x=some .local∨sc.names.lookup x=some .cell) (e:X.env.scope=sc:=by rfl):Loc X.env.scope x:=e ▸ h
def plainE:Expr→Bool
 | .Starred _ _=>false
 | _=>true
def plainAll:List Expr→Bool
 | []=>true
 | e::r=>plainE e && plainAll r
theorem stp {e:Expr}{es:List Expr}{env:Env}(h:plainE e=true):starEach (e::es) env=(false,eval e env)::starEach es env:=by
 cases e <;> first | rfl | cases h
theorem st1 {e:Expr}{env:Env}(h:plainE e=true):starEach [e] env=[(false,eval e env)]:=by
 rw [stp h];rfl
theorem st2 {e d:Expr}{env:Env}(h:plainE e=true) (h2:plainE d=true):starEach [e,d] env=[(false,eval e env),(false,eval d env)]:=by
 rw [stp h,st1 h2]
theorem anp {env:Env}{pos:Pos}:∀ {es:List Expr},plainAll es=true→(backTo pos (starEach es env)).any (·.1)=false
 | [],_=>rfl
 | e::r,h=>by
  have h':(plainE e && plainAll r)=true:=h
  rw [Bool.and_eq_true] at h'
  rw [stp h'.1]
  show (false || (backTo pos (starEach r env)).any (·.1))=false
  rw [anp h'.2]
  rfl
end L2
set_option Elab.async false
set_option linter.all false
set_option maxRecDepth 100000
namespace HT
open PySem PyProof.Rows
section
variable {prog:Program}{w:World}{A:Around}{E:Value→Shared→Prop}{s:Shared}
end
end HT
namespace L2
open PySem PySem.Spec PyProof.Rows
section
variable {X:Cx}
theorem z345:OpR X (binaryOp .Mult) (rI IntMulOk fun i j=>.int (i * j)):=opI fun _ _ _ _ _ _ _ hc q=>mul_int q hc
end
def Bits (i:Int):Prop:=Builtin.Int.intBits i≤2 ^ 20
theorem z523:Bits 0:=by unfold Bits;decide +kernel
theorem z288:∀ {ns:List Int}{m:Nat},PySem.W.WData.weightAll (ns.map PySem.W.WData.int)≤m→∀ i∈ns,Builtin.Int.intBits i≤m
 | [],_,_,i,h=>absurd h (by simp)
 | n::r,m,hw,i,h=>by
  have hw:Builtin.Int.intBits n + 1 + PySem.W.WData.weightAll (r.map PySem.W.WData.int)≤m:=hw
  rcases List.mem_cons.mp h with e | e
  ·rw [e];omega
  ·exact z288 (by omega) i e
theorem z318 {l:PySem.W.OpenLaw}{n:Nat}{q:Program}{loose:List Str}{XP:(Str→Option Value)→Heap→Prop}{YP:World→Heap→Prop}{d:DefRec}
  (hn:l.most=some n) (hdf:d.params.defaults=[])
  (call:∀ (w:World) (s₀ s₁:Shared) (mg mb:Str→Option Value) (fa:Addr) (o:Obj) (pm cd doc:Value) (a:Addr) (vs:List Value) (ns:List Int),
   PySem.W.Ground q loose [] XP w s₀ mg mb s₁.heap→YP w s₁.heap→
   s₁.heap.get? fa=some o→o.data=.func (Calls.docDef d.name d.params d.body d.scope pm cd doc)→s₁.heap.CodeRec cd d.name→mg d.name=some (.ref fa)→
   s₁.heap.get? a=some { cls:=.type "list",data:=.seq vs.toArray }→IntsAre vs ns→ns.length≤n→(∀ i∈ns,Bits i)→s₁.gens=#[]→
   codeAny (model l.prog w) callerA (.call (.ref fa) ⟨[.ref a],[]⟩) (fun r s'=>r=.ok (.ret (.bool true))∧OldK s₁.heap s'.heap∧s'.os=s₁.os∧AllBare s'.gens) s₁):
  PySem.W.WalkO q loose XP YP l.row.toRowW d [] (fun f vs=>PySem.call f vs):=by
 intro w s₀ s₁ mg mb G Y fa o pm cd doc dV kV ho hd hcd hD hmg hg args vals as hpre hlay hrd hwl hlo
 obtain rfl:dV=.none:=PySem.W.Dflts.none hD hdf
 obtain rfl:kV=.none:=PySem.W.Dflts.noKw hD
 obtain⟨a,vs,ns,rfl,rfl,hobj,hints,hlen⟩:=Att.script_of hn hpre hwl
 have hb:∀ i∈ns,Bits i:=by
  have h1:(PySem.W.WData.layable (.list (ns.map PySem.W.WData.int)) && true)=true:=hlay
  rw [Bool.and_true] at h1
  have h2:(PySem.W.WData.canLay (.list (ns.map PySem.W.WData.int)) && decide (PySem.W.WData.depth (.list (ns.map PySem.W.WData.int))≤64) && decide (PySem.W.WData.weight (.list (ns.map PySem.W.WData.int))≤2 ^ 20))=true:=h1
  rw [Bool.and_eq_true] at h2
  exact z288 (of_decide_eq_true h2.2)
 refine PySem.W.enter_call (codeAny_mono (call w s₀ s₁ mg mb fa o pm cd doc a vs ns G Y ho (PySem.W.fd_plain hd) hcd hmg hobj hints hlen hb hg) fun r s' hq=>?_)
 obtain⟨rfl,h2,h3,h4⟩:=hq
 exact⟨.inl ⟨.bool true,.bool true,[],rfl,fun _=>rfl,.bool true,Att.post_true l _,fun _=>⟨List.Pairwise.nil,fun _ hm=>(nomatch hm)⟩⟩,h2,h3,h4⟩
theorem z593 {l:PySem.W.OpenLaw}{n k:Nat}{q:Program}{loose:List Str}{XP:(Str→Option Value)→Heap→Prop}{YP:World→Heap→Prop}{d:DefRec}{K:Params→PySem.W.Frag}{CX:World→CXT}{sp:World→Sp}{x:Str}
  (hn:l.most=some n) (hn2:n≤sizeLine) (hdf:d.params.defaults=[]) (hr:Room k callerA)
  (hY:∀ (w:World) (h:Heap),YP w h→(K w.params).In h)
  (F:∀ (w:World) (mg:Str→Option Value) (fa:Addr) (h:Heap),(K w.params).In h→h.Ns mainGlobals mg→mg d.name=some (.ref fa)→
   ∃ fd:FuncData,(∀ (s:Shared) (u:Value),BindsTo s fd ⟨[u],[]⟩ [(x,u)])∧
    ∀ base:Heap,(K w.params).In base→base.Ns mainGlobals mg→FnOk l.prog w (K w.params) mg base (CX w) k fa fd [x] (sp w))
  (hsp:∀ (w:World) (H:Hp) (a:Addr) (ns:List Int),ns.length≤n→(∀ i∈ns,Bits i)→Only H→SqL (K w.params) H a (ns.map V.int)→sp w [.ref a] H (fun v _=>v=.bl true) fun _ _ _=>False)
  (hCX:∀ (w:World) (H:Hp) (s:Shared) (e:Value) (s':Shared),CX w [] H s (fun _ _ _=>False) e s'→False):
  PySem.W.WalkO q loose XP YP l.row.toRowW d [] (fun f vs=>PySem.call f vs):=by
 refine z318 hn hdf fun w s₀ s₁ mg mb fa o pm cd doc a vs ns G Y ho hd hcd hmg hobj hints hlen hbits hg=>?_
 have KX:=hY w _ Y
 obtain⟨fd,hb,hF⟩:=F w mg fa _ KX G.T.g hmg
 exact law_call KX G.T.g G.T.b G.T.builtins G.T.nolimit hg hobj hints (Nat.le_trans hlen hn2) hr hF hb (fun H hO hS=>hsp w H a ns hlen hbits hO hS) fun H e s'=>hCX w H s₁ e s'
end L2
set_option Elab.async false
set_option linter.all false
set_option maxRecDepth 100000
namespace L2
open PySem PySem.Spec PyProof.Rows
def ForJ (J:It) (g:TG) (tb:TS) (D:Ends) (σ:St) (H1:Hp):Prop:=∃ W:Nat→Nat→St→Hp→Prop,(∃ m,W 0 m σ H1)∧∀ i m σ H,W i m σ H→
 (J.stop i H∧D.nx σ H)∨(J.go i H∧∃ N:St→Hp→Prop,(∀ σ' H',N σ' H'→∃ m',m' < m∧W (i + 1) m' σ' H')∧∀ x H',J.yld i H x H'→g x σ H' fun σ2 H2=>tb { D with nx:=N,ct:=N,bk:=D.nx } σ2 H2)
theorem z627 {wi:TI}{g:TG}{tb:TS}{D:Ends}{σ:St}{H:Hp}:tFor wi g tb D σ H=wi σ H fun J H1=>ForJ J g tb D σ H1:=rfl
theorem zz0 {H:Hp}{p:Addr}{o:HO}(h:H p=none):Same H (upd H p o):=fun b u e=>by rw [upd_ne (ne_of_none e h)];exact e
theorem z52 {H H1:Hp}{p:Addr}{o:HO}(h:Same H H1) (hp:H p=none):Same H (upd H1 p o):=fun b u e=>by rw [upd_ne (ne_of_none e hp)];exact h b u e
theorem z442 {cs:List Int}{i:Int}(h0:0≤i) (h1:i < cs.length):atI (cs.map V.int) i=some (V.int (cs.getD i.toNat 0)):=by
 obtain⟨j,rfl⟩:=Int.eq_ofNat_of_zero_le h0
 have hj:j < cs.length:=by omega
 refine atI_nat ?_
 simp [hj]
theorem getD_in {cs:List Int}{j:Nat}(h:j < cs.length):cs.getD j 0∈cs:=by
 simp [List.getD,h]
theorem sIx_in {n d:Nat}{i:Int}(h0:0≤i) (h1:i≤n):HT.sIx n d (some i)=i.toNat:=by
 show (if i < 0 then(i + (n:Int)).toNat else min i.toNat n)=_
 rw [if_neg (by omega)]
 omega
theorem z631 {n d:Nat}{i:Int}(h0:(n:Int)≤i):HT.sIx n d (some i)=n:=by
 show (if i < 0 then(i + (n:Int)).toNat else min i.toNat n)=_
 rw [if_neg (by omega)]
 omega
theorem z573 {cs:List Int}{i:Int}(h0:0≤i):cutV (cs.map V.int) (some i) none=(cs.drop i.toNat).map V.int:=by
 unfold cutV
 rw [HT.sIx_none,List.length_map]
 by_cases h1:i≤cs.length
 ·rw [sIx_in h0 h1,← List.map_drop]
  refine List.take_of_length_le ?_
  rw [List.length_map,List.length_drop]
  exact Nat.le_refl _
 ·rw [z631 (by omega),← List.map_drop,List.drop_of_length_le (Nat.le_refl _),List.drop_of_length_le (by omega)]
  simp
mutual
theorem z452:∀ d:PyData,d.canLay0=true→PyData.eqv d d=true
 | .none,_=>rfl
 | .bool b,_=>by simp [PyData.eqv]
 | .int i,_=>by simp [PyData.eqv]
 | .str x,_=>by simp [PyData.eqv]
 | .list xs,h=>by
  have h':PyData.canLayAll0 xs=true:=h
  show PyData.eqvAll xs xs=true
  exact z166 xs h'
 | .tuple xs,h=>by
  have h':PyData.canLayAll0 xs=true:=h
  show PyData.eqvAll xs xs=true
  exact z166 xs h'
 | .dict _,h=>by cases h
theorem z166:∀ ds:List PyData,PyData.canLayAll0 ds=true→PyData.eqvAll ds ds=true
 | [],_=>rfl
 | d::r,h=>by
  have h':(PyData.canLay0 d && PyData.canLayAll0 r)=true:=h
  rw [Bool.and_eq_true] at h'
  show (PyData.eqv d d && PyData.eqvAll r r)=true
  rw [z452 d h'.1,z166 r h'.2]
  rfl
end
end L2
set_option Elab.async false
set_option linter.all false
set_option maxRecDepth 100000
namespace HT
open PySem PyProof.Rows
section
variable {prog:Program}{w:World}{A:Around}{E:Value→Shared→Prop}{s:Shared}
end
end HT
namespace L2
open PySem PySem.Spec PyProof.Rows
section
variable {X:Cx}{pos:Pos}
end
end L2
set_option Elab.async false
set_option linter.all false
set_option maxRecDepth 100000
namespace L2
open PySem PySem.Spec PyProof.Rows
theorem z440:∀ {ys:List Str}{us:List Value},Vals (ys.map V.str) us→StrsAre us ys:=by
 intro ys
 induction ys with
 | nil=>intro us r;rw [List.map_nil] at r;cases r;exact .nil
 | cons n ns ih=>
  intro us r
  rw [List.map_cons] at r
  cases r with
  | cons r1 r2=>
   obtain⟨t,e⟩:=r1
   subst e
   exact .cons n t (ih r2)
section
variable {X:Cx}
def rJoin (K:PySem.W.Frag):V→List V→Hp→VK→Prop:=fun x vs H Q=>∃ (sep:Str) (a:Addr) (ys:List Str),x=.str sep∧vs=[.ref a]∧SqL K H a (ys.map V.str)∧(ys.map (·.length)).sum + ys.length * sep.length≤16777216∧Q (.str (Txt.join sep ys)) H
theorem z407:MtR X "str.join" (rJoin X.K):=by
 intro pins s σ H x vs v us Q I rx rv h
 obtain⟨sep,a,ys,rfl,rfl,hq,hok,q⟩:=h
 obtain⟨t,rfl⟩:=rx
 obtain⟨u,rfl,ru⟩:=rv.one
 cases ru
 obtain⟨its,r,pl,hz⟩:=I.list hq
 exact join_list pl.isList (z440 (by simpa using r)) hok fun t' k=>⟨.str (Txt.join sep ys),H,I.tok _,⟨t',rfl⟩,q⟩
end
end L2
set_option Elab.async false
set_option linter.all false
set_option maxRecDepth 100000
namespace L2
open PySem PySem.Spec PyProof.Rows
section
variable {X:Cx}{K:PySem.W.Frag}
theorem z651 {e:Expr}{f:Str}{pos:Pos}{ta:TE}(hK:X.K=K) (he:PE X e ta) (hb:attributeBase e f X.env (eval e X.env)=eval e X.env):PE X (.Attribute e f pos) (tFld K ta f):=by
 subst hK
 exact pe_fld he hb
theorem z598 (hK:X.K=K):IxR X (rIxL K):=by subst hK;exact ix_list
theorem z654 (hK:X.K=K):IxR X (rIxT K):=by subst hK;exact ix_tup
theorem z301 (hK:X.K=K):CallR X (.builtin "len") (fun xs H Q=>∃ p ys,xs=[.ref p]∧(SqL K H p ys∨SqT K H p ys)∧Q (.int ys.length) H):=by subst hK;exact call_len_seq
end
theorem z494 {K:PySem.W.Frag}{a:Addr}{H:Hp}{xs:List V}{tt:TT}{te:TE}{cs:St}{F:List V→Hp→Prop}(Pv:Nat→List V→Hp→Prop) (h0:Pv 0 [] H) (hl:∀ i ys H,i≤xs.length→Pv i ys H→SqL K H a xs)
  (hs:∀ i x ys H,xs[i]?=some x→Pv i ys H→tt (some x::cs) H fun b H3=>if b=true then te (some x::cs) H3 fun y H4=>ys.length≤sizeLine∧Pv (i + 1) (ys++[y]) H4 else Pv (i + 1) ys H3)
  (hd:∀ ys H,Pv xs.length ys H→ys.length≤sizeLine∧F ys H):
  ∃ W:Nat→Nat→List V→Hp→Prop,(∃ m,W 0 m [] H)∧CompW (Itl K a) (gName 0) tt te (none::cs) W F:=by
 refine⟨fun i m ys H'=>m=xs.length - i∧i≤xs.length∧Pv i ys H',⟨xs.length,by simp,Nat.zero_le _,h0⟩,?_⟩
 rintro i m ys H' ⟨rfl,hi,p⟩
 have q:=hl i ys H' hi p
 have S:=src_list q
 by_cases hlt:i < xs.length
 ·refine .inr ⟨S.go i hlt,fun ys' H''=>Pv (i + 1) ys' H'',fun ys' H'' p'=>⟨xs.length - (i + 1),by omega,rfl,hlt,p'⟩,fun x H'' y=>?_⟩
  obtain⟨e1,e2⟩:=S.yld i x H'' hlt y
  subst e1
  refine⟨⟨rfl,fun j v hj=>?_⟩,?_⟩
  ·cases j with
   | zero=>cases hj
   | succ j=>exact hj
  ·exact hs i x ys H'' e2 p
 ·have e:i=xs.length:=by omega
  subst e
  exact .inl ⟨S.stop,hd ys H' p⟩
end L2
set_option Elab.async false
set_option linter.all false
set_option maxRecDepth 100000
namespace L2
open PySem PyProof.Rows PySem.Calls
def XAt (B:Heap) (e:Addr) (cls:Value) (dx:Option Addr) (fl:Value) (h:Heap):Prop:=
 ∃ (vs:Array Value) (sl:Array (Option Value)) (T:Addr) (oT:Obj) (ts:Array Value),h.get? e=some ⟨cls,dx,.fields vs,sl⟩∧vs[2]?=some Value.none∧vs[1]?=some (.ref T)∧B.get? T=none∧T≠e∧h.get? T=some oT∧oT.data=.fields ts∧ts[3]?=some fl
structure Fly (B:Heap) (l:List Env) (e:Addr) (cls:Value) (dx:Option Addr) (fl:Value) (h:Heap):Prop where
 st:B.StaysIn h
 new:B.get? e=none
 fr:h.FunFrames B l
 at_:XAt B e cls dx fl h
section
variable {M:Model}{A:Around}{E:Value→Shared→Prop}{s:Shared}{B:Heap}{env:Env}{outer l:List Env}{L e:Addr}{cls:Value}{dx:Option Addr}{Q:Unit→Shared→Prop}
theorem z292 {vs:Array Value}{sl:Array (Option Value)}{head:Value}{had:Bool}(hfr:A.frames=some (env::outer)) (hf:env.frame=some L) (st:B.StaysIn s.heap) (hn:B.get? e=none) (fr:s.heap.FunFrames B (env::outer))
  (he:s.heap.get? e=some ⟨cls,dx,.fields vs,sl⟩) (h2:vs[2]?=some Value.none) (k:∀ h',Fly B (env::outer) e cls dx (rawInt L) h'→s.heap.UpToSlots h'→Q () { s with heap:=h' }):
  wpAny M A (frameOf env >>= fun a=>entryPlaceOf L had >>= fun pl=>EntryCells.newEntry head a .none (rawInt L) .none pl >>= fun b=>setField (.ref e) 1 b) Q E s:=by
 have sz2:2 < vs.size:=(Array.getElem?_eq_some_iff.mp h2).1
 have nof:e ∉ (env::outer).filterMap (·.frame):=fun hm=>by
  obtain⟨_,o,ho,hnf⟩:=fr.mem hm
  rw [he] at ho
  cases ho
  exact hnf vs rfl
 refine wpAny_bind (wpAny_frameOf_fun hfr fr hf fun h₁ hs=>?_)
 refine wpAny_bind (wpAny_entryPlaceOf fun pl hpl=>?_)
 unfold EntryCells.newEntry newFields
 refine wpAny_bind (wpAny_newObj_type ?_ (hpl.sizeOk5 _ _ _ _ _))
 have e1:h₁.get? e=some ⟨cls,dx,.fields vs,sl⟩:=(hs.2.1 e nof).trans he
 have st1:B.StaysIn h₁:=fun b o q=>(hs.2.1 b fun hm=>by rw [(fr.mem hm).1] at q;cases q).trans (st b o q)
 refine wpAny_setField (Heap.get?_push_of_some _ e1) rfl (Nat.lt_trans (by decide) sz2) (k _ ?_ ?_)
 all_goals have ne:h₁.objs.size≠e:=Nat.ne_of_gt (Heap.lt_size e1)
 ·refine⟨fun b o q=>?_,hn,fr.of_keeps fun b o q nf=>?_,⟨vs.setIfInBounds 1 (.ref h₁.objs.size),sl,h₁.objs.size,_,_,?_,?_,?_,st1.fresh,ne,(Heap.get?_update_other _ _ (Ne.symm ne)).trans (Heap.get?_push_size h₁ rfl),rfl,?_⟩⟩
  ·rw [Heap.get?_update_other _ _ (fun z=>by rw [← z,hn] at q;cases q)]
   exact Heap.get?_push_of_some _ (st1 b o q)
  ·obtain⟨sl',hb⟩:=hs.2.2 b o q
   refine⟨{ o with slots:=sl' },?_,rfl⟩
   rw [Heap.get?_update_other _ _ (fun z=>by rw [← z,he] at q;cases q;exact nf vs rfl)]
   exact Heap.get?_push_of_some _ hb
  ·exact Heap.get?_update_self _ (Heap.get?_push_of_some _ e1) rfl
  ·rw [Array.getElem?_setIfInBounds_ne (by decide)]
   exact h2
  ·simp [Nat.lt_trans (show 1 < 2 by decide) sz2]
  ·first | (simp;done) | (rcases hpl with rfl | ⟨_,_,_,_,_,_,_,rfl⟩ <;> simp)
 ·intro b o q nf
  obtain⟨sl',hb⟩:=hs.2.2 b o q
  refine⟨sl',?_⟩
  rw [Heap.get?_update_other _ _ (fun z=>by rw [← z,he] at q;cases q;exact nf vs rfl)]
  exact Heap.get?_push_of_some _ hb
theorem z469 {vs:Array Value}{sl:Array (Option Value)} (hfr:A.frames=some (env::outer)) (hf:env.frame=some L) (st:B.StaysIn s.heap) (hn:B.get? e=none) (fr:s.heap.FunFrames B (env::outer))
  (he:s.heap.get? e=some ⟨cls,dx,.fields vs,sl⟩) (h2:vs[2]?=some Value.none) (h1:vs[1]?=some Value.none) (k:∀ h',Fly B (env::outer) e cls dx (rawInt L) h'→s.heap.UpToSlots h'→Q () { s with heap:=h' }):
  wpAny M A (noteFrame (.ref e) env) Q E s:=by
 unfold noteFrame
 simp only [hf]
 refine wpAny_bind (wpAny_field he rfl h1 ?_)
 rw [if_neg (by decide)]
 exact z292 hfr hf st hn fr he h2 k
theorem z363 (hfr:A.frames=some (env::outer)) (hf:env.frame=some L) (f:Fly B (env::outer) e cls dx .none s.heap) (k:∀ h',Fly B (env::outer) e cls dx (rawInt L) h'→s.heap.UpToSlots h'→Q () { s with heap:=h' }):
  wpAny M A (noteFrame (.ref e) env) Q E s:=by
 obtain⟨st,hn,fr,vs,sl,T,oT,ts,he,h2,h1,nT,ne,hT,dT,t3⟩:=f
 unfold noteFrame
 simp only [hf]
 refine wpAny_bind (wpAny_field he rfl h1 ?_)
 rw [if_pos (by simp)]
 refine wpAny_bind (wpAny_field hT dT t3 ?_)
 rw [if_neg (by simp [rawInt])]
 refine wpAny_bind (wpAny_setField hT dT (Array.getElem?_eq_some_iff.mp t3).1 ?_)
 have other:∀ b o,b≠T→s.heap.get? b=some o→(s.heap.update T (Obj.mapFields (·.setIfInBounds 3 Value.none))).get? b=some o:=fun b o hb z=>by
  rw [Heap.get?_update_other _ _ (Ne.symm hb)]
  exact z
 have noT:∀ b o,s.heap.get? b=some o→(∀ ws,o.data≠.fields ws)→b≠T:=fun b o q nf z=>by
  rw [z,hT] at q
  cases q
  exact nf ts dT
 refine z292 (s:={ s with heap:=_ }) hfr hf (fun b o q=>other b o (fun z=>by rw [z,nT] at q;cases q) (st b o q)) hn (fr.of_keeps fun b o q nf=>⟨o,other b o (noT b o q nf) q,rfl⟩) (other e _ (Ne.symm ne) he) h2 fun h' f' u=>k h' f' fun b o q nf=>?_
 exact u b o (other b o (noT b o q nf) q) nf
theorem land {fl:Value}(f:Fly B l e cls dx fl s.heap) (k:∀ h',Fly B l e cls dx .none h'→s.heap.UpToSlots h'→Q () { s with heap:=h' }):wpAny M A (setFlight (.ref e) none) Q E s:=by
 obtain⟨st,hn,fr,vs,sl,T,oT,ts,he,h2,h1,nT,ne,hT,dT,t3⟩:=f
 unfold setFlight
 refine wpAny_bind (wpAny_field he rfl h1 ?_)
 rw [if_pos (by simp)]
 have sz:=(Array.getElem?_eq_some_iff.mp t3).1
 have other:∀ b o,b≠T→s.heap.get? b=some o→(s.heap.update T (Obj.mapFields (·.setIfInBounds 3 Value.none))).get? b=some o:=fun b o hb z=>by
  rw [Heap.get?_update_other _ _ (Ne.symm hb)]
  exact z
 have noT:∀ b o,s.heap.get? b=some o→(∀ ws,o.data≠.fields ws)→b≠T:=fun b o q nf z=>by
  rw [z,hT] at q
  cases q
  exact nf ts dT
 refine wpAny_setField hT dT sz (k _ ⟨fun b o q=>other b o (fun z=>by rw [z,nT] at q;cases q) (st b o q),hn,fr.of_keeps fun b o q nf=>⟨o,other b o (noT b o q nf) q,rfl⟩,vs,sl,T,_,_,other e _ (Ne.symm ne) he,h2,h1,nT,ne,Heap.get?_update_self _ hT (Obj.isFreed_of_fields (Obj.data_mapFields dT _)),Obj.data_mapFields dT _,?_⟩ fun b o q nf=>⟨o.slots,other b o (noT b o q nf) q⟩)
 simp [sz]
theorem Fly.tail {fl:Value}{h:Heap}(f:Fly B (env::outer) e cls dx fl h):Fly B outer e cls dx fl h:=⟨f.st,f.new,f.fr.2.2,f.at_⟩
theorem z231 {vs:Array Value}{sl:Array (Option Value)} (hfr:A.frames=some (env::outer)) (hf:env.frame=some L) (st:B.StaysIn s.heap) (hn:B.get? e=none) (fr:s.heap.FunFrames B (env::outer))
  (he:s.heap.get? e=some ⟨cls,dx,.fields vs,sl⟩) (h2:vs[2]?=some Value.none) (h1:vs[1]?=some Value.none) (k:∀ h',Fly B outer e cls dx .none h'→s.heap.UpToSlots h'→Q () { s with heap:=h' }):
  wpAny M A (leaving env (.ref e)) Q E s:=by
 unfold leaving
 exact wpAny_bind (z469 hfr hf st hn fr he h2 h1 fun h' f u=>land f fun h2 f2 u2=>k h2 f2.tail (u.trans u2))
theorem z392 (hfr:A.frames=some (env::outer)) (hf:env.frame=some L) (f:Fly B (env::outer) e cls dx .none s.heap) (k:∀ h',Fly B outer e cls dx .none h'→s.heap.UpToSlots h'→Q () { s with heap:=h' }):
  wpAny M A (leaving env (.ref e)) Q E s:=by
 unfold leaving
 exact wpAny_bind (z363 hfr hf f fun h' f u=>land f fun h2 f2 u2=>k h2 f2.tail (u.trans u2))
end
end L2
set_option Elab.async false
set_option linter.all false
set_option maxRecDepth 100000
namespace L2
open PySem PySem.Spec PyProof.Rows
theorem ObjOk.some {P:Program}{w:World}{H:Hp}{h:Heap}{a:Addr}{o:HO}(x:ObjOk P w H h a o):∃ u,h.get? a=some u:=by
 cases o with
 | lst xs=>obtain⟨_,_,_,_,e⟩:=x;exact⟨_,e⟩
 | tup xs=>obtain⟨_,_,_,o,e,_⟩:=x;exact⟨_,e⟩
 | dK kvs=>obtain⟨_,_,_,_,o,_,_,e,_⟩:=x;exact⟨_,e⟩
 | dT kvs=>obtain⟨_,_,_,_,o,_,_,e,_⟩:=x;exact⟨_,e⟩
 | set S n=>obtain⟨o,_,_,_,e,_⟩:=x;exact⟨_,e⟩
 | ins C dx fs=>obtain⟨_,_,_,e,_⟩:=x;exact⟨_,e⟩
 | own y=>exact x
 | xd fs=>obtain⟨_,⟨_,_,_,e,_⟩,_⟩:=x;exact⟨_,e⟩
 | rng lo hi=>obtain⟨_,_,_,e⟩:=x;exact⟨_,e⟩
 | frz ob u=>obtain⟨e,_⟩:=x;exact⟨_,e⟩
 | tbl ps=>exact⟨_,x⟩
 | met f y=>exact⟨_,x⟩
 | ext φ=>obtain⟨_,e,_⟩:=x;exact e
structure UnB (fs:List Addr) (H H':Hp) (h B:Heap):Prop where
 keep:∀ b o,h.get? b=some o→H b=none→b ∉ fs→B.get? b=some o
 free:∀ b o,h.get? b=some o→H b=none→H' b=none
 there:∀ b o,h.get? b=some o→b ∉ fs→∃ o',B.get? b=some o'
 tups:∀ b xs,H b=some (.tup xs)→H' b=some (.tup xs)
 frzs:∀ b o u,H b=some (.frz o u)→H' b=some (.frz o u)
 tbls:∀ b ps,H b=some (.tbl ps)→∃ more,H' b=some (.tbl (ps++more))
theorem UnB.un {fs:List Addr}{H H':Hp}{h B h3:Heap}(u:UnB fs H H' h B) (st:B.StaysIn h3) (sl:∀ b o,b∈fs→h.get? b=some o→∃ sl,h3.get? b=some { o with slots:=sl }):Un fs [] H H' h h3 where
 keep:=fun b o e n hb _=>st _ _ (u.keep b o e n hb)
 slot:=fun b o e n hb _=>sl b o hb e
 free:=fun b o e n _=>u.free b o e n
 there:=fun b o e _=>by
  by_cases hb:b∈fs
  ·obtain⟨_,z⟩:=sl b o hb e
   exact⟨_,z⟩
  ·obtain⟨o',z⟩:=u.there b o e hb
   exact⟨o',st _ _ z⟩
 tups:=u.tups
 frzs:=u.frzs
 tbls:=u.tbls
def CXE (P:Program) (w:World):CXT:=fun outer H s E e s'=>
 ∃ (ea:Addr) (cls:Value) (dx:Option Addr) (H':Hp) (B:Heap),e=.ref ea∧s'.os=s.os∧AllBare s'.gens∧Fly B outer ea cls dx .none s'.heap∧HOk P w H' B∧UnB (frs outer) H H' s.heap B∧
  (∀ b o,b∈frs outer→s.heap.get? b=some o→∃ sl,s'.heap.get? b=some { o with slots:=sl })∧E cls dx H'
abbrev WXT:=St→XK
structure XC (X:Cx) (WX:WXT):Prop where
 pass:∀ (pins:List (Addr × Obj)) (σ:St) (H:Hp) (s:Shared) (e:Value) (s':Shared),Inv X pins σ H s→CXE X.prog X.w X.stack H s (WX σ) e s'→X.xe e s'
structure XW (X:Cx) (WX:WXT):Prop extends XC X WX where
 raise:∀ (pins:List (Addr × Obj)) (σ:St) (H:Hp) (s:Shared) (h':Heap) (e:Addr) (cls:Value) (args:List Value),Inv X pins σ H s→Heap.MadeExcOf s.heap h' e cls args→WX σ cls none H→X.xe (.ref e) { s with heap:=h' }
section
variable {P:Program}{w:World}{K:PySem.W.Frag}{mg:Str→Option Value}{base:Heap}{N:List Str}{qual:Str}{scope:Scope}{f:Addr}{cd:Value}{A:Around}{outer:List Env}{s₀:Shared}{H₀:Hp}{E:XK}
theorem z394 {H:Hp}{h:Heap}{l:List Addr}(ok:HOk P w H h) (fr:∀ b∈l,H b=none):HOk P w H (PySem.W.hideAll h l):=fun a o e=>
 (ok a o e).stay (fun b u hb q=>PySem.W.hideAll_get _ q fun z=>by
  have n:=fr b z
  rcases hb with rfl | hb
  ·rw [n] at e;cases e
  ·rw [n] at hb;cases hb) (fun _ q=>q) fun _ _ q=>q
theorem xw_fn:XW (cxOf (CXE P w) P w K mg base N qual scope f cd A outer s₀ H₀ E) (fun _=>E) where
 raise:=fun pins σ H s h' e cls args I mk hE=>by
  have hst:(cxOf (CXE P w) P w K mg base N qual scope f cd A outer s₀ H₀ E).stack=envOfC qual scope s₀.heap.objs.size f cd::outer:=rfl
  have stF:=I.stkFree
  have stS:=I.stack
  rw [hst] at stF stS
  obtain⟨t,he,_,_⟩:=mk.there
  have hn:(PySem.W.hideAll s.heap (frs (envOfC qual scope s₀.heap.objs.size f cd::outer))).get? e=none:=by
   cases q:(PySem.W.hideAll s.heap (frs (envOfC qual scope s₀.heap.objs.size f cd::outer))).get? e with
   | none=>rfl
   | some o=>have:=PySem.W.of_hideAll _ q;rw [mk.new] at this;cases this
  have fr0:s.heap.FunFrames (PySem.W.hideAll s.heap (frs (envOfC qual scope s₀.heap.objs.size f cd::outer))) (envOfC qual scope s₀.heap.objs.size f cd::outer):=
   PySem.W.funFrames_hide stS fun env he a ha=>List.mem_filterMap.mpr ⟨env,he,ha⟩
  show wpAny (model P w) (A.deeper (envOfC qual scope s₀.heap.objs.size f cd)) (leaving (envOfC qual scope s₀.heap.objs.size f cd) (.ref e)) _ _ _
  refine z231 (s:={ s with heap:=h' }) (B:=PySem.W.hideAll s.heap (frs (envOfC qual scope s₀.heap.objs.size f cd::outer))) (env:=envOfC qual scope s₀.heap.objs.size f cd) (outer:=outer) (L:=s₀.heap.objs.size) I.ok.frames rfl (fun b o q=>mk.keeps b o (PySem.W.of_hideAll _ q)) hn (fr0.of_keeps fun b o q _=>⟨o,mk.keeps b o q,rfl⟩) he rfl rfl fun h2 fl up=>?_
  have nst:∀ b o,s₀.heap.get? b=some o→b ∉ frs outer→b ∉ frs (envOfC qual scope s₀.heap.objs.size f cd::outer):=fun b o q n z=>by
   rcases List.mem_cons.mp (show b∈s₀.heap.objs.size::frs outer from z) with z | z
   ·exact absurd (Heap.lt_size q) (by rw [z];exact Nat.lt_irrefl _)
   ·exact n z
  refine⟨e,cls,none,H,_,rfl,I.os,I.bare,fl,z394 I.hok stF,⟨fun b o q n nf=>PySem.W.hideAll_get _ (I.base.keep b o q n nf (fun z=>nomatch z)) (nst b o q nf),fun b o q n=>I.base.free b o q n (fun z=>nomatch z),fun b o q nf=>?_,I.base.tups,I.base.frzs,I.base.tbls⟩,fun b o hb q=>?_,hE⟩
  ·obtain⟨o',q'⟩:=I.base.there b o q (fun z=>nomatch z)
   exact⟨o',PySem.W.hideAll_get _ q' (nst b o q nf)⟩
  ·obtain⟨_,o',q',nf⟩:=I.ok.funs.mem hb
   obtain rfl:o=o':=Option.some.inj ((show s₀.heap.get? b=some o from q).symm.trans q')
   obtain⟨sl,z⟩:=I.base.slot b o q (I.ok.frf b hb) hb (fun z=>nomatch z)
   exact up b { o with slots:=sl } (mk.keeps _ _ z) nf
 pass:=fun pins σ H s e s' I z=>by
  obtain⟨ea,cls,dx,H',B,rfl,os,bare,fl,hok,u,slo,hE⟩:=z
  have fl:Fly B (envOfC qual scope s₀.heap.objs.size f cd::outer) ea cls dx .none s'.heap:=fl
  show wpAny (model P w) (A.deeper (envOfC qual scope s₀.heap.objs.size f cd)) (leaving (envOfC qual scope s₀.heap.objs.size f cd) (.ref ea)) _ _ _
  refine z392 (L:=s₀.heap.objs.size) I.ok.frames rfl fl fun h2 fl2 up=>?_
  have nst:∀ b o,s₀.heap.get? b=some o→b ∉ frs outer→b ∉ frs (envOfC qual scope s₀.heap.objs.size f cd::outer):=fun b o q n z=>by
   rcases List.mem_cons.mp (show b∈s₀.heap.objs.size::frs outer from z) with z | z
   ·exact absurd (Heap.lt_size q) (by rw [z];exact Nat.lt_irrefl _)
   ·exact n z
  refine⟨ea,cls,dx,H',B,rfl,os.trans I.os,bare,fl2,hok,⟨fun b o q n nf=>u.keep b o (I.base.keep b o q n nf (fun z=>nomatch z)) (I.base.free b o q n (fun z=>nomatch z)) (nst b o q nf),fun b o q n=>?_,fun b o q nf=>?_,fun b xs q=>u.tups b xs (I.base.tups b xs q),fun b o x q=>u.frzs b o x (I.base.frzs b o x q),fun b ps q=>?_⟩,fun b o hb q=>?_,hE⟩
  ·obtain⟨o',q'⟩:=I.base.there b o q (fun z=>nomatch z)
   exact u.free b o' q' (I.base.free b o q n (fun z=>nomatch z))
  ·obtain⟨o',q'⟩:=I.base.there b o q (fun z=>nomatch z)
   exact u.there b o' q' (nst b o q nf)
  ·obtain⟨m1,e1⟩:=I.base.tbls b ps q
   obtain⟨m2,e2⟩:=u.tbls b _ e1
   exact⟨m1++m2,by rw [e2,Array.append_assoc]⟩
  ·obtain⟨_,o',q',nf⟩:=I.ok.funs.mem hb
   obtain rfl:o=o':=Option.some.inj ((show s₀.heap.get? b=some o from q).symm.trans q')
   obtain⟨sl,z⟩:=I.base.slot b o q (I.ok.frf b hb) hb (fun z=>nomatch z)
   obtain⟨sl2,z2⟩:=slo b _ (show b∈s₀.heap.objs.size::frs outer from List.mem_cons_of_mem _ hb) z
   exact up b { o with slots:=sl2 } z2 nf
end
def tMethX (C:Addr) (m:Str) (sp:Sp) (dvs:List V) (WX:WXT) (ta:TE) (t:TA):TE:=fun σ H Q=>ta σ H fun x H1=>∃ a dx fs,x=.ref a∧H1 a=some (.ins C dx fs)∧fs.lookup m=none∧t σ H1 fun vs H2=>sp (x::(vs++dvs)) H2 Q (WX σ)
section
variable {X:Cx}{k:Nat}{f C:Addr}{fd:FuncData}{ps:List Str}{sp:Sp}{dvs:List V}{ds:List Value}{WX:WXT}{x m:Str}{p pos apos:Pos}{e o:Expr}{es:List Expr}{ta:TE}{t:TA}
theorem z642 {pins:List (Addr × Obj)}{σ:St}{H:Hp}{s:Shared}{Q:VK}{us:List Value}{vs:List V}(F:FnOk X.prog X.w X.K X.mg X.base (CXE X.prog X.w) k f fd ps sp) (hr:Room k X.A) (hb:Binds X.K fd ps ds) (hd:Vals dvs ds) (hx:XC X WX)
  (I:Inv X pins σ H s) (r:Vals vs us) (h:sp (vs++dvs) H Q (WX σ)):wpAny (model X.prog X.w) X.A (call (.ref f) us) (EP X pins σ Q) X.xe s:=by
 have r2:Vals (vs++dvs) (us++ds):=r.append hd
 have hl:(us++ds).length=ps.length:=by rw [← r2.length];exact F.len _ _ _ _ h
 refine wpAny_call (codeAny_mono (F.run X.A X.stack s H ⟨us,[]⟩ (us++ds) (vs++dvs) Q (WX σ) hr I.env0 (hb s us I.kIn hl) r2 h) fun r s' hq=>?_)
 cases r with
 | error e=>exact hx.pass pins σ H s e s' I hq
 | ok fl=>cases fl with
  | ret u=>exact I.after hq
  | next=>exact hq.elim
  | brk=>exact hq.elim
  | cont=>exact hq.elim
theorem z601 {pl:Sem Bool}(he:PE X o ta) (c:Cls X.K C) (hm:Meth X.K C m f) (F:FnOk X.prog X.w X.K X.mg X.base (CXE X.prog X.w) k f fd ps sp) (hr:Room k X.A) (hb:Binds X.K fd ps ds) (hd:Vals dvs ds) (hx:XC X WX) (ha:PA X (e::es) t)
  (hst:starEach (e::es) X.env=(false,eval e X.env)::starEach es X.env:=by rfl) (hpl:(backTo pos (starEach es X.env)).any (·.1)=false:=by rfl)
  (ht:eval (.Call (.Attribute o m apos) (e::es) [] pos) X.env=(eval o X.env >>= fun ov=>standAt apos.atName >>= fun _=>holding [ov] (getMethod ov m pl) >>= fun r=>callWith pos r.1 r.2 (backTo pos (starEach (e::es) X.env)) (backToKw pos (keywordEach [] X.env))):=by rfl):
  PE X (.Call (.Attribute o m apos) (e::es) [] pos) (tMethX C m sp dvs WX ta t):=by
 intro pins s σ H Q I h
 refine PySem.W.methodCall_KW (pl:=pl) (thn (he pins s σ H _ I h) fun u s1 ⟨x,H1,I1,rx,a,dx,fs,ex,ea,l,q⟩=>?_) ht
 subst ex
 cases (show u=Value.ref a from rx)
 refine getmeth_ok I1 ea c hm l ?_
 exact PySem.W.callWith_K (first:=[.ref a]) (h₀:=X.base) I.ok.mod.kin hm.kp (thn (ha pos pins s1 σ H1 _ I1 q) fun us s2 ⟨vs,H2,I2,r,q2⟩=>⟨I2.kIn,z642 (us:=.ref a::us) (vs:=.ref a::vs) F hr hb hd hx I2 (.cons rfl r) q2⟩) hst hpl
structure ErrC (K:PySem.W.Frag) (C:Addr):Prop where
 ex:PySem.W.excIn K C [.type "ValueError",.type "Exception",.type "BaseException",.type "object"] "ValueError.__new__"=true
def tRaise (WX:WXT) (C:Addr) (t:TA):TS:=fun D σ H=>t σ H fun vs H1=>vs.length≤sizeLine∧WX σ (.ref C) none H1
theorem z572 {np cpos:Pos}(hx:XW X WX) (hc:X.calm=true) (hg:Gl X x) (hm:X.mg x=some (.ref C)) (er:ErrC X.K C) (ha:PA X (e::es) t)
  (hdb:(x == ("__debug__":Str))=false:=by decide) (he:starEach (e::es) X.env=(false,eval e X.env)::starEach es X.env:=by rfl) (hpl:(backTo cpos (starEach es X.env)).any (·.1)=false:=by rfl):
  PS X (.Raise (some (.Call (.Name x np) (e::es) [] cpos)) none pos) (tRaise WX C t):=by
 intro pins s σ H D I h
 have q:=er.ex
 unfold PySem.W.excIn at q
 split at q
 ·rename_i dd cd sl ho
  split at q
  ·rename_i C' bm k0 k1 k2 k3 n k5 hm' hs
   simp only [Bool.and_eq_true,beq_iff_eq,Bool.not_eq_true'] at q
   obtain⟨⟨⟨⟨⟨rfl,rfl⟩,hdel⟩,ht⟩,hok⟩,hni⟩:=q
   obtain⟨nm,bs,mro,ns,qn,hd,sn,sub,ab,col,del⟩:=cd
   dsimp only at hm' hdel hok hni
   subst hm' hdel
   obtain rfl:sl=#[k0,k1,k2,k3,some (.builtin "ValueError.__new__"),k5]:=by
    obtain⟨l⟩:=sl
    simp only at hs
    rw [hs]
   have T:=PySem.W.tail_of_in I.ok.mod.kin ht
   refine wpAny_Raise_call_subT (C:=C') (nm:=nm) (q:=qn) (N:=ns) (bs:=bs) (bm:=bm) (hdct:=hd) (sn:=sn) (sub:=sub) (ab:=ab) (col:=col) (dd:=dd) (k0:=k0) (k1:=k1) (k2:=k2) (k3:=k3) (k5:=k5) PySem.F.excBase_ValueError (mN:=X.base.nsMap ns)
    (T.hasType PySem.F.excBase_ValueError.hasBase) (I.ok.hd hc) (by rw [he];show (false || (backTo cpos (starEach es X.env)).any (·.1))=false;rw [hpl];rfl) (PySem.W.nsMap_none_of_in I.ok.mod.kin hok hni) (ld_glob I hg hm ⟨rfl,?_⟩ hdb)
   rw [he]
   have hp:=ha cpos pins s σ H _ I h
   rw [he] at hp
   refine Calls.evalArgs_plain (wpAny_mono hp (fun us s1 z=>?_) fun _ _ z=>z)
   obtain⟨vs,H1,I1,rv,hz,hw⟩:=z
   refine⟨rfl,by rw [← rv.length];exact hz,I1.kIn _ _ ho,(Heap.Ns.of_isNs (PySem.W.isNs_of_in I.ok.mod.kin hok)).keeps I1.bk,T.keeps I1.bk,fun h' ea mk=>hx.raise pins σ H1 s1 h' ea _ _ I1 mk hw⟩
  ·cases q
 ·cases q
end
end L2
set_option Elab.async false
set_option linter.all false
set_option maxRecDepth 100000
namespace L2
open PySem PySem.Spec PyProof.Rows
structure MkO (C:Addr) (dx:Option Addr) (ob:Obj):Prop where
 ex:∃ (vs:Array Value) (sl:Array (Option Value)),ob=⟨.ref C,dx,.fields vs,sl⟩∧vs[2]?=some Value.none
def cxTry (X:Cx) (pins:List (Addr × Obj)) (E:Value→Shared→Prop):Cx:={ X with pn:=X.pn++pins,xe:=E }
def z132 (X:Cx) (pins:List (Addr × Obj)) (ea:Addr) (ob:Obj):Cx:={ X with A:=X.A.mark (some (.ref ea)),calm:=false,pn:=X.pn++pins++[(ea,ob)],xe:=fun _ _=>False }
section
variable {X:Cx}{pins pins':List (Addr × Obj)}{σ:St}{H:Hp}{s:Shared}{E:Value→Shared→Prop}{ea:Addr}{ob:Obj}
theorem ok_try (ok:X.Ok):(cxTry X pins E).Ok:=⟨ok.mod,ok.kind,ok.glob,ok.blt,ok.above,ok.inj,ok.has,ok.cab,ok.hd,ok.frames,ok.stk,ok.exf,ok.bs,ok.bsz,ok.noex,ok.exfs,ok.funs,ok.frf⟩
theorem z575 (ok:X.Ok):(z132 X pins ea ob).Ok:=⟨ok.mod,ok.kind,ok.glob,ok.blt,ok.above,ok.inj,ok.has,ok.cab,(fun z=>nomatch z),ok.frames,ok.stk,ok.exf,ok.bs,ok.bsz,ok.noex,ok.exfs,ok.funs,ok.frf⟩
theorem z641 (I:Inv X pins σ H s):Inv (cxTry X pins E) [] σ H s:=⟨ok_try I.ok,I.os,I.bare,I.base,I.loc,I.cell,I.free,I.freeC,fun p hp=>I.pin p (by simpa [cxTry] using hp),I.hok,I.len⟩
theorem z147 (ok:X.Ok) (I:Inv (cxTry X pins E) pins' σ H s):Inv X pins σ H s:=⟨ok,I.os,I.bare,I.base,I.loc,I.cell,I.free,I.freeC,fun p hp=>I.pin p (List.mem_append_left _ hp),I.hok,I.len⟩
theorem z496 (I:Inv X pins σ H s) (he:s.heap.get? ea=some ob) (hn:H ea=none) (hl:ea≠X.env.locals) (hf:ea ∉ X.fs) (hc:∀ v,ob.data≠.cell v):Inv (z132 X pins ea ob) [] σ H s:=
 ⟨z575 I.ok,I.os,I.bare,I.base,I.loc,I.cell,I.free,I.freeC,fun p hp=>by
  have hp:p∈X.pn++pins++[(ea,ob)]:=by simpa [z132] using hp
  rcases List.mem_append.mp hp with z | z
  ·exact I.pin p z
  ·cases List.mem_singleton.mp z
   exact⟨he,hn,hl,hf,hc⟩,I.hok,I.len⟩
theorem z120 (ok:X.Ok) (I:Inv (z132 X pins ea ob) pins' σ H s):Inv X pins σ H s:=⟨ok,I.os,I.bare,I.base,I.loc,I.cell,I.free,I.freeC,fun p hp=>I.pin p (List.mem_append_left _ (List.mem_append_left _ hp)),I.hok,I.len⟩
theorem SP.untry {D:Ends}{f:Flow}(ok:X.Ok) (h:SP (cxTry X pins E) [] D f s):SP X pins D f s:=by
 cases f with
 | next=>obtain⟨σ',H',I,q⟩:=h;exact⟨σ',H',z147 ok I,q⟩
 | brk=>obtain⟨σ',H',I,q⟩:=h;exact⟨σ',H',z147 ok I,q⟩
 | cont=>obtain⟨σ',H',I,q⟩:=h;exact⟨σ',H',z147 ok I,q⟩
 | ret u=>obtain⟨v,σ',H',I,r,q⟩:=h;exact⟨v,σ',H',z147 ok I,r,q⟩
theorem SP.unsuite {D:Ends}{f:Flow}(ok:X.Ok) (h:SP (z132 X pins ea ob) [] D f s):SP X pins D f s:=by
 cases f with
 | next=>obtain⟨σ',H',I,q⟩:=h;exact⟨σ',H',z120 ok I,q⟩
 | brk=>obtain⟨σ',H',I,q⟩:=h;exact⟨σ',H',z120 ok I,q⟩
 | cont=>obtain⟨σ',H',I,q⟩:=h;exact⟨σ',H',z120 ok I,q⟩
 | ret u=>obtain⟨v,σ',H',I,r,q⟩:=h;exact⟨v,σ',H',z120 ok I,r,q⟩
end
section
variable {X:Cx}{x n:Str}{C:Addr}{body:List Stmt}{b₀:Stmt}{suite:List Stmt}{np pos hpos:Pos}{tb:WXT→TS}{th:Addr→Addr→Option Addr→TS}
theorem z474 {M:Model}{h:Heap}{a:Addr}{o:Obj}(e:h.get? a=some o):PySem.W.Looks M h (typeOf (.ref a)) o.cls:=(PySem.W.Looks.ld e).andThen .now
def Behind (X:Cx) (nm:Option Str) (hpos:Pos) (Q:Flow→Shared→Prop) (r:Result) (s:Shared):Prop:=match r with
 | .ok f=>(match nm with
  | none=>Q f s
  | some n=>wpAny (model X.prog X.w) X.A (do bindName X.env n .none;unbindBehindTheSuite X.env n hpos) (fun _ s₃=>Q f s₃) X.xe s)
 | .error x=>cameBackBy (model X.prog X.w) X.A X.env X.xe x s
theorem z603 {pins pins':List (Addr × Obj)}{σ:St}{H:Hp}{s s':Shared}{e:Value}{WE:XK}{nm:Option Str}{Q:Flow→Shared→Prop}{EE:Value→Shared→Prop}{L:Addr}{outer:List Env}(hst:X.stack=X.env::outer) (hf:X.env.frame=some L) (hg:Gl X x) (hm:X.mg x=some (.ref C)) (hdb:(x == ("__debug__":Str))=false) (ok:X.Ok)
  (I:Inv (cxTry X pins EE) pins' σ H s) (z:CXE X.prog X.w X.stack H s WE e s') (hW:∀ cls dx H',WE cls dx H'→∃ C',cls=.ref C'∧PySem.W.exmOne X.K (.ref C') (.ref C)=some true)
  (k:∀ (ea C':Addr) (dx:Option Addr) (H':Hp) (s5:Shared),e=.ref ea→WE (.ref C') dx H'→H' ea=none→(∀ (M:Model) (A:Around) (E:Value→Shared→Prop) (Q:Unit→Shared→Prop),(∀ ob s6,MkO C' dx ob→Inv (z132 X pins ea ob) [] σ H' s6→Q () s6)→wpAny M A (setFlight (.ref ea) none) Q E s5)→
   codeAny (model X.prog X.w) (X.A.mark (some (.ref ea))) (.handlers (.ref ea) [.ExceptHandler none nm (b₀::suite) hpos] X.env) (Behind X nm hpos Q) s5):
  wpAny (model X.prog X.w) X.A (noteFrame e X.env) (fun _ s₂=>wpAny (model X.prog X.w) X.A (setFlight e none) (fun _ s₃=>wpAny (model X.prog X.w) X.A (handleBy e X.env [.ExceptHandler (some (.Name x np)) nm (b₀::suite) hpos]) Q X.xe s₃) X.xe s₂) X.xe s':=by
 obtain⟨ea,cls,dx,H',B,rfl,os,bare,fl,hok,u,slo,hE⟩:=z
 obtain⟨C',rfl,hmt⟩:=hW cls dx H' hE
 have fl:Fly B (X.env::outer) ea (.ref C') dx .none s'.heap:=by rw [← hst];exact fl
 have J:∀ {h3:Heap}{t3:Nat},B.StaysIn h3→s'.heap.UpToSlots h3→Inv X pins σ H' { s' with heap:=h3,toks:=t3 }:=fun{h3 t3} st up=>by
  refine z147 ok (Inv.call' I (s':={ s' with heap:=h3,toks:=t3 }) os (u.un st fun b o hb q=>?_) (hok.kept st) bare (fun b z=>nomatch z))
  obtain⟨_,o',q',nf⟩:=I.stack.mem hb
  rw [q] at q'
  cases q'
  obtain⟨sl,q2⟩:=slo b o hb q
  exact up b { o with slots:=sl } q2 nf
 have hn:H' ea=none:=by
  cases q:H' ea with
  | none=>rfl
  | some o=>obtain⟨_,z⟩:=(hok ea o q).some;rw [fl.new] at z;cases z
 refine z363 (by rw [ok.frames,hst]) hf fl fun h4 fl4 up4=>?_
 refine land (s:={ s' with heap:=h4 }) fl4 fun h5 fl5 up5=>?_
 have fin:∀ {h6:Heap}{t6:Nat},Fly B (X.env::outer) ea (.ref C') dx .none h6→h5.UpToSlots h6→∃ ob,MkO C' dx ob∧Inv (z132 X pins ea ob) [] σ H' { s' with heap:=h6,toks:=t6 }:=fun{h6 t6} fl6 up6=>by
  have I6:=J (t3:=t6) fl6.st ((up4.trans up5).trans up6)
  obtain⟨vs,sl,T,oT,ts,he,h2,h1,_⟩:=fl6.at_
  refine⟨_,⟨vs,sl,rfl,h2⟩,z496 I6 he hn (fun z=>?_) (fun z=>?_) (fun v z=>by cases z)⟩
  ·obtain⟨m,⟨o,es,ep,ho,hd,_⟩,_⟩:=I6.loc
   rw [← z] at ho
   have ho:=(show h6.get? ea=some o from ho)
   rw [he] at ho
   cases ho
   cases hd
  ·obtain⟨_,o,ho,nf⟩:=I6.funs.mem z
   have ho:=(show h6.get? ea=some o from ho)
   rw [he] at ho
   cases ho
   exact nf _ rfl
 refine wpAny_handleBy_cons (codeAny_handlers_test ?_) (by intro q;cases q)
 obtain⟨ob5,_,I5⟩:=fin (t6:=s'.toks) fl5 (Heap.UpToSlots.refl _)
 refine ld_glob (X:=z132 X pins ea ob5) I5 hg hm ?_ hdb
 obtain⟨vs,sl,T,oT,ts,he,_⟩:=id fl5.at_
 refine(PySem.W.exm_one I5.kIn (z474 he) hmt).here ?_
 refine k ea C' dx H' _ rfl hE hn fun M A E Q q=>land (s:={ s' with heap:=h5 }) fl5 fun h6 fl6 up6=>?_
 obtain⟨ob6,m6,I6⟩:=fin (t6:=s'.toks) fl6 up6
 exact q ob6 _ m6 I6
end
end L2
set_option Elab.async false
set_option linter.all false
set_option maxRecDepth 100000
namespace L2
open PySem PySem.Spec PyProof.Rows
structure RoomM (k:Nat) (A:Around):Prop where
 dp:A.depth + 3 * k + 5 < recursionLimit
 un:A.units + 16 * k + 200 < cLine
def cxM (P:Program) (w:World) (K:PySem.W.Frag) (mg:Str→Option Value) (base:Heap) (N:List Str) (qual:Str) (scope:Scope) (f:Addr) (cd:Value) (A:Around) (outer:List Env) (s:Shared) (H:Hp) (ea:Addr) (ob:Obj):Cx:=
 { cxOf CX0 P w K mg base N qual scope f cd A outer s H E0 with calm:=false,pn:=[(ea,ob)],xe:=fun _ _=>False }
section
variable {P:Program}{w:World}{K:PySem.W.Frag}{mg:Str→Option Value}{base:Heap}{x qual:Str}{st:Stmt}{f:Addr}{fd:FuncData}{N ps:List Str}{k:Nat}{sp:Sp}
theorem Fun.okR (F:Fun K x qual st f fd) (S:FnScope N ps (defScope st)) (len:∀ vs H Q E,sp vs H Q E→vs.length=ps.length)
  (hbody:∀ (cdv:Value) (A:Around) (outer:List Env) (s:Shared) (H:Hp) (vs:List V) (Q:VK) (E:XK),Room k (A.deeper (envOfC qual (defScope st) s.heap.objs.size f cdv))→sp vs H Q E→
   ∃ t,PSs (cxOf (CXE P w) P w K mg base N qual (defScope st) f cdv A outer s H E) (defBody st) t∧t { nx:=fun _ H'=>Q .non H',rt:=Q } (start N vs) H):FnOk P w K mg base (CXE P w) (k + 1) f fd ps sp:=by
 obtain⟨oc,od,kV,doc,pm,an,cdv,ct,osl,rfl,lk,hcd⟩:=F.ex
 exact fn_of lk hcd S len fun A outer s H vs Q E hr hsp=>hbody cdv A outer s H vs Q E hr hsp
end
theorem cxKm {P:Program}{w:World}{K:PySem.W.Frag}{mg:Str→Option Value}{base:Heap}{N:List Str}{qual:Str}{scope:Scope}{f:Addr}{cd:Value}{A:Around}{outer:List Env}{s:Shared}{H:Hp}{ea:Addr}{ob:Obj}:(cxM P w K mg base N qual scope f cd A outer s H ea ob).K=K:=rfl
theorem cxKs {X:Cx}{pins:List (Addr × Obj)}{ea:Addr}{ob:Obj}:(z132 X pins ea ob).K=X.K:=rfl
theorem cxKt {X:Cx}{pins:List (Addr × Obj)}{E:Value→Shared→Prop}:(cxTry X pins E).K=X.K:=rfl
section
variable {X:Cx}{k:Nat}{f C:Addr}{fd:FuncData}{ps:List Str}{sp:Sp}{ea:Addr}{ob:Obj}{x m:Str}{p pos apos:Pos}{e o:Expr}{es:List Expr}{ta:TE}{t:TA}
end
end L2
set_option Elab.async false
set_option linter.all false
set_option maxRecDepth 100000
namespace L2
open PySem PySem.Spec PyProof.Rows PySem.W
section
variable {prog:Program}{w:World}{A:Around}{E:Value→Shared→Prop}{s:Shared}{K:Frag}{x D:Addr}{ox:Obj}{od:Option Obj}{name:Str}
end
section
variable {X:Cx}{ea C:Addr}{dx:Option Addr}{ob:Obj}
end
end L2
set_option Elab.async false
set_option linter.all false
set_option maxRecDepth 100000
namespace L2
open PySem PySem.Spec PyProof.Rows PySem.Builtin PySem.Builtin.Str PySem.Builtin.Int
structure FunD (K:PySem.W.Frag) (x qual:Str) (st:Stmt) (f:Addr) (fd:FuncData) (items:Array Value):Prop where
 ex:∃ (oc:Value) (od:Option Addr) (kV doc pm:Value) (an:Option Addr) (cdv ct:Value) (osl:Array (Option Value)) (T:Addr) (oT:Obj) (n:Nat),
  fd=PySem.W.fnOf x qual (defArgs st) (defBody st) (defScope st) (.ref T) kV doc pm an cdv ct∧K.lookup f=some ⟨oc,od,.func fd,osl⟩∧PySem.W.codeIn K cdv qual=true∧K.lookup T=some oT∧oT.data=.seq items n
 kp:PySem.W.keepIn K (.ref f)=true
section
variable {P:Program}{w:World}{K:PySem.W.Frag}{mg:Str→Option Value}{base:Heap}{x qual:Str}{st:Stmt}{f:Addr}{fd:FuncData}{items:Array Value}{N ps:List Str}{k:Nat}{sp:Sp}
theorem FunD.ok (F:FunD K x qual st f fd items) (S:FnScope N ps (defScope st)) (len:∀ vs H Q E,sp vs H Q E→vs.length=ps.length)
  (hbody:∀ (cdv:Value) (A:Around) (outer:List Env) (s:Shared) (H:Hp) (vs:List V) (Q:VK) (E:XK),Room k (A.deeper (envOfC qual (defScope st) s.heap.objs.size f cdv))→sp vs H Q E→
   ∃ t,PSs (cxOf CX0 P w K mg base N qual (defScope st) f cdv A outer s H E).nox (defBody st) t∧t { nx:=fun _ H'=>Q .non H',rt:=Q } (start N vs) H):FnOk P w K mg base CX0 (k + 1) f fd ps sp:=by
 obtain⟨oc,od,kV,doc,pm,an,cdv,ct,osl,T,oT,n,rfl,lk,hcd,_⟩:=F.ex
 refine fn_of lk hcd S len fun A outer s H vs Q E hr hsp=>?_
 obtain⟨t,h,q⟩:=hbody cdv A outer s H vs Q E hr hsp
 exact⟨t,h.nox,q⟩
theorem FunD.binds {ds:List Value}(F:FunD K x qual st f fd items)
  (h:∀ (T:Addr) (kV doc pm:Value) (an:Option Addr) (cdv ct:Value) (us:List Value),(us++ds).length=ps.length→∃ k:Option (Array Value)→Sem (List (Str × Value)),
   bindArgs (PySem.W.fnOf x qual (defArgs st) (defBody st) (defScope st) (.ref T) kV doc pm an cdv ct) ⟨us,[]⟩=(seqItems? (.ref T) >>= k)∧k (some items)=pure (ps.zip (us++ds))):Binds K fd ps ds:=by
 obtain⟨oc,od,kV,doc,pm,an,cdv,ct,osl,T,oT,n,rfl,lk,hcd,hT,hd⟩:=F.ex
 intro s us KX hl
 obtain⟨k,h1,h2⟩:=h T kV doc pm an cdv ct us hl
 exact .of_defaults (k:=k) rfl (KX _ _ hT) hd h1 h2
theorem z633 {oc:Value}{od an:Option Addr}{osl sT:Array (Option Value)}{kV doc pm cdv ct cT:Value}{T:Addr}{dT:Option Addr}{n:Nat}(l:K.lookup f=some ⟨oc,od,.func (PySem.W.fnOf x qual (defArgs st) (defBody st) (defScope st) (.ref T) kV doc pm an cdv ct),osl⟩)
  (c:PySem.W.codeIn K cdv qual=true) (k:PySem.W.keepIn K (.ref f)=true) (t:K.lookup T=some ⟨cT,dT,.seq items n,sT⟩):FunD K x qual st f (PySem.W.fnOf x qual (defArgs st) (defBody st) (defScope st) (.ref T) kV doc pm an cdv ct) items:=
 ⟨⟨oc,od,kV,doc,pm,an,cdv,ct,osl,T,_,n,rfl,l,c,t,rfl⟩,k⟩
end
structure Disp (X:Cx) (m:Str) (k:Nat) (ps:List Str) (e:Addr × Sp):Prop where
 cl:Cls X.K e.1
 ex:∃ f fd,Meth X.K e.1 m f∧FnOk X.prog X.w X.K X.mg X.base CX0 k f fd ps e.2∧Binds X.K fd ps []
theorem z117 {X:Cx}{m:Str}{k:Nat}{ps:List Str}:∀ e∈([]:List (Addr × Sp)),Disp X m k ps e:=fun e h=>nomatch h
theorem z527 {X:Cx}{m:Str}{k j:Nat}{ps:List Str}{C f:Addr}{fd:FuncData}{sp:Sp}{tab:List (Addr × Sp)} (cl:Cls X.K C) (hm:Meth X.K C m f) (F:FnOk X.prog X.w X.K X.mg X.base CX0 j f fd ps sp) (hj:j≤k) (hb:Binds X.K fd ps []) (r:∀ e∈tab,Disp X m k ps e):∀ e∈(C,sp)::tab,Disp X m k ps e:=
 fun e h=>(List.mem_cons.mp h).elim (fun z=>by rw [z];exact⟨cl,f,fd,hm,F.mono hj,hb⟩) (r e)
def tMethV (tab:List (Addr × Sp)) (m:Str) (ta:TE) (t:TA):TE:=fun σ H Q=>ta σ H fun x H1=>∃ a dx fs e,e∈tab∧x=.ref a∧H1 a=some (.ins e.1 dx fs)∧fs.lookup m=none∧t σ H1 fun vs H2=>e.2 (x::vs) H2 Q E0
section
variable {X:Cx}{k:Nat}{ps:List Str}{tab:List (Addr × Sp)}{m:Str}{pos apos:Pos}{e o:Expr}{es:List Expr}{ta:TE}{t:TA}
theorem z106 {pl:Sem Bool}(he:PE X o ta) (D:∀ e∈tab,Disp X m k ps e) (hr:Room k X.A) (ha:PA X (e::es) t)
  (hst:starEach (e::es) X.env=(false,eval e X.env)::starEach es X.env:=by rfl) (hpl:(backTo pos (starEach es X.env)).any (·.1)=false:=by rfl)
  (ht:eval (.Call (.Attribute o m apos) (e::es) [] pos) X.env=(eval o X.env >>= fun ov=>standAt apos.atName >>= fun _=>holding [ov] (getMethod ov m pl) >>= fun r=>callWith pos r.1 r.2 (backTo pos (starEach (e::es) X.env)) (backToKw pos (keywordEach [] X.env))):=by rfl):
  PE X (.Call (.Attribute o m apos) (e::es) [] pos) (tMethV tab m ta t):=by
 intro pins s σ H Q I h
 refine PySem.W.methodCall_KW (pl:=pl) (thn (he pins s σ H _ I h) fun u s1 ⟨x,H1,I1,rx,a,dx,fs,C,hC,ex,ea,l,q⟩=>?_) ht
 subst ex
 cases (show u=Value.ref a from rx)
 obtain⟨c,f,fd,hm,F,hb⟩:=D C hC
 refine getmeth_ok I1 ea c hm l ?_
 exact PySem.W.callWith_K (first:=[.ref a]) (h₀:=X.base) I.ok.mod.kin hm.kp (thn (ha pos pins s1 σ H1 _ I1 q) fun us s2 ⟨vs,H2,I2,r,q2⟩=>⟨I2.kIn,run_fn (us:=.ref a::us) (vs:=.ref a::vs) (dvs:=[]) (ds:=[]) F hr hb .nil pass0 I2 (.cons rfl r) (by simpa only [List.append_nil] using q2)⟩) hst hpl
end
theorem z580 {X:Cx}{K:PySem.W.Frag}{scope:Scope}{cl:List (Str × Addr)}{a b:Str}{N:List Str}{C:Addr}{ex:List Addr}{s₀:Shared}{H₀:Hp}{k}{pa pb pos:Pos}(hK:X.K=K) (hc:Calm X) (hN:(a::b::N).Nodup) (la:Loc (compEnvC scope cl C X.env).scope a) (lb:Loc (compEnvC scope cl C X.env).scope b)
  (fa:(compEnvC scope cl C X.env).scope.names.lookup a=some .local) (fb:(compEnvC scope cl C X.env).scope.names.lookup b=some .local):
  PG (cxComp X scope cl (a::b::N) C ex s₀ H₀) (.Tuple [.Name a pa,.Name b pb] k pos) (gTup K 2 (gCons (gName 0) (gCons (gName 1) gNil))):=by
 subst hK
 exact pg_tup (X:=cxComp X scope cl (a::b::N) C ex s₀ H₀) (n:=2) (z256 hc) (pgs_cons (pg_name (i:=0) hN rfl la (.inr fa)) (pgs_cons (pg_name (i:=1) hN rfl lb (.inr fb)) pgs_nil))
theorem hu1 {n:Nat}(h:n + 64 < cLine):n + 1 < cLine:=by omega
end L2
set_option Elab.async false
set_option linter.all false
set_option maxRecDepth 100000
namespace L2
open PySem PySem.Spec PyProof.Rows
def z562 (tk tv:TE):TE:=fun σ H Q=>∀ p,H p=none→tk σ (upd H p (.dT [])) fun x H1=>tv σ H1 fun y H2=>H2 p=some (.dT [])∧∃ b k,x=.ref b∧H2 b=some (.tup (k.map kV))∧Q (.ref p) (upd H2 p (.dT [(k,y)]))
theorem z509 {X:Cx}{pos:Pos}{k v:Expr}{tk tv:TE}(hu:X.A.units + 1 < cLine) (hk:PE X k tk) (hv:PE X v tv):PE X (.Dict [some k] [v] pos) (z562 tk tv):=by
 intro pins s σ H Q I q
 have hn:=I.hok.fresh (Nat.le_refl s.heap.objs.size)
 have I1:=I.laid (a:=s.heap.objs.size) (o:=.dT []) (h':=s.heap.push { cls:=.type "dict",data:=.dict #[] }) (t':=s.toks) (fun _ _ q=>Heap.get?_push_of_some _ q) (Nat.le_refl _) (dt_empty s.heap I.big)
 refine wpAny_Dict_any rfl rfl (by simp) (by show 1≤15;decide) (thn (pps_cons (pos:=pos) hk hv pps_nil pins _ σ _ (fun ps H2=>match ps with
  | [(x,y)]=>H2 s.heap.objs.size=some (.dT [])∧∃ b k,x=.ref b∧H2 b=some (.tup (k.map kV))∧Q (.ref s.heap.objs.size) (upd H2 s.heap.objs.size (.dT [(k,y)]))
  | _=>False) I1 (q _ hn)) fun ws s2 ⟨ps,H2,I2,rel,h2⟩=>?_)
 match ps,rel,h2 with
 | [(x,y)],.cons (b:=(u,r)) (l₂:=[]) ⟨rx,ry⟩ .nil,⟨e,b,kk,ex,eb,q2⟩=>
  subst ex
  cases (show u=Value.ref b from rx)
  obtain⟨z,hd,xs,rel,dd⟩:=dt_of I2.hok e
  cases rel
  unfold storeAll
  rw [List.forIn_cons]
  refine wpAny_bind (wpAny_bind (wpAny_dictSet_heap (hsz:=Nat.zero_le _) (show (tupleKind (mixKind X.prog X.w)).room X.A from(by show X.A.units < cLine;omega)) (key_of I2.hok eb) dd fun h' dd' hs=>wpAny_pure ?_))
  show wpAny _ _ (forIn [] PUnit.unit _) _ _ _
  rw [List.forIn_nil]
  refine wpAny_pure ⟨.ref s.heap.objs.size,_,?_,rfl,q2⟩
  obtain⟨q,es,ep,hq,h2,h3,h4,_,h5⟩:=dd'
  refine d_write I2 (by rw [e];exact True.intro) hs ⟨q,hq⟩ ⟨by show 1≤_;rw [sizeLine_eq];decide,hd,_,.cons ⟨rfl,?_,ry⟩ .nil,q,es,ep,hq,h2,h3,h4,h5⟩
  rw [upd_ne (ne_of eb e (fun z=>nomatch z))]
  exact eb
section
variable {prog:Program}{w:World}{K:Type} [DecidableEq K]{knd:HeapKind prog w K}{A:Around}{E:Value→Shared→Prop}{s:Shared}
theorem z205 {nm:String}{a b:Addr}{xa xb:List (K × Addr × Value)}{Q:Bool→Shared→Prop}(ha:(a == sysModules)=false) (hb:(b == sysModules)=false) (hu:knd.room A)
  (da:s.heap.DictOfH knd a xa) (db:s.heap.DictOfH knd b xb) (hl:xa.length=xb.length) (hits:∀ x∈xa,(∃ (j:Nat) (p:Addr × Value),xb[j]?=some (x.1,p))∧∀ (j:Nat) (p:Addr × Value),xb[j]?=some (x.1,p)→SeqAt.EqAt A s x.2.2 p.2 true) (h:Q true s):
  wpAny (model prog w) A (Builtin.Dict.samePairs nm a b) Q E s:=by
 obtain⟨oa,es,ep,hoa,_,hda,hea,isa,_⟩:=da
 obtain⟨ob,es',ep',hob,_,hdb,heb,isb,nb⟩:=db
 have hla:es.size=xa.length:=size_of_entries hea
 have hlb:es'.size=xb.length:=size_of_entries heb
 unfold Builtin.Dict.samePairs Builtin.Dict.showsAll
 rw [if_neg (show ¬ (a == sysModules)=true by rw [ha];exact Bool.false_ne_true),if_neg (show ¬ (b == sysModules)=true by rw [hb];exact Bool.false_ne_true)]
 refine wpAny_bind (wpAny_pure (wpAny_bind (wpAny_pure ?_)))
 refine wpAny_bind (wpAny_dictEntries hoa hda ?_)
 dsimp only
 refine wpAny_bind (wpAny_dictEntries hob hdb ?_)
 have hsz:es.size=es'.size:=by rw [hla,hlb,hl]
 rw [if_neg (by rw [hsz];simp)]
 refine wpAny_bind (wpAny_dictEpoch hoa hda ?_)
 refine wpAny_bind ?_
 rw [Std.Legacy.Range.forIn_eq_forIn_range']
 simp only [Std.Legacy.Range.size,Nat.sub_zero,Nat.add_sub_cancel,Nat.div_one]
 refine wpAny_forIn_list _ (fun rest q s'=>s'=s∧q=(none,())∧∃ i,rest=List.range' i (es.size - i)∧i≤es.size) _ ?_ ?_ _ _ ⟨rfl,rfl,0,by simp,Nat.zero_le _⟩
 ·rintro x rest q s' ⟨rfl,rfl,i,hr,hi⟩
  have hlt:i < es.size:=by
   rcases Nat.lt_or_ge i es.size with h | h
   ·exact h
   ·rw [Nat.sub_eq_zero_of_le h] at hr;simp at hr
  obtain⟨rfl,hrest⟩:x=i∧rest=List.range' (i + 1) (es.size - (i + 1)):=by
   have e:es.size - i=(es.size - (i + 1)) + 1:=by omega
   rw [e,List.range'_succ] at hr
   injection hr with h1 h2
   exact⟨h1,h2⟩
  refine wpAny_bind (wpAny_dictEntries hoa hda ?_)
  obtain⟨y,hy⟩:∃ y,xa[x]?=some y:=⟨_,List.getElem?_eq_getElem (by omega)⟩
  have hx:es[x]?=some (entryOfKey knd y):=by rw [entry_at hea x,hy];rfl
  rw [hx]
  have hm:y∈xa:=List.mem_of_getElem? hy
  obtain⟨⟨j0,p0,hj0⟩,eqs⟩:=hits y hm
  show wpAny _ _ (holding [(entryOfKey knd y).key,(entryOfKey knd y).val] _ >>= _) _ _ _
  refine wpAny_bind (wpAny_holding (wpAny_bind (wpAny_dictFind_heap hu (isa y hm) hob hdb heb isb nb (fun hn=>absurd hj0 (hn j0 p0)) fun j p hj=>?_)))
  refine wpAny_bind (wpAny_dictEntries hob hdb ?_)
  have hxj:es'[j]?=some (entryOfKey knd (y.1,p)):=by rw [entry_at heb j,hj];rfl
  rw [hxj]
  refine wpAny_holding (eqs j p hj prog w _ _ ?_)
  show wpAny _ _ (if (!true)=true then _ else _) _ _ _
  rw [if_neg (by decide)]
  refine wpAny_bind (wpAny_dictEpoch hoa hda ?_)
  rw [if_neg (by simp)]
  exact wpAny_pure ⟨rfl,rfl,x + 1,hrest,hlt⟩
 ·rintro q s' ⟨rfl,rfl,i,hr,hi⟩
  exact wpAny_pure h
end
section
variable {prog:Program}{w:World}{K:Type} [DecidableEq K]{knd:HeapKind prog w K}{A:Around}{E:Value→Shared→Prop}{s:Shared}
theorem dt_eq {a b:Addr}{xa xb:List (K × Addr × Value)}{Q:Value→Shared→Prop}(ta:s.TypeIs (.ref a) "dict") (tb:s.TypeIs (.ref b) "dict") (ha:(a == sysModules)=false) (hb:(b == sysModules)=false) (hu:A.units < cLine) (hr:knd.room A.in1)
  (da:s.heap.DictOfH knd a xa) (db:s.heap.DictOfH knd b xb) (hl:xa.length=xb.length) (hits:∀ x∈xa,(∃ (j:Nat) (p:Addr × Value),xb[j]?=some (x.1,p))∧∀ (j:Nat) (p:Addr × Value),xb[j]?=some (x.1,p)→SeqAt.EqAt A.in1 s x.2.2 p.2 true) (h:Q (.bool true) s):
  wpAny (model prog w) A (compareOp .Eq (.ref a) (.ref b)) Q E s:=by
 refine wpAny_richCompare_same_room (op:=.Eq) ta tb PySem.F.slot_dict_eq (wpAny_call_entry PySem.F.slot_dict_eq ta PySem.F.entry_dict_eq ?_ (PySem.F.args_dict_eq_2 _ _)) hu
 show wpAny _ _ (Builtin.Dict.dictSlotArgs "__eq__" ⟨[.ref a,.ref b],[]⟩ >>= _) _ _ s
 refine wpAny_bind ?_
 unfold Builtin.Dict.dictSlotArgs
 refine wpAny_bind (wpAny_notOrdered_dict ta ?_)
 show wpAny _ _ (pure (Value.ref a,Value.ref b)) _ _ s
 refine wpAny_pure ?_
 refine wpAny_bind (wpAny_isInstance (T:="dict") tb PySem.F.sub_dict_dict ?_)
 simp only [Bool.not_true,Bool.false_eq_true,if_false]
 refine wpAny_bind (wpAny_pure (wpAny_bind (wpAny_pure ?_)))
 refine wpAny_bind (z205 ha hb hr da db hl hits ?_)
 refine wpAny_pure ⟨_,rfl,?_,?_⟩
 ·exact fun x=>nomatch x
 ·simpa using h
theorem dt_ne {a b:Addr}{xa xb:List (K × Addr × Value)}{Q:Value→Shared→Prop}(ta:s.TypeIs (.ref a) "dict") (tb:s.TypeIs (.ref b) "dict") (ha:(a == sysModules)=false) (hb:(b == sysModules)=false) (hu:A.units < cLine) (hr:knd.room A.in1)
  (da:s.heap.DictOfH knd a xa) (db:s.heap.DictOfH knd b xb) (hl:xa.length=xb.length) (hits:∀ x∈xa,(∃ (j:Nat) (p:Addr × Value),xb[j]?=some (x.1,p))∧∀ (j:Nat) (p:Addr × Value),xb[j]?=some (x.1,p)→SeqAt.EqAt A.in1 s x.2.2 p.2 true) (h:Q (.bool false) s):
  wpAny (model prog w) A (compareOp .NotEq (.ref a) (.ref b)) Q E s:=by
 refine wpAny_richCompare_same_room (op:=.NotEq) ta tb PySem.F.slot_dict_ne (wpAny_call_entry PySem.F.slot_dict_ne ta PySem.F.entry_dict_ne ?_ (PySem.F.args_dict_ne_2 _ _)) hu
 show wpAny _ _ (Builtin.Dict.dictSlotArgs "__ne__" ⟨[.ref a,.ref b],[]⟩ >>= _) _ _ s
 refine wpAny_bind ?_
 unfold Builtin.Dict.dictSlotArgs
 refine wpAny_bind (wpAny_notOrdered_dict ta ?_)
 show wpAny _ _ (pure (Value.ref a,Value.ref b)) _ _ s
 refine wpAny_pure ?_
 refine wpAny_bind (wpAny_isInstance (T:="dict") tb PySem.F.sub_dict_dict ?_)
 simp only [Bool.not_true,Bool.false_eq_true,if_false]
 refine wpAny_bind (wpAny_pure (wpAny_bind (wpAny_pure ?_)))
 refine wpAny_bind (z205 ha hb hr da db hl hits ?_)
 refine wpAny_pure ⟨_,rfl,?_,?_⟩
 ·exact fun x=>nomatch x
 ·simpa using h
end
theorem Paired.at1 {α β:Type}{R:α→β→Prop}:∀ {l:List α}{m:List β},Paired R l m→∀ {j:Nat}{a:α},l[j]?=some a→∃ b,m[j]?=some b∧R a b
 | _,_,.cons h r,0,_,e=>by cases e;exact⟨_,rfl,h⟩
 | _,_,.cons h r,j + 1,_,e=>by
  rw [List.getElem?_cons_succ] at e
  obtain⟨b,e1,e2⟩:=Paired.at1 r e
  exact⟨b,by rw [List.getElem?_cons_succ];exact e1,e2⟩
theorem Paired.at2 {α β:Type}{R:α→β→Prop}:∀ {l:List α}{m:List β},Paired R l m→∀ {j:Nat}{b:β},m[j]?=some b→∃ a,l[j]?=some a∧R a b
 | _,_,.cons h r,0,_,e=>by cases e;exact⟨_,rfl,h⟩
 | _,_,.cons h r,j + 1,_,e=>by
  rw [List.getElem?_cons_succ] at e
  obtain⟨b,e1,e2⟩:=Paired.at2 r e
  exact⟨b,by rw [List.getElem?_cons_succ];exact e1,e2⟩
theorem z399 {κ:Type} [DecidableEq κ]:∀ {kvs:List (κ × V)}{k:κ}{v:V},valV kvs k=some v→∃ j:Nat,kvs[j]?=some (k,v)
 | [],_,_,h=>by cases h
 | p::r,k,v,h=>by
  by_cases e:p.1=k
  ·rw [valV_pos e] at h
   cases h
   exact⟨0,by subst e;rfl⟩
  ·rw [valV_neg e] at h
   obtain⟨j,e2⟩:=z399 h
   exact⟨j + 1,by rw [List.getElem?_cons_succ];exact e2⟩
def rEqT (K:PySem.W.Frag) (neg:Bool):R2:=fun x y H Q=>∃ a b ka kb,x=.ref a∧y=.ref b∧H a=some (.dT ka)∧H b=some (.dT kb)∧ka.length=kb.length∧
 (∀ p∈ka,∃ v d,valV kb p.1=some v∧Den K H p.2 d∧Den K H v d∧SeqAt.shaped d=true)∧Q (.bl (!neg)) H
theorem z538 {X:Cx}{pins:List (Addr × Obj)}{σ:St}{H:Hp}{s:Shared}(I:Inv X pins σ H s) (hu:X.A.units + 64 + 1 < cLine){ka kb:List (List Key × V)}{xa xb:List (List Key × Addr × Value)}{b:Addr}{knd:HeapKind X.prog X.w (List Key)} (ra:KT H ka xa) (rb:KT H kb xb)
  (db:s.heap.DictOfH knd b xb) (h:∀ p∈ka,∃ v d,valV kb p.1=some v∧Den X.K H p.2 d∧Den X.K H v d∧SeqAt.shaped d=true):
  ∀ x∈xa,(∃ (j:Nat) (p:Addr × Value),xb[j]?=some (x.1,p))∧∀ (j:Nat) (p:Addr × Value),xb[j]?=some (x.1,p)→SeqAt.EqAt X.A.in1 s x.2.2 p.2 true:=by
 intro x hx
 obtain⟨i,hi⟩:=List.getElem?_of_mem hx
 obtain⟨p,hp,e1,_,e3⟩:=Paired.at2 ra hi
 obtain⟨v,d,hv,d1,d2,hs⟩:=h p (List.mem_of_getElem? hp)
 obtain⟨j0,hj0⟩:=z399 hv
 obtain⟨q,hq,f1,_,f3⟩:=Paired.at1 rb hj0
 obtain⟨q1,q2⟩:=q
 have f1:p.1=q1:=f1
 have hq':xb[j0]?=some (x.1,q2):=by rw [hq,← f1,e1]
 refine⟨⟨j0,q2,hq'⟩,fun j r hr=>?_⟩
 obtain⟨_,_,_,_,_,_,_,_,nd⟩:=db
 have ej:j=j0:=by
  have a1:(xb.map (·.1))[j]?=some x.1:=by rw [List.getElem?_map,hr];rfl
  have a2:(xb.map (·.1))[j0]?=some x.1:=by rw [List.getElem?_map,hq'];rfl
  exact(List.getElem?_inj (List.getElem?_eq_some_iff.mp a1).1 nd).mp (a1.trans a2.symm)
 subst ej
 rw [hq'] at hr
 cases hr
 obtain⟨as,r1⟩:=d1.reads I e3
 obtain⟨bs,r2⟩:=d2.reads I f3
 have k:=PySem.W.keq_at (A:=X.A) r1 r2 hs hs hu
 rw [z452 _ (SeqAt.canLay_of_shaped hs)] at k
 exact k
theorem op_eqT {X:Cx}(hu:X.A.units + 64 + 1 < cLine):OpR X (compareOp .Eq) (rEqT X.K false):=by
 intro pins s σ H x y v u Q I rx ry h
 obtain⟨a,b,ka,kb,rfl,rfl,ea,eb,hl,hh,q⟩:=h
 cases rx
 cases ry
 obtain⟨_,ha,xa,ra,da⟩:=dt_of I.hok ea
 obtain⟨_,hb,xb,rb,db⟩:=dt_of I.hok eb
 exact dt_eq da.typeIs db.typeIs ha hb (by omega) (tupleKind_room_in1 (by omega)) da db (by rw [← Paired.length ra,← Paired.length rb,hl]) (z538 I hu ra rb db hh) (fin_bl I q rfl)
theorem op_neT {X:Cx}(hu:X.A.units + 64 + 1 < cLine):OpR X (compareOp .NotEq) (rEqT X.K true):=by
 intro pins s σ H x y v u Q I rx ry h
 obtain⟨a,b,ka,kb,rfl,rfl,ea,eb,hl,hh,q⟩:=h
 cases rx
 cases ry
 obtain⟨_,ha,xa,ra,da⟩:=dt_of I.hok ea
 obtain⟨_,hb,xb,rb,db⟩:=dt_of I.hok eb
 exact dt_ne da.typeIs db.typeIs ha hb (by omega) (tupleKind_room_in1 (by omega)) da db (by rw [← Paired.length ra,← Paired.length rb,hl]) (z538 I hu ra rb db hh) (fin_bl I q rfl)
section
variable {prog:Program}{w:World}{A:Around}{E:Value→Shared→Prop}{s:Shared}
theorem z183 {d:Addr}{od:Obj}{es:Array DictEntry}{ep:Nat}{Q:Value→Shared→Prop}(hd:(d == sysModules)=false) (ho:s.heap.get? d=some od) (hc:od.ExactDict) (hdat:od.data=.dict es ep)
  (hQ:Q (.ref s.heap.objs.size) { s with heap:=s.heap.push { cls:=.type "dict_keyiterator",data:=.fields #[.ref d,.int 0 0,.int es.size 0,.int ep 0] } }):
  wpAny (model prog w) A (pyIter (.ref d)) Q E s:=by
 have hT:s.TypeIs (.ref d) "dict":=⟨od,ho,hc.1⟩
 refine wpAny_pyIter_slot hT F.slot_dict_iter (wpAny_call_entry F.slot_dict_iter hT F.entry_dict_iter ?_ (F.args_dict_iter_1 _))
 unfold Builtin.«dict.__iter__»
 refine wpAny_bind ?_
 unfold Builtin.Dict.dictSlotNone
 refine wpAny_bind (wpAny_notOrdered_dict hT ?_)
 show wpAny _ _ (pure (Value.ref d)) _ _ s
 refine wpAny_pure ?_
 show wpAny _ _ (Builtin.Dict.showsAll d >>= _) _ _ s
 unfold Builtin.Dict.showsAll
 rw [if_neg (by rw [hd];exact Bool.false_ne_true)]
 refine wpAny_bind (wpAny_pure ?_)
 refine wpAny_bind (wpAny_dictEntries ho hdat ?_)
 refine wpAny_bind (wpAny_dictEpoch ho hdat ?_)
 refine wpAny_bind (wpAny_newObj_type (wpAny_pure ⟨_,rfl,"dict_keyiterator",_,⟨_,Heap.get?_push_size _ rfl,rfl⟩,F.slot_dict_keyiterator_next.lookup,?_⟩))
 simpa [rawInt] using hQ
theorem z266 {it d:Addr}{i ep:Nat}{od:Obj}{es:Array DictEntry}{e:DictEntry}{Q:Option Value→Shared→Prop}(hit:s.heap.IsKeyIter it d i es.size ep) (hod:s.heap.get? d=some od) (hdd:od.data=.dict es ep)
  (hx:es[i]?=some e) (hQ:∀ h',h'.IsKeyIter it d (i + 1) es.size ep→Heap.SameBut it s.heap h'→Q (some e.key) { s with heap:=h' }):
  wpAny (model prog w) A (pyNext (.ref it)) Q E s:=by
 obtain⟨o,ho,hc,hd⟩:=id hit
 unfold pyNext
 refine wpAny_bind (wpAny_attempt (wpAny_callSpecial?_slot (name:=Str.ofString "__next__") hit.typeIs F.slot_dict_keyiterator_next
  (wpAny_call_entry F.slot_dict_keyiterator_next hit.typeIs F.entry_dict_keyiterator_next ?_ (F.args_dict_keyiterator_next_1 _))))
 refine wpAny_bind (wpAny_pure ?_)
 refine wpAny_bind ?_
 refine wpAny_bind ?_
 first | refine wpAny_bind (wpAny_typeNameOfWhole_keyiter hit.typeIs (wpAny_pure ?_)) | refine wpAny_bind (wpAny_typeNameOf_keyiter hit.typeIs (wpAny_pure ?_))
 refine wpAny_bind (wpAny_fieldsOf ho hd ?_)
 have hown:Builtin.Dict_items.ownsTuple "dict_keyiterator"=false:=by decide
 simp only [hown,Bool.false_eq_true,if_false]
 show wpAny _ _ (if (Value.ref d == Value.none)=true then _ else _) _ _ s
 rw [if_neg (show ¬ ((Value.ref d == Value.none)=true) from Bool.false_ne_true)]
 refine wpAny_bind (wpAny_pure ?_)
 refine wpAny_bind (wpAny_dictEntries hod hdd ?_)
 rw [if_neg (by simp)]
 refine wpAny_bind (wpAny_pure ?_)
 refine wpAny_bind (wpAny_dictEpoch hod hdd ?_)
 rw [if_neg (by simp)]
 refine wpAny_pure ?_
 simp only [show ¬ ((i:Int) < 0) from by omega,if_false,Int.toNat_natCast,hx]
 refine wpAny_bind ?_
 first | refine wpAny_bind (wpAny_typeNameOfWhole_keyiter hit.typeIs (wpAny_pure ?_)) | refine wpAny_bind (wpAny_typeNameOf_keyiter hit.typeIs (wpAny_pure ?_))
 refine wpAny_bind (wpAny_isOneOf_keyiter hit.typeIs ?_)
 show wpAny _ _ (setField (.ref it) 1 (rawInt ((i:Int) + 1)) >>= _) _ _ s
 refine wpAny_bind (wpAny_setField ho hd (by simp) ?_)
 have hit':(s.heap.update it (Obj.mapFields (·.setIfInBounds 1 (rawInt ((i:Int) + 1))))).IsKeyIter it d (i + 1) es.size ep:=
  ⟨_,Heap.get?_update_self _ ho (Obj.isFreed_of_fields (Obj.data_mapFields hd _)),(Obj.cls_mapFields ..).trans hc,by rw [Obj.data_mapFields hd];simp [rawInt]⟩
 refine wpAny_bind (wpAny_holding ?_)
 refine wpAny_bind (wpAny_isOneOf_keyiter (s:={ s with heap:=s.heap.update it (Obj.mapFields (·.setIfInBounds 1 (rawInt ((i:Int) + 1)))) }) hit'.typeIs ?_)
 show wpAny _ _ (pure e.key) _ _ _
 exact wpAny_pure (wpAny_pure ⟨_,rfl,wpAny_pure (hQ _ hit' (Heap.SameBut.update ..))⟩)
theorem z307 {it d:Addr}{i ep:Nat}{od:Obj}{es:Array DictEntry}{Q:Option Value→Shared→Prop}(hh:Hd A s.heap) (hit:s.heap.IsKeyIter it d i es.size ep) (hod:s.heap.get? d=some od) (hdd:od.data=.dict es ep)
  (hge:es.size≤i) (hQ:∀ h',Heap.ExtBut it s.heap h'→Q none { s with heap:=h' }):wpAny (model prog w) A (pyNext (.ref it)) Q E s:=by
 obtain⟨o,ho,hc,hd⟩:=id hit
 unfold pyNext
 refine wpAny_bind (wpAny_attempt (wpAny_callSpecial?_slot (name:=Str.ofString "__next__") hit.typeIs F.slot_dict_keyiterator_next
  (wpAny_call_entry F.slot_dict_keyiterator_next hit.typeIs F.entry_dict_keyiterator_next ?_ (F.args_dict_keyiterator_next_1 _))))
 refine wpAny_bind (wpAny_pure ?_)
 refine wpAny_bind ?_
 refine wpAny_bind ?_
 first | refine wpAny_bind (wpAny_typeNameOfWhole_keyiter hit.typeIs (wpAny_pure ?_)) | refine wpAny_bind (wpAny_typeNameOf_keyiter hit.typeIs (wpAny_pure ?_))
 refine wpAny_bind (wpAny_fieldsOf ho hd ?_)
 have hown:Builtin.Dict_items.ownsTuple "dict_keyiterator"=false:=by decide
 simp only [hown,Bool.false_eq_true,if_false]
 show wpAny _ _ (if (Value.ref d == Value.none)=true then _ else _) _ _ s
 rw [if_neg (show ¬ ((Value.ref d == Value.none)=true) from Bool.false_ne_true)]
 refine wpAny_bind (wpAny_pure ?_)
 refine wpAny_bind (wpAny_dictEntries hod hdd ?_)
 rw [if_neg (by simp)]
 refine wpAny_bind (wpAny_pure ?_)
 refine wpAny_bind (wpAny_dictEpoch hod hdd ?_)
 rw [if_neg (by simp)]
 refine wpAny_pure ?_
 simp only [show ¬ ((i:Int) < 0) from by omega,if_false,Int.toNat_natCast,Array.getElem?_eq_none hge]
 refine wpAny_bind ?_
 first | refine wpAny_bind (wpAny_typeNameOfWhole_keyiter hit.typeIs (wpAny_pure ?_)) | refine wpAny_bind (wpAny_typeNameOf_keyiter hit.typeIs (wpAny_pure ?_))
 show wpAny _ _ (setField (.ref it) 0 .none >>= _) _ _ s
 refine wpAny_bind (wpAny_setField ho hd (by simp) ?_)
 refine z124 (hh.update (A:=A) ho hc _) fun h' e k1 k2=>z128 k2 (hQ h' fun b o hb z=>k1 b o ?_)
 rw [Heap.get?_update_other _ _ (Ne.symm hb)]
 exact z
end
section
variable {X:Cx}{pins:List (Addr × Obj)}{σ:St}{H:Hp}{s:Shared}{a:Addr}
theorem Inv.re {u v:HO}(I:Inv X pins σ H s) (e:H a=some u) (nt:∀ xs,u≠.tup xs) (no:∀ y,u≠.own y) (nb:∀ ps,u≠.tbl ps) (nf:∀ o w,X.H₀ a≠some (.frz o w)) (new:ObjOk X.prog X.w (upd H a v) s.heap a v):Inv X pins σ (upd H a v) s:=by
 have ne:∀ {b:Addr},H b=none→b≠a:=fun{b} h z=>by rw [z,e] at h;cases h
 refine⟨I.ok,I.os,I.bare,⟨I.base.keep,I.base.slot,fun b o q n hx=>?_,I.base.there,fun b xs q=>?_,fun b o w q=>?_,fun b ps q=>?_⟩,I.loc,I.cell,?_,fun x c h=>?_,fun p hp=>?_,fun b o q=>?_,I.len⟩
 ·have z:=I.base.free b o q n hx
  rw [upd_ne (ne z)]
  exact z
 ·have z:=I.base.tups b xs q
  rw [upd_ne (fun h=>by rw [h,e] at z;exact nt xs (Option.some.inj z))]
  exact z
 ·have z:=I.base.frzs b o w q
  rw [upd_ne (fun h=>by rw [h] at q;exact nf o w q)]
  exact z
 ·obtain⟨more,z⟩:=I.base.tbls b ps q
  exact⟨more,by rw [upd_ne (fun h=>by rw [h,e] at z;exact nb _ (Option.some.inj z))];exact z⟩
 ·rw [upd_ne (ne I.free)]
  exact I.free
 ·rw [upd_ne (ne (I.freeC x c h))]
  exact I.freeC x c h
 ·obtain⟨z1,z2,z3⟩:=I.pin p hp
  exact⟨z1,by rw [upd_ne (ne z2)];exact z2,z3⟩
 ·by_cases hb:b=a
  ·subst hb
   rw [upd_same] at q
   cases q
   exact new
  ·rw [upd_ne hb] at q
   refine(I.hok b o q).stay (fun _ _ _ z=>z) (fun c z=>?_) fun c xs z=>?_
   ·rw [upd_ne (fun h=>by rw [h,e] at z;exact no _ (Option.some.inj z))]
    exact z
   ·rw [upd_ne (fun h=>by rw [h,e] at z;exact nt _ (Option.some.inj z))]
    exact z
theorem obj_dT {P:Program}{w:World}{h:Heap}{kvs:List (List Key × V)}{H':Hp}(x:ObjOk P w H h a (.dT kvs)) (hH:∀ b xs,H b=some (.tup xs)→H' b=some (.tup xs)):ObjOk P w H' h a (.dT kvs):=by
 obtain⟨z,y,xs,r,rest⟩:=x
 exact⟨z,y,xs,Paired.mapP r fun p q z=>⟨z.1,hH _ _ z.2.1,z.2.2⟩,rest⟩
theorem Inv.freeze {kvs:List (List Key × V)} (I:Inv X pins σ H s) (e:H a=some (.dT kvs)){o:Obj}(ho:s.heap.get? a=some o):Inv X pins σ (upd H a (.frz o (.dT kvs))) s:=by
 refine I.re e (fun _ z=>nomatch z) (fun _ z=>nomatch z) (fun _ z=>nomatch z) (fun o w z=>?_) ⟨ho,obj_dT (I.hok a _ e) fun b xs z=>?_⟩
 ·have:=I.base.frzs a o w z
  rw [e] at this
  cases this
 ·rw [upd_ne (ne_of z e (fun z=>nomatch z))]
  exact z
theorem Inv.thaw {kvs:List (List Key × V)}{o:Obj}(I:Inv X pins σ H s) (e:H a=some (.frz o (.dT kvs))) (nf:∀ o w,X.H₀ a≠some (.frz o w)):Inv X pins σ (upd H a (.dT kvs)) s:=by
 refine I.re e (fun _ z=>nomatch z) (fun _ z=>nomatch z) (fun _ z=>nomatch z) nf (obj_dT (I.hok a _ e).2 fun b xs z=>?_)
 rw [upd_ne (ne_of z e (fun z=>nomatch z))]
 exact z
end
def Itd (a:Addr) (o:Obj) (kvs:List (List Key × V)):It:=
 ⟨fun i H=>H a=some (.frz o (.dT kvs))∧i < kvs.length,fun i H x H'=>H'=H∧∃ b k v,x=.ref b∧kvs[i]?=some (k,v)∧H b=some (.tup (k.map kV)),fun i H=>H a=some (.frz o (.dT kvs))∧kvs.length≤i⟩
theorem z504 {P:Program}{w:World}{K:PySem.W.Frag}{tg:Expr}(a it:Addr) (o:Obj) (kvs:List (List Key × V)) (es:Array DictEntry) (ep:Nat) (hdd:o.data=.dict es ep):Turn P w K tg (Itd a o kvs) [it] it (fun i h=>h.IsKeyIter it a i es.size ep) where
 mem:=by simp
 obj:=fun i h st b hb=>by
  have e:b=it:=by simpa using hb
  subst e
  obtain⟨o,e,c,d⟩:=st
  exact⟨o,e,fun v z=>by rw [d] at z;cases z⟩
 keep:=fun i h h' st k=>st.at fun o e=>k it (by simp) o e
 item:=by
  intro X hP hw hK hc i pins s σ H E I hf st hg
  subst hP hw hK
  obtain⟨hq,hx⟩:=hg
  obtain⟨hod,z,hd,xs,rel,o',es',ep',ho',he1,he2,he3,he4⟩:=(show ObjOk X.prog X.w H s.heap a (.frz o (.dT kvs)) from I.hok a _ hq)
  rw [hod] at ho'
  cases ho'
  rw [hdd] at he2
  cases he2
  obtain⟨kv,hkv⟩:∃ kv,kvs[i]?=some kv:=⟨_,List.getElem?_eq_getElem hx⟩
  obtain⟨q,hq1,q1,q2,q3⟩:=Paired.at1 rel hkv
  have hes:es[i]?=some (entryOfKey (tupleKind (mixKind X.prog X.w)) q):=by rw [entry_at he3 i,hq1];rfl
  obtain⟨f0,f1,f2,f3,f4,f5⟩:=hf it (by simp)
  refine z266 st hod hdd hes fun h' st' sb=>?_
  have I1:Inv X pins σ H { s with heap:=h' }:=I.turned (t':=s.toks) (fun b o hb e=>(sb.2 b hb).trans e) f0 f1 f3 f4 f5
  obtain⟨o2,e,c,d⟩:=id st'
  exact⟨_,rfl,go_of (s:={ s with heap:=h' }) e c d (by decide) ⟨.ref q.2.1,H,I1,rfl,⟨rfl,q.2.1,kv.1,kv.2,rfl,hkv,q2⟩,st',fun b hb=>(hf b hb).1⟩⟩
 done:=by
  intro X hP hw hK hc i pins s σ H E I hf st hg
  subst hP hw hK
  obtain⟨hq,hx⟩:=hg
  obtain⟨hod,z,hd,xs,rel,o',es',ep',ho',he1,he2,he3,he4⟩:=(show ObjOk X.prog X.w H s.heap a (.frz o (.dT kvs)) from I.hok a _ hq)
  rw [hod] at ho'
  cases ho'
  rw [hdd] at he2
  cases he2
  have hsz:es.size=xs.length:=size_of_entries he3
  have hl:=Paired.length rel
  obtain⟨f0,f1,f2,f3,f4,f5⟩:=hf it (by simp)
  exact z307 (I.calm hc) st hod hdd (by omega) fun h' eb=>⟨rfl,I.turned (t':=s.toks) (fun b o hb e=>eb b o hb e) f0 f1 f3 f4 f5⟩
 self:=fun _ _ _ _ _ st h=>wpAny_pyIter_keyiter st h
def iDictT (te:TE):TI:=fun σ H R=>te σ H fun x H1=>∃ a kvs,x=.ref a∧H1 a=some (.dT kvs)∧∀ o,R (Itd a o kvs) (upd H1 a (.frz o (.dT kvs)))
theorem z589 {X:Cx}{tg l:Expr}{tl:TE}(hl:PE X l tl):PI X tg l (iDictT tl):=by
 intro pins s σ H R I h
 refine thn (hl pins s σ H _ I h) fun v s1 ⟨x,H1,I1,r1,q1⟩=>?_
 obtain⟨a,kvs,e,hq,q⟩:=q1
 subst e
 cases r1
 obtain⟨z,hd,xs,rel,dd⟩:=dt_of I1.hok hq
 obtain⟨o,es,ep,ho,hc,hdat,_⟩:=dd
 refine z183 hd ho hc hdat ?_
 have I2:=I1.freeze hq ho
 refine⟨s1.heap.objs.size,[s1.heap.objs.size],_,_,_,rfl,I2.kept (t':=s1.toks) fun b o e=>Heap.get?_push_of_some _ e,z504 a _ o kvs es ep hdat,⟨_,Heap.get?_push_size _ rfl,rfl,rfl⟩,fun b hb=>?_,q o⟩
 have e:b=s1.heap.objs.size:=by simpa using hb
 subst e
 exact I2.fpOk (Nat.le_refl _) (I2.hok.fresh (Nat.le_refl _))
def Ends.thaw (D:Ends) (a:Addr) (kvs:List (List Key × V)):Ends where
 nx:=fun σ H=>(∃ o,H a=some (.frz o (.dT kvs)))∧D.nx σ (upd H a (.dT kvs))
 rt:=fun v H=>(∃ o,H a=some (.frz o (.dT kvs)))∧D.rt v (upd H a (.dT kvs))
 bk:=fun σ H=>(∃ o,H a=some (.frz o (.dT kvs)))∧D.bk σ (upd H a (.dT kvs))
 ct:=fun σ H=>(∃ o,H a=some (.frz o (.dT kvs)))∧D.ct σ (upd H a (.dT kvs))
def tThaw (t:TS):TS:=fun D σ H=>∃ a kvs,H a=some (.dT kvs)∧t (D.thaw a kvs) σ H
theorem z644 {X:Cx}{st:Stmt}{t:TS}(h:PS X st t):PS X st (tThaw t):=by
 intro pins s σ H D I q
 obtain⟨a,kvs,e,q⟩:=q
 have nf:∀ o w,X.H₀ a≠some (.frz o w):=fun o w z=>by
  have:=I.base.frzs a o w z
  rw [e] at this
  cases this
 refine thn (h pins s σ H _ I q) fun f s' y=>?_
 cases f with
 | next=>obtain⟨σ',H',I',⟨o,z⟩,d⟩:=y;exact⟨σ',_,I'.thaw z nf,d⟩
 | brk=>obtain⟨σ',H',I',⟨o,z⟩,d⟩:=y;exact⟨σ',_,I'.thaw z nf,d⟩
 | cont=>obtain⟨σ',H',I',⟨o,z⟩,d⟩:=y;exact⟨σ',_,I'.thaw z nf,d⟩
 | ret u=>obtain⟨v,σ',H',I',rv,⟨o,z⟩,d⟩:=y;exact⟨v,σ',_,I'.thaw z nf,rv,d⟩
theorem z501 {a:Addr}{o:Obj}{kvs:List (List Key × V)}{g:TG}{tb:TS}{D:Ends}{σ:St}{H:Hp}(Pv:Nat→St→Hp→Prop) (h0:Pv 0 σ H) (hl:∀ i σ H,i≤kvs.length→Pv i σ H→H a=some (.frz o (.dT kvs)))
  (hs:∀ i k v b σ H,kvs[i]?=some (k,v)→H b=some (.tup (k.map kV))→Pv i σ H→g (.ref b) σ H fun σ2 H2=>tb { D with nx:=Pv (i + 1),ct:=Pv (i + 1),bk:=D.nx } σ2 H2) (hd:∀ σ H,Pv kvs.length σ H→D.nx σ H):
  ∃ W:Nat→Nat→St→Hp→Prop,(∃ m,W 0 m σ H)∧∀ i m σ H,W i m σ H→
   ((Itd a o kvs).stop i H∧D.nx σ H)∨((Itd a o kvs).go i H∧∃ N:St→Hp→Prop,(∀ σ' H',N σ' H'→∃ m',m' < m∧W (i + 1) m' σ' H')∧∀ x H',(Itd a o kvs).yld i H x H'→g x σ H' fun σ2 H2=>tb { D with nx:=N,ct:=N,bk:=D.nx } σ2 H2):=by
 refine⟨fun i m σ H=>m=kvs.length - i∧i≤kvs.length∧Pv i σ H,⟨kvs.length,by simp,Nat.zero_le _,h0⟩,?_⟩
 rintro i m σ H ⟨rfl,hi,p⟩
 by_cases hlt:i < kvs.length
 ·refine .inr ⟨⟨hl i σ H hi p,hlt⟩,Pv (i + 1),fun σ' H' p'=>⟨kvs.length - (i + 1),by omega,rfl,hlt,p'⟩,fun x H' y=>?_⟩
  obtain⟨e,b,k,v,e1,e2,e3⟩:=y
  subst e e1
  exact hs i k v b σ _ e2 e3 p
 ·have e:i=kvs.length:=by omega
  subst e
  exact .inl ⟨⟨hl _ σ H (Nat.le_refl _) p,Nat.le_refl _⟩,hd σ H p⟩
section
variable {prog:Program}{w:World}{d:Addr}
end
theorem hu65 {k:Nat}{A:Around}(r:Room k A):A.units + 64 + 1 < cLine:=by have:=r.un;omega
end L2
set_option Elab.async false
set_option linter.all false
set_option maxRecDepth 100000
namespace L2
open PySem PySem.Spec PyProof.Rows
section
variable {X:Cx}
end
end L2
set_option Elab.async false
set_option linter.all false
set_option maxRecDepth 100000
namespace L2
open PySem PySem.Spec PyProof.Rows
section
variable {prog:Program}{w:World}{K:Type} [DecidableEq K]{knd:KeyKind prog w K}{A:Around}{R:Result→Shared→Prop}
end
section
variable {prog:Program}{w:World}{K:Type} [DecidableEq K]{knd:KeyKind prog w K}{A:Around}{E:Value→Shared→Prop}{s:Shared}
end
section
variable {X:Cx}
end
end L2
set_option Elab.async false
set_option linter.all false
set_option maxRecDepth 100000
namespace L2
open PySem PySem.Spec PyProof.Rows
end L2
set_option Elab.async false
set_option linter.all false
set_option maxRecDepth 100000
namespace Wy
open PySem L2
def WayAt (H:Hp) (v:V) (b:Int) (cs:List Int):Prop:=∃ p q,v=.ref p∧H p=some (.tup [.int b,.ref q])∧H q=some (.tup (cs.map V.int))
theorem WayAt.same {H H':Hp}{v:V}{b:Int}{cs:List Int}(e:Same H H') (h:WayAt H v b cs):WayAt H' v b cs:=by
 obtain⟨p,q,h1,h2,h3⟩:=h
 exact⟨p,q,h1,e _ _ h2,e _ _ h3⟩
def idx (b:Int) (cs:List Int) (t:Int):Int:=if (cs.length:Int) - 1 < t - b then(cs.length:Int) - 1 else t - b
def plc (b:Int) (cs:List Int) (t:Int):V:=if t < b then .non else .int (cs.getD (idx b cs t).toNat 0)
theorem idx_in {b:Int}{cs:List Int}{t:Int}(h:b≤t) (hc:cs≠[]):0≤idx b cs t∧idx b cs t < cs.length:=by
 have:0 < cs.length:=List.length_pos_iff.mpr hc
 unfold idx
 split <;> omega
theorem plc_or (b:Int) (cs:List Int) (t:Int):plc b cs t=.non∨∃ z,plc b cs t=.int z:=by
 unfold plc
 split
 ·exact .inl rfl
 ·exact .inr ⟨_,rfl⟩
theorem z569 {b:Int}{cs:List Int}{t:Int}:plc b cs t=.non↔t < b:=by
 unfold plc
 split
 ·simp_all
 ·simp_all
theorem z334 {b:Int}{cs:List Int}{t t':Int}(hc:cs≠[]) (h:b + (cs.length:Int) - 1≤t) (h':b + (cs.length:Int) - 1≤t'):plc b cs t=plc b cs t':=by
 have hl:0 < cs.length:=List.length_pos_iff.mpr hc
 have e:idx b cs t=idx b cs t':=by
  unfold idx
  split <;> split <;> omega
 unfold plc
 rw [if_neg (by omega),if_neg (by omega),e]
def sAt:Str:="at"
def z607:Str:="through"
def mw (p p' q q':V):Option Str:=if p=q then some sAt else if p'=q∧q'=p then some z607 else none
theorem z617 (p p' q q':V):mw p p' q q'=mw q q' p p':=by
 unfold mw
 by_cases h:p=q
 ·rw [if_pos h,if_pos h.symm]
 ·rw [if_neg h,if_neg (show ¬ q=p from fun z=>h z.symm)]
  by_cases h2:p'=q∧q'=p
  ·rw [if_pos h2,if_pos ⟨h2.2,h2.1⟩]
  ·rw [if_neg h2,if_neg (fun z=>h2 ⟨z.2,z.1⟩)]
def mtAt (b1:Int) (c1:List Int) (b2:Int) (c2:List Int) (t:Int):Option Str:=mw (plc b1 c1 t) (plc b1 c1 (t + 1)) (plc b2 c2 t) (plc b2 c2 (t + 1))
def First (b1:Int) (c1:List Int) (b2:Int) (c2:List Int):Option (Int × Str)→Prop
 | none=>∀ t,b1≤t→b2≤t→mtAt b1 c1 b2 c2 t=none
 | some (t,w)=>b1≤t∧b2≤t∧mtAt b1 c1 b2 c2 t=some w∧∀ t',b1≤t'→b2≤t'→t' < t→mtAt b1 c1 b2 c2 t'=none
theorem First.uniq {b1:Int}{c1:List Int}{b2:Int}{c2:List Int}{o o':Option (Int × Str)} (h:First b1 c1 b2 c2 o) (h':First b1 c1 b2 c2 o'):o=o':=by
 cases o with
 | none=>
  cases o' with
  | none=>rfl
  | some x=>
   obtain⟨t,w⟩:=x
   obtain⟨h1,h2,h3,_⟩:=h'
   rw [h t h1 h2] at h3
   cases h3
 | some x=>
  obtain⟨t,w⟩:=x
  obtain⟨h1,h2,h3,h4⟩:=h
  cases o' with
  | none=>
   rw [h' t h1 h2] at h3
   cases h3
  | some y=>
   obtain⟨t',w'⟩:=y
   obtain⟨g1,g2,g3,g4⟩:=h'
   have e:t=t':=by
    rcases Int.lt_trichotomy t t' with z | z | z
    ·rw [g4 t h1 h2 z] at h3;cases h3
    ·exact z
    ·rw [h4 t' g1 g2 z] at g3;cases g3
   subst e
   rw [h3] at g3
   cases g3
   rfl
theorem First.comm {b1:Int}{c1:List Int}{b2:Int}{c2:List Int}{o:Option (Int × Str)} (h:First b1 c1 b2 c2 o):First b2 c2 b1 c1 o:=by
 have e:∀ t,mtAt b2 c2 b1 c1 t=mtAt b1 c1 b2 c2 t:=fun t=>z617 _ _ _ _
 cases o with
 | none=>exact fun t h1 h2=>by rw [e];exact h t h2 h1
 | some x=>
  obtain⟨t,w⟩:=x
  obtain⟨h1,h2,h3,h4⟩:=h
  exact⟨h2,h1,by rw [e];exact h3,fun t' g1 g2 g3=>by rw [e];exact h4 t' g2 g1 g3⟩
theorem z643 {b1:Int}{c1:List Int}{b2:Int}{c2:List Int}{e t:Int}(hc1:c1≠[]) (hc2:c2≠[]) (h1:b1 + (c1.length:Int) - 1≤e) (h2:b2 + (c2.length:Int) - 1≤e) (ht:e≤t) (h:mtAt b1 c1 b2 c2 e=none):mtAt b1 c1 b2 c2 t=none:=by
 have a1:plc b1 c1 t=plc b1 c1 e:=z334 hc1 (by omega) h1
 have a2:plc b1 c1 (t + 1)=plc b1 c1 (e + 1):=z334 hc1 (by omega) (by omega)
 have a3:plc b2 c2 t=plc b2 c2 e:=z334 hc2 (by omega) h2
 have a4:plc b2 c2 (t + 1)=plc b2 c2 (e + 1):=z334 hc2 (by omega) (by omega)
 unfold mtAt at h ⊢
 rw [a1,a2,a3,a4]
 exact h
theorem First.none_of {b1:Int}{c1:List Int}{b2:Int}{c2:List Int}{e:Int}(hc1:c1≠[]) (hc2:c2≠[]) (h1:b1 + (c1.length:Int) - 1≤e) (h2:b2 + (c2.length:Int) - 1≤e) (h:∀ t,b1≤t→b2≤t→t≤e→mtAt b1 c1 b2 c2 t=none):First b1 c1 b2 c2 none:=by
 have l1:0 < c1.length:=List.length_pos_iff.mpr hc1
 have l2:0 < c2.length:=List.length_pos_iff.mpr hc2
 intro t g1 g2
 by_cases ht:t≤e
 ·exact h t g1 g2 ht
 ·exact z643 hc1 hc2 h1 h2 (by omega) (h e (by omega) (by omega) (Int.le_refl _))
def shiftO (d:Int):Option (Int × Str)→Option (Int × Str)
 | none=>none
 | some (t,w)=>some (t + d,w)
def MeetAt (H:Hp) (r:V):Option (Int × Str)→Prop
 | none=>r=.non
 | some (t,w)=>∃ p,r=.ref p∧H p=some (.tup [.int t,.str w])
end Wy
set_option Elab.async false
set_option linter.all false
set_option maxRecDepth 100000
namespace Fl
open PySem L2
def sgOk (c:Nat):Prop:=c=46∨c=35∨c=43∨c=126∨c=124
structure Good (w h:Nat) (sg:List Nat):Prop where
 w0:1≤w
 w1:w≤10
 h0:1≤h
 h1:h≤10
 len:sg.length=w * h
 ok:∀ c∈sg,sgOk c
 cell:∃ c∈sg,c≠35
def txt (cs:List Nat):Str:=⟨cs.toArray⟩
def lineOf (w:Nat) (sg:List Nat) (j:Nat):Str:=txt ((sg.drop (w * j)).take w)
def linesOf (w h:Nat) (sg:List Nat):List Str:=(List.range h).map (lineOf w sg)
theorem len100 {w h:Nat}{sg:List Nat}(g:Good w h sg):1≤sg.length∧sg.length≤100:=by
 rw [g.len]
 exact⟨Nat.mul_le_mul g.w0 g.h0,Nat.mul_le_mul g.w1 g.h1⟩
theorem z243 (cs:List Nat):(txt cs).length=cs.length:=by simp [txt,Str.length]
theorem z139 (cs:List Nat):(txt cs).cps.toList=cs:=by simp [txt]
theorem z541 {w h:Nat}{j:Nat}(hj:j < h):w * j + w≤w * h:=by
 have:=Nat.mul_le_mul_left w (show j + 1≤h from hj)
 rw [Nat.mul_add,Nat.mul_one] at this
 exact this
theorem z82 {w h:Nat}{sg:List Nat}(g:Good w h sg){j:Nat}(hj:j < h):(lineOf w sg j).length=w:=by
 have:=z541 (w:=w) hj
 have:=g.len
 unfold lineOf
 rw [z243,List.length_take,List.length_drop]
 omega
theorem z58 (w h:Nat) (sg:List Nat):(linesOf w h sg).length=h:=by simp [linesOf]
theorem z41 {w h:Nat}{sg:List Nat}{j:Nat}(hj:j < h):(linesOf w h sg)[j]?=some (lineOf w sg j):=by
 simp [linesOf,hj]
theorem z289 (w:Nat) (sg:List Nat):∀ h:Nat,((List.range h).map fun j=>(sg.drop (w * j)).take w).flatten=sg.take (w * h)
 | 0=>by simp
 | h + 1=>by
  rw [List.range_succ,List.map_append,List.flatten_append,z289 w sg h,Nat.mul_add,Nat.mul_one]
  simp [List.take_add]
theorem z360:∀ ys:List Str,(Txt.join (Str.ofString "") ys).cps.toList=(ys.map (·.cps.toList)).flatten:=by
 have e:∀ ys:List Str,(Str.join (Str.ofString "") ys).cps.toList=(ys.map (·.cps.toList)).flatten:=by
  intro ys
  have e0:(Str.ofString "").cps.toList=[]:=by decide +kernel
  induction ys with
  | nil=>rfl
  | cons x r ih=>
   cases r with
   | nil=>simp [Str.join]
   | cons y r=>
    show (x++Str.ofString ""++Str.join (Str.ofString "") (y::r)).cps.toList=_
    rw [z186,z186,e0,ih]
    simp
 intro ys
 show (Builtin.Str.glued (Str.ofString "") ys).cps.toList=_
 rw [StrLaws.glued_eq_join,e]
theorem z272 {w h:Nat}{sg:List Nat}(g:Good w h sg):Txt.join (Str.ofString "") (linesOf w h sg)=txt sg:=by
 refine z339 ?_
 rw [z360,z139]
 unfold linesOf
 rw [List.map_map]
 have:((fun x:Str=>x.cps.toList) ∘ lineOf w sg)=fun j=>(sg.drop (w * j)).take w:=by
  funext j
  exact z139 _
 rw [this,z289,← g.len,List.take_length]
theorem z330 {w h:Nat}{sg:List Nat}(g:Good w h sg):((linesOf w h sg).map (·.length)).sum + (linesOf w h sg).length * (Str.ofString "").length≤16777216:=by
 have e0:(Str.ofString "").length=0:=by decide +kernel
 have:∀ n,n≤h→(((List.range n).map (lineOf w sg)).map (·.length)).sum=n * w:=by
  intro n
  induction n with
  | zero=>intro _;simp
  | succ n ih=>
   intro hn
   rw [List.range_succ,List.map_append,List.map_append,List.sum_append,ih (by omega)]
   simp [z82 g (show n < h by omega),Nat.add_mul]
 unfold linesOf
 rw [e0,this h (Nat.le_refl _)]
 have:=Nat.mul_le_mul g.h1 g.w1
 omega
theorem z626 {w h:Nat}{sg:List Nat}(g:Good w h sg){j:Nat}:∀ c∈(lineOf w sg j).cps.toList,sgOk c:=by
 intro c hc
 unfold lineOf at hc
 rw [z139] at hc
 exact g.ok c (List.mem_of_mem_drop (List.mem_of_mem_take hc))
def at_ (sg:List Nat) (i:Int):Nat:=sg.getD i.toNat 0
def hasI (sg:List Nat) (i:Int):Bool:=decide (0≤i) && decide (i < sg.length) && !decide (at_ sg i=35)
def hasV (sg:List Nat):V→Bool
 | .int i=>hasI sg i
 | _=>false
def places (sg:List Nat):List Int:=(List.range sg.length).map fun i=>((i:Nat):Int)
def cellsOf (sg:List Nat):List Int:=(places sg).filter fun i=>!decide (at_ sg i=35)
theorem z144 {sg:List Nat}{i:Int}:i∈places sg↔0≤i∧i < sg.length:=by
 unfold places
 rw [List.mem_map]
 constructor
 ·rintro⟨j,hj,rfl⟩
  have:=List.mem_range.mp hj
  omega
 ·intro h
  exact⟨i.toNat,List.mem_range.mpr (by omega),by omega⟩
theorem z512 (sg:List Nat):cellsOf sg=(places sg).filter (hasI sg):=by
 unfold cellsOf
 refine List.filter_congr fun i hi=>?_
 have:=z144.mp hi
 unfold hasI
 rw [decide_eq_true this.1,decide_eq_true this.2]
 rfl
theorem z361 {sg:List Nat}{i:Int}:i∈cellsOf sg↔hasI sg i=true:=by
 rw [z512,List.mem_filter,z144]
 unfold hasI
 simp only [Bool.and_eq_true,decide_eq_true_eq]
 constructor
 ·intro h;exact h.2
 ·intro h;exact⟨h.1,h⟩
def nearOf (w:Nat) (c:Int):List Int:=[c - w]++(if c % w > 0 then [c - 1] else [])++(if c % w < (w:Int) - 1 then [c + 1] else [])++[c + w]
def v2 (w:Nat) (sg:List Nat) (c:Int):List Int:=(nearOf w c).filter (hasI sg)
theorem z655 {w h:Nat}{sg:List Nat}(g:Good w h sg){c:Int}(c0:0≤c) (c1:c < sg.length):(c / w).toNat < h∧0≤c / w∧0≤c % w∧c % w < w∧(lineOf w sg (c / w).toNat).cps.toList[(c % w).toNat]?=some (at_ sg c):=by
 have w0:(0:Int) < w:=by have:=g.w0;omega
 have q0:=Int.emod_nonneg c (show (w:Int)≠0 by omega)
 have q1:=Int.emod_lt_of_pos c w0
 have qd:=Int.mul_ediv_add_emod c w
 have d0:=Int.ediv_nonneg c0 (show (0:Int)≤w by omega)
 obtain⟨j,hj⟩:=Int.eq_ofNat_of_zero_le d0
 obtain⟨r,hr⟩:=Int.eq_ofNat_of_zero_le q0
 rw [hj,hr] at qd ⊢
 rw [hr] at q1
 have len:=g.len
 have hc:c=((w * j + r:Nat):Int):=by rw [← qd];simp
 have hjh:j < h:=by
  have:w * j < w * h:=by omega
  exact Nat.lt_of_mul_lt_mul_left this
 refine⟨by simpa using hjh,by omega,by omega,q1,?_⟩
 unfold lineOf at_
 rw [z139,hc]
 simp only [Int.toNat_natCast]
 rw [List.getElem?_take_of_lt (by omega),List.getElem?_drop]
 have:w * j + r < sg.length:=by omega
 simp [this]
end Fl
set_option Elab.async false
set_option linter.all false
set_option maxRecDepth 100000
namespace L2
open PySem PySem.Spec PyProof.Rows
theorem z539 {P:Program}{w:World}{k:Key}{u:Value}(h:(mixKind P w).is k u=true):RelV (kV k) u:=by
 cases k with
 | inl i=>
  cases u <;> simp_all [mixKind,keyIs,Value.isInt,kV,RelV]
 | inr x=>
  cases u <;> simp_all [mixKind,keyIs,Value.isStrOf,kV,RelV]
section
variable {X:Cx}{pins:List (Addr × Obj)}{σ:St}{H:Hp}{s:Shared}{a:Addr}
theorem Inv.freezeK {kvs:List (Key × V)} (I:Inv X pins σ H s) (e:H a=some (.dK kvs)){o:Obj}(ho:s.heap.get? a=some o):Inv X pins σ (upd H a (.frz o (.dK kvs))) s:=by
 refine I.re e (fun _ z=>nomatch z) (fun _ z=>nomatch z) (fun _ z=>nomatch z) (fun o w z=>?_) ⟨ho,(show ObjOk X.prog X.w H s.heap a (.dK kvs) from I.hok a _ e)⟩
 have:=I.base.frzs a o w z
 rw [e] at this
 cases this
theorem Inv.thawK {kvs:List (Key × V)}{o:Obj}(I:Inv X pins σ H s) (e:H a=some (.frz o (.dK kvs))) (nf:∀ o w,X.H₀ a≠some (.frz o w)):Inv X pins σ (upd H a (.dK kvs)) s:=
 I.re e (fun _ z=>nomatch z) (fun _ z=>nomatch z) (fun _ z=>nomatch z) nf (show ObjOk X.prog X.w (upd H a (.dK kvs)) s.heap a (.dK kvs) from(show ObjOk X.prog X.w H s.heap a (.frz o (.dK kvs)) from I.hok a _ e).2)
end
def Itk (a:Addr) (o:Obj) (kvs:List (Key × V)):It:=
 ⟨fun i H=>H a=some (.frz o (.dK kvs))∧i < kvs.length,fun i H x H'=>H'=H∧∃ k v,x=kV k∧kvs[i]?=some (k,v),fun i H=>H a=some (.frz o (.dK kvs))∧kvs.length≤i⟩
theorem pairs_at {P:Program}{w:World}:∀ {es:List DictEntry}{vs:List (Key × Value)},Pairs (mixKind P w) es vs→∀ {i:Nat}{q:Key × Value},vs[i]?=some q→∃ e,es[i]?=some e∧(mixKind P w).is q.1 e.key=true
 | _,_,.cons h _ _,0,_,e=>by cases e;exact⟨_,rfl,h⟩
 | _,_,.cons _ _ r,i + 1,_,e=>by
  rw [List.getElem?_cons_succ] at e
  obtain⟨x,e1,e2⟩:=pairs_at r e
  exact⟨x,by rw [List.getElem?_cons_succ];exact e1,e2⟩
theorem z275 {P:Program}{w:World}{K:PySem.W.Frag}{tg:Expr}(a it:Addr) (o:Obj) (kvs:List (Key × V)) (es:Array DictEntry) (ep:Nat) (hdd:o.data=.dict es ep):Turn P w K tg (Itk a o kvs) [it] it (fun i h=>h.IsKeyIter it a i es.size ep) where
 mem:=by simp
 obj:=fun i h st b hb=>by
  have e:b=it:=by simpa using hb
  subst e
  obtain⟨o,e,c,d⟩:=st
  exact⟨o,e,fun v z=>by rw [d] at z;cases z⟩
 keep:=fun i h h' st k=>st.at fun o e=>k it (by simp) o e
 item:=by
  intro X hP hw hK hc i pins s σ H E I hf st hg
  subst hP hw hK
  obtain⟨hq,hx⟩:=hg
  obtain⟨hod,z,hd,vs,rel,o',es',ep',ho',he1,he2,he3,he4,he5⟩:=(show ObjOk X.prog X.w H s.heap a (.frz o (.dK kvs)) from I.hok a _ hq)
  rw [hod] at ho'
  cases ho'
  rw [hdd] at he2
  cases he2
  obtain⟨kv,hkv⟩:∃ kv,kvs[i]?=some kv:=⟨_,List.getElem?_eq_getElem hx⟩
  obtain⟨q,hq1,q1,q2⟩:=Paired.at1 rel hkv
  obtain⟨en,hen,his⟩:=pairs_at he4 hq1
  have hes:es[i]?=some en:=by simpa using hen
  obtain⟨f0,f1,f2,f3,f4,f5⟩:=hf it (by simp)
  refine z266 st hod hdd hes fun h' st' sb=>?_
  have I1:Inv X pins σ H { s with heap:=h' }:=I.turned (t':=s.toks) (fun b o hb e=>(sb.2 b hb).trans e) f0 f1 f3 f4 f5
  obtain⟨o2,e,c,d⟩:=id st'
  exact⟨_,rfl,go_of (s:={ s with heap:=h' }) e c d (by decide) ⟨kV q.1,H,I1,z539 his,⟨rfl,kv.1,kv.2,by rw [q1],hkv⟩,st',fun b hb=>(hf b hb).1⟩⟩
 done:=by
  intro X hP hw hK hc i pins s σ H E I hf st hg
  subst hP hw hK
  obtain⟨hq,hx⟩:=hg
  obtain⟨hod,z,hd,vs,rel,o',es',ep',ho',he1,he2,he3,he4,he5⟩:=(show ObjOk X.prog X.w H s.heap a (.frz o (.dK kvs)) from I.hok a _ hq)
  rw [hod] at ho'
  cases ho'
  rw [hdd] at he2
  cases he2
  have hsz:=he4.length
  have hl:=Paired.length rel
  obtain⟨f0,f1,f2,f3,f4,f5⟩:=hf it (by simp)
  exact z307 (I.calm hc) st hod hdd (by simp only [Array.length_toList] at hsz;omega) fun h' eb=>⟨rfl,I.turned (t':=s.toks) (fun b o hb e=>eb b o hb e) f0 f1 f3 f4 f5⟩
 self:=fun _ _ _ _ _ st h=>wpAny_pyIter_keyiter st h
def iDictK (te:TE):TI:=fun σ H R=>te σ H fun x H1=>∃ a kvs,x=.ref a∧((H1 a=some (.dK kvs)∧∀ o,R (Itk a o kvs) (upd H1 a (.frz o (.dK kvs))))∨∃ o,H1 a=some (.frz o (.dK kvs))∧R (Itk a o kvs) H1)
theorem z408 {X:Cx}{tg l:Expr}{tl:TE}(hl:PE X l tl):PI X tg l (iDictK tl):=by
 intro pins s σ H R I h
 refine thn (hl pins s σ H _ I h) fun v s1 ⟨x,H1,I1,r1,q1⟩=>?_
 obtain⟨a,kvs,e,q⟩:=q1
 subst e
 cases r1
 rcases q with ⟨hq,q⟩ | ⟨o,hq,q⟩
 ·obtain⟨z,hd,vs,rel,dd⟩:=dk_of I1.hok hq
  obtain⟨o,es,ep,ho,hc,hdat,_⟩:=dd
  refine z183 hd ho hc hdat ?_
  have I2:=I1.freezeK hq ho
  refine⟨s1.heap.objs.size,[s1.heap.objs.size],_,_,_,rfl,I2.kept (t':=s1.toks) fun b o e=>Heap.get?_push_of_some _ e,z275 a _ o kvs es ep hdat,⟨_,Heap.get?_push_size _ rfl,rfl,rfl⟩,fun b hb=>?_,q o⟩
  have e:b=s1.heap.objs.size:=by simpa using hb
  subst e
  exact I2.fpOk (Nat.le_refl _) (I2.hok.fresh (Nat.le_refl _))
 ·obtain⟨ho,z,hd,vs,rel,o',es,ep,ho',hc,hdat,_⟩:=(show ObjOk X.prog X.w H1 s1.heap a (.frz o (.dK kvs)) from I1.hok a _ hq)
  rw [ho] at ho'
  cases ho'
  refine z183 hd ho hc hdat ?_
  refine⟨s1.heap.objs.size,[s1.heap.objs.size],_,_,_,rfl,I1.kept (t':=s1.toks) fun b o e=>Heap.get?_push_of_some _ e,z275 a _ o kvs es ep hdat,⟨_,Heap.get?_push_size _ rfl,rfl,rfl⟩,fun b hb=>?_,q⟩
  have e:b=s1.heap.objs.size:=by simpa using hb
  subst e
  exact I1.fpOk (Nat.le_refl _) (I1.hok.fresh (Nat.le_refl _))
def Ends.thawK (D:Ends) (a:Addr) (kvs:List (Key × V)):Ends where
 nx:=fun σ H=>(∃ o,H a=some (.frz o (.dK kvs)))∧D.nx σ (upd H a (.dK kvs))
 rt:=fun v H=>(∃ o,H a=some (.frz o (.dK kvs)))∧D.rt v (upd H a (.dK kvs))
 bk:=fun σ H=>(∃ o,H a=some (.frz o (.dK kvs)))∧D.bk σ (upd H a (.dK kvs))
 ct:=fun σ H=>(∃ o,H a=some (.frz o (.dK kvs)))∧D.ct σ (upd H a (.dK kvs))
def tThawK (t:TS):TS:=fun D σ H=>(∃ a kvs,H a=some (.dK kvs)∧t (D.thawK a kvs) σ H)∨t D σ H
theorem z576 {X:Cx}{st:Stmt}{t:TS}(h:PS X st t):PS X st (tThawK t):=by
 intro pins s σ H D I q
 rcases q with ⟨a,kvs,e,q⟩ | q
 ·have nf:∀ o w,X.H₀ a≠some (.frz o w):=fun o w z=>by
   have:=I.base.frzs a o w z
   rw [e] at this
   cases this
  refine thn (h pins s σ H _ I q) fun f s' y=>?_
  cases f with
  | next=>obtain⟨σ',H',I',⟨o,z⟩,d⟩:=y;exact⟨σ',_,I'.thawK z nf,d⟩
  | brk=>obtain⟨σ',H',I',⟨o,z⟩,d⟩:=y;exact⟨σ',_,I'.thawK z nf,d⟩
  | cont=>obtain⟨σ',H',I',⟨o,z⟩,d⟩:=y;exact⟨σ',_,I'.thawK z nf,d⟩
  | ret u=>obtain⟨v,σ',H',I',rv,⟨o,z⟩,d⟩:=y;exact⟨v,σ',_,I'.thawK z nf,rv,d⟩
 ·exact h pins s σ H D I q
def tThawE (t:TE):TE:=fun σ H Q=>(∃ a kvs,H a=some (.dK kvs)∧t σ H fun v H'=>(∃ o,H' a=some (.frz o (.dK kvs)))∧Q v (upd H' a (.dK kvs)))∨t σ H Q
theorem z579 {X:Cx}{e:Expr}{t:TE}(h:PE X e t):PE X e (tThawE t):=by
 intro pins s σ H Q I q
 rcases q with ⟨a,kvs,e',q⟩ | q
 ·have nf:∀ o w,X.H₀ a≠some (.frz o w):=fun o w z=>by
   have:=I.base.frzs a o w z
   rw [e'] at this
   cases this
  refine thn (h pins s σ H _ I q) fun u s' ⟨v,H',I',rv,⟨o,z⟩,d⟩=>?_
  exact⟨v,_,I'.thawK z nf,rv,d⟩
 ·exact h pins s σ H Q I q
theorem z482 {a:Addr}{o:Obj}{kvs:List (Key × V)}{H:Hp}(h:H a=some (.frz o (.dK kvs))):SrcIs (Itk a o kvs) H (kvs.map fun kv=>kV kv.1):=
 ⟨fun i hi=>⟨h,by simpa using hi⟩,fun i x H' hi y=>⟨y.1,by
  obtain⟨_,k,v,e,hk⟩:=y
  rw [List.getElem?_map,hk,e]
  rfl⟩,⟨h,by simp⟩⟩
theorem z481 {a:Addr}{o:Obj}{kvs:List (Key × V)}{g:TG}{tb:TS}{D:Ends}{σ:St}{H:Hp}(Pv:Nat→St→Hp→Prop) (h0:Pv 0 σ H) (hl:∀ i σ H,i≤kvs.length→Pv i σ H→H a=some (.frz o (.dK kvs)))
  (hs:∀ i k v σ H,kvs[i]?=some (k,v)→Pv i σ H→g (kV k) σ H fun σ2 H2=>tb { D with nx:=Pv (i + 1),ct:=Pv (i + 1),bk:=D.nx } σ2 H2) (hd:∀ σ H,Pv kvs.length σ H→D.nx σ H):
  ∃ W:Nat→Nat→St→Hp→Prop,(∃ m,W 0 m σ H)∧∀ i m σ H,W i m σ H→
   ((Itk a o kvs).stop i H∧D.nx σ H)∨((Itk a o kvs).go i H∧∃ N:St→Hp→Prop,(∀ σ' H',N σ' H'→∃ m',m' < m∧W (i + 1) m' σ' H')∧∀ x H',(Itk a o kvs).yld i H x H'→g x σ H' fun σ2 H2=>tb { D with nx:=N,ct:=N,bk:=D.nx } σ2 H2):=by
 refine⟨fun i m σ H=>m=kvs.length - i∧i≤kvs.length∧Pv i σ H,⟨kvs.length,by simp,Nat.zero_le _,h0⟩,?_⟩
 rintro i m σ H ⟨rfl,hi,p⟩
 by_cases hlt:i < kvs.length
 ·refine .inr ⟨⟨hl i σ H hi p,hlt⟩,Pv (i + 1),fun σ' H' p'=>⟨kvs.length - (i + 1),by omega,rfl,hlt,p'⟩,fun x H' y=>?_⟩
  obtain⟨e,k,v,e1,e2⟩:=y
  subst e e1
  exact hs i k v σ _ e2 p
 ·have e:i=kvs.length:=by omega
  subst e
  exact .inl ⟨⟨hl _ σ H (Nat.le_refl _) p,Nat.le_refl _⟩,hd σ H p⟩
theorem Inv.sorted {X:Cx}{pins:List (Addr × Obj)}{σ:St}{H:Hp}{s:Shared}{h':Heap}{tk:Nat}{a e:Nat}{out:Array Value}{ms:List Int}(I:Inv X pins σ H s) (hk:∀ b o,s.heap.get? b=some o→h'.get? b=some o) (ha:s.heap.objs.size≤a)
  (hm:IntsAre out.toList ms) (hz:ms.length≤sizeLine) (ho:h'.get? a=some (seqObj "list" out e)):Inv X pins σ (upd H a (.lst (ms.map V.int))) { s with heap:=h',toks:=tk }:=
 I.laid (t':=tk) hk ha (show ObjOk X.prog X.w _ h' _ (.lst (ms.map V.int)) from⟨by rw [List.length_map];exact hz,out.toList,e,vals_ints hm,by rw [ho]⟩)
section
variable {prog:Program}{w:World}{A:Around}{E:Value→Shared→Prop}{s:Shared}{K:Type} [DecidableEq K]{knd:KeyKind prog w K}{d:Addr}{kvs:List (K × Value)}{ep:Nat}
theorem z298 {Q:List Value→Shared→Prop}(hh:A.handled=none) (lo:(d == sysModules)=false) (hd:s.heap.DictAt knd d kvs ep) (hn:kvs.length≤sizeLine)
  (h:∀ (h':Heap) tk (vs:List Value),(∀ b o,s.heap.get? b=some o→h'.get? b=some o)→s.heap.objs.size < h'.objs.size→vs.length=kvs.length→(∀ (j:Nat) (v:Value),vs[j]?=some v→∃ k x,kvs[j]?=some (k,x)∧knd.is k v=true)→Q vs { s with heap:=h',toks:=tk }):
  wpAny (model prog w) A (collect (.ref d)) Q E s:=by
 have lt:=hd.lt_size
 have hS:(s.heap.push (seqObj "list" #[] 0)).get? s.heap.objs.size=some (seqObj "list" #[] 0):=Heap.get?_push_size _ rfl
 have hd':(s.heap.push (seqObj "list" #[] 0)).DictAt knd d kvs ep:=hd.push _
 unfold collect
 refine wpAny_bind (wpAny_runValue (codeAny_builtin entry_proto_collect' (wpAny_bind (wpAny_newList (wpAny_pure ⟨Code.quiet_builtin _ (by decide +kernel),codeAny_builtin entry_list_iadd' ?_⟩)))))
 show wpAny (model prog w) A.in1 (Builtin.List.listExtendWith (.ref s.heap.objs.size) (.ref d) (.ref s.heap.objs.size)) _ _ _
 have lay:∀ {h':Heap}{tk:Nat}{acc:Array Value}{c:Nat},(∀ b o,b≠s.heap.objs.size→(s.heap.push (seqObj "list" #[] 0)).get? b=some o→h'.get? b=some o)→h'.get? s.heap.objs.size=some { cls:=.type "list",dict:=none,data:=.seq acc c,slots:=#[] }→
   ItemsOf (fun i v=>∃ k x,kvs[i]?=some (k,x)∧knd.is k v=true) acc kvs.length→Q acc.toList { s with heap:=h',toks:=tk }:=fun{h'} {tk} {acc} {c} hk hl hacc=>
  h h' tk acc.toList (fun b o hb=>hk b o (Nat.ne_of_lt (Heap.lt_size hb)) (Heap.get?_push_of_some _ hb)) (Heap.lt_size hl) (by rw [Array.length_toList];exact hacc.1) fun j v e=>hacc.2 j v (by simpa using e)
 have R:=PySem.W.kdl_extend (A:=A) (s:={ s with heap:=s.heap.push (seqObj "list" #[] 0) }) (R:=fun r s'=>r=.ok (.ret (.ref s.heap.objs.size))∧∃ acc c,s'.heap.get? s.heap.objs.size=some { cls:=.type "list",dict:=none,data:=.seq acc c,slots:=#[] }∧Q acc.toList s')
  (PySem.W.kdl_dict lo) hh hd' s.heap.objs.size (Nat.ne_of_gt lt) (Nat.ne_of_gt lt) (.ref s.heap.objs.size) 0 hS (fun h' tk acc c hk hl hacc=>⟨rfl,acc,c,hl,lay hk hl hacc⟩) hn
 refine wpAny_mono R (fun f s' y=>?_) fun e s' y=>by cases y.1
 cases f with
 | done f=>
  obtain⟨e,acc,c,hl,q⟩:=y
  cases e
  exact wpAny_bind (wpAny_load hl (wpAny_pure q))
 | again c'=>
  refine⟨y.1,codeAny_mono y.2 fun r s2 z=>?_⟩
  obtain⟨e,acc,c,hl,q⟩:=z
  subst e
  exact wpAny_bind (wpAny_load hl (wpAny_pure q))
theorem z315 {ns:List Int}{Q:Value→Shared→Prop}(hh:A.handled=none) (lo:(d == sysModules)=false) (hd:s.heap.DictAt knd d kvs ep) (hn:kvs.length < 64)
  (hI:∀ vs:List Value,vs.length=kvs.length→(∀ (j:Nat) (v:Value),vs[j]?=some v→∃ k x,kvs[j]?=some (k,x)∧knd.is k v=true)→IntsAre vs ns)
  (h:∀ (h':Heap) (tk:Nat) (a e:Nat) (out:Array Value) (ms:List Int),(∀ b o,s.heap.get? b=some o→h'.get? b=some o)→s.heap.objs.size≤a→h'.get? a=some (seqObj "list" out e)→IntsAre out.toList ms→ms.Perm ns→ms.Pairwise (·≤·)→Q (.ref a) { s with heap:=h',toks:=tk }):
  wpAny (model prog w) A (call (.builtin "sorted") [.ref d]) Q E s:=by
 refine Calls.call_function_entry kind_sorted plain_sorted entry_sorted (args_sorted1 (.ref d)) (show wpAny _ _ (Builtin.«sorted» _) _ _ _ from ?_)
 unfold Builtin.«sorted»
 refine wpAny_bind (m:=checkCount "sorted" 1 1 _) (wpAny_pure (wpAny_bind (z298 hh lo hd (by rw [sizeLine_eq];omega) fun h1 tk vs hk le hl hv=>wpAny_bind (wpAny_newList ?_))))
 have hoL:(h1.push (seqObj "list" vs.toArray 0)).get? h1.objs.size=some (seqObj "list" vs.toArray 0):=Heap.get?_push_size _ rfl
 have he:∀ out:Array Value,∃ e,(sortedHeap (h1.push (seqObj "list" vs.toArray 0)) h1.objs.size vs out).get? h1.objs.size=some (seqObj "list" out e):=fun out=>sortedHeap_at hoL
 have kept:∀ (out:Array Value) b o,s.heap.get? b=some o→(sortedHeap (h1.push (seqObj "list" vs.toArray 0)) h1.objs.size vs out).get? b=some o:=fun out b o hb=>by
  have l1:=Heap.lt_size (hk b o hb)
  rw [sortedHeap_old (Nat.ne_of_lt l1) (by rw [size_push'];exact Nat.lt_succ_of_lt l1)]
  exact Heap.get?_push_of_some _ (hk b o hb)
 refine wpAny_bind (wpAny_holding (wpAny_call_entry slot_list_sort ⟨_,hoL,rfl⟩ entry_list_sort (list_sort_tree hoL (hI vs hl hv) (by omega) fun out ms p1 p2 p3=>⟨.none,rfl,wpAny_pure ⟨_,rfl,?_⟩⟩) (args_list_sort _)))
 obtain⟨e,he⟩:=he out
 exact h _ tk _ e out ms (kept out) (Nat.le_of_lt le) he p1 p2 p3
end
theorem z349 {P:Program}{w:World}:∀ (ks:List Int) (us:List Value),us.length=ks.length→(∀ (j:Nat) (v:Value),us[j]?=some v→∃ k,ks[j]?=some k∧(mixKind P w).is (.inl k) v=true)→IntsAre us ks
 | [],[],_,_=>.nil
 | [],_::_,h,_=>by simp at h
 | _::_,[],h,_=>by simp at h
 | k::ks,u::us,h,f=>by
  obtain⟨k',e,hk⟩:=f 0 u rfl
  cases e
  obtain⟨t,rfl⟩:=(show ∃ t,u=Value.int k t from z539 hk)
  exact .cons k t (z349 ks us (by simpa using h) fun j v e=>by
   obtain⟨k',e',h'⟩:=f (j + 1) v (by simpa using e)
   exact⟨k',by simpa using e',h'⟩)
theorem z656 {kvs:List (Int × V)}{vs:List (Key × Value)} (rel:KV (kvs.map fun q=>((Sum.inl q.1:Key),q.2)) vs){j:Nat}{k:Key}{x:Value}(h:vs[j]?=some (k,x)):∃ n,(kvs.map (·.1))[j]?=some n∧k=.inl n:=by
 obtain⟨q,hq,e,_⟩:=Paired.at2 rel h
 rw [List.getElem?_map] at hq
 obtain⟨p,hp,rfl⟩:=Option.map_eq_some_iff.mp hq
 exact⟨p.1,by rw [List.getElem?_map,hp];rfl,e.symm⟩
theorem z305 {X:Cx}(hc:X.calm=true):CallR X (.builtin "sorted") (fun xs H Q=>∃ p,∃ kvs:List (Int × V),xs=[.ref p]∧Rd H p (.dK (kvs.map fun q=>((Sum.inl q.1:Key),q.2)))∧kvs.length < 64∧
  ∀ ms:List Int,ms.Perm (kvs.map (·.1))→ms.Pairwise (·≤·)→∀ l,H l=none→Q (.ref l) (upd H l (.lst (ms.map V.int)))):=by
 intro pins s σ H xs us Q I r h
 obtain⟨p,kvs,rfl,e,hl,q⟩:=h
 obtain⟨u,rfl,rx⟩:=vals1 r
 cases rx
 obtain⟨z,hd,vs,rel,o,es,ep,rest⟩:=dk_rd I.hok e
 have lv:vs.length=kvs.length:=by rw [← rel.length,List.length_map]
 refine z315 (knd:=mixKind X.prog X.w) (ns:=kvs.map (·.1)) (I.ok.hd hc) hd ⟨o,es,rest⟩ (by omega) (fun ws hw hv=>z349 (P:=X.prog) (w:=X.w) _ ws (by rw [hw,lv,List.length_map]) fun j v e=>?_) fun h' tk a e out ms hk ha ho h1 h2 h3=>?_
 ·obtain⟨k,x,hx,his⟩:=hv j v e
  obtain⟨n,hn,rfl⟩:=z656 rel hx
  exact⟨n,hn,his⟩
 ·have hm:=h2.length_eq
  rw [List.length_map] at hm
  exact⟨.ref a,_,I.sorted (tk:=tk) hk ha h1 (by rw [sizeLine_eq];omega) ho,rfl,q ms h2 h3 _ (I.hok.fresh ha)⟩
end L2
set_option Elab.async false
set_option linter.all false
set_option maxRecDepth 100000
namespace L2
open PySem PySem.Spec PyProof.Rows
section
variable {prog:Program}{w:World}{A:Around}{E:Value→Shared→Prop}{s:Shared}{d:Addr}
end
end L2
set_option Elab.async false
set_option linter.all false
namespace Hq
open PySem L2
def Le (a b:List Int):Prop:=HT.lexLt b a=false
section
variable {α:Type}{k:α→List Int}{ts:List α}
def Hok (k:α→List Int) (ts:List α):Prop:=∀ (i:Nat) (x y:α),0 < i→ts[i]?=some x→ts[(i - 1) / 2]?=some y→Le (k y) (k x)
def swp (ts:List α) (p a:Nat) (x y:α):List α:=(ts.set p y).set a x
structure Lift (k:α→List Int) (ts:List α) (p:Nat):Prop where
 up:∀ (i:Nat) (x y:α),0 < i→i≠p→ts[i]?=some x→ts[(i - 1) / 2]?=some y→Le (k y) (k x)
 gp:0 < p→∀ (i:Nat) (x y:α),0 < i→(i - 1) / 2=p→ts[i]?=some x→ts[(p - 1) / 2]?=some y→Le (k y) (k x)
structure Sink (k:α→List Int) (ts:List α) (p:Nat):Prop where
 up:∀ (i:Nat) (x y:α),0 < i→(i - 1) / 2≠p→ts[i]?=some x→ts[(i - 1) / 2]?=some y→Le (k y) (k x)
 gp:0 < p→∀ (i:Nat) (x y:α),0 < i→(i - 1) / 2=p→ts[i]?=some x→ts[(p - 1) / 2]?=some y→Le (k y) (k x)
structure Lesser (k:α→List Int) (ts:List α) (p b:Nat):Prop where
 b0:0 < b
 bp:(b - 1) / 2=p
 le:∀ (i:Nat) (x y:α),0 < i→(i - 1) / 2=p→ts[i]?=some x→ts[b]?=some y→Le (k y) (k x)
end
end Hq
set_option Elab.async false
set_option linter.all false
set_option maxRecDepth 100000
namespace L2
open PySem PySem.Spec PyProof.Rows PySem.W
section
variable {n:Nat}{lt:Nat→Nat→Bool}{cmp:Nat→Nat→(Bool→Shared→Prop)→Shared→Prop}{s:Shared}
def Pm (n:Nat) (p:Array Nat):Prop:=p.Perm (List.range n).toArray
end
end L2
set_option Elab.async false
set_option linter.all false
set_option maxRecDepth 100000
namespace L2
open PySem PySem.Spec PyProof.Rows PySem.W Hq
def TupI (h:Heap) (v:Value) (k:List Int):Prop:=∃ a o xs m,v=.ref a∧h.get? a=some o∧o.cls=.type "tuple"∧o.data=.seq xs m∧IntsAre xs.toList k
section
variable {prog:Program}{w:World}{A:Around}{E:Value→Shared→Prop}{s:Shared}
def Tups (h:Heap) (vs:List Value) (ks:List (List Int)):Prop:=Paired (TupI h) vs ks
end
end L2
set_option Elab.async false
set_option linter.all false
set_option maxRecDepth 100000
namespace L2
open PySem PySem.Spec PyProof.Rows PySem.W Hq
section
variable {prog:Program}{w:World}{A:Around}{E:Value→Shared→Prop}
def StT (I l:Addr) (vs:List Value) (ks:List (List Int)) (i:Nat) (h:Heap):Prop:=h.IsListIter I l i∧h.IsList l vs.toArray∧Tups h vs ks
end
end L2
set_option Elab.async false
set_option linter.all false
set_option maxRecDepth 100000
namespace L2
open PySem PySem.Spec PyProof.Rows PySem.W Hq
open PySem.SeqAt PySem.MeetsSeq
open PySem.AutoSeq1 (wpAny_loadPart')
end L2
set_option Elab.async false
set_option linter.all false
set_option maxRecDepth 100000
namespace L2
open PySem PySem.Spec PyProof.Rows
section
variable {prog:Program}{w:World}{A:Around}{E:Value→Shared→Prop}{s:Shared}
end
end L2
set_option Elab.async false
set_option linter.all false
set_option maxRecDepth 100000
namespace L2
open PySem PySem.Spec PyProof.Rows
section
variable {prog:Program}{w:World}{A:Around}{E:Value→Shared→Prop}{h:Heap}{g:Array GenState}{d:Drawn}{t:Nat}{os:OsState}
variable {nm q:Str}{C N:Addr}{bs bm bmB:List Value}{hdct:Bool}{sn:List Str}{sub:List Value}{ab:Bool}{col:Option Bool}{dd:Option Addr}{k0 k1 k2 k3 k5:Option Value}{B newId initId:String}
theorem z226 (F:ExcBaseFacts B newId initId bmB) (T:OwnTail h bmB bm){mN:Str→Option Value}{rest:List Value}{fI:Addr}{oI:Obj}{Q:PySem.Fin→Shared→Prop}
  (cC:h.get? C=some (excClassObj nm q C N bs bm hdct sn sub ab col dd k0 k1 k2 k3 k5 newId)) (hn:h.Ns N mN) (hi:mN "__init__"=some (.ref fI)) (cI:h.get? fI=some oI) (hfc:oI.cls=.type "function") (hz:rest.length≤sizeLine)
  (hq:∀ h' e,h.objs.size≤e→Heap.MadeExcOf h h' e (.ref C) rest→wpAny (model prog w) A (call (.ref fI) (.ref e::rest)) (fun r s'=>r=.none∧Q (.done (.ret (.ref e))) s') E ⟨h',g,d,t,os⟩):
  wpAny (model prog w) A (Builtin.«type.__call__» ⟨.ref C::rest,[]⟩) Q E ⟨h,g,d,t,os⟩:=by
 repeat (first | with_reducible refine wpAny_loadPart_at cC ?_ | with_reducible refine wpAny_madeBy_exc cC ?_ | wp_step)
 refine codeAny_call_builtin_code (Code.quiet_builtin _ F.quiet) (wpAny_check_new_subT F T cC (codeAny_exc_new_subT F T cC ?_ hz))
 show wpAny _ _ _ _ _ _
 have up:∀ b o,h.get? b=some o→((h.push { cls:=.type "tuple",data:=.seq rest.toArray }).push { cls:=.ref C,data:=.fields #[.ref h.objs.size,.none,.none,.none,.bool false,.none] }).get? b=some o:=fun b o e=>Heap.get?_push_of_some _ (Heap.get?_push_of_some _ e)
 have cC1:=up _ _ cC
 have cI1:=up _ _ cI
 have hn1:=hn.keeps up
 have T1:=T.keeps up
 have ce:((h.push { cls:=.type "tuple",data:=.seq rest.toArray }).push { cls:=.ref C,data:=.fields #[.ref h.objs.size,.none,.none,.none,.bool false,.none] }).get? (h.objs.size + 1)=some { cls:=.ref C,data:=.fields #[.ref h.objs.size,.none,.none,.none,.bool false,.none] }:=by heap_get
 have mC:(Value.ref C::bm).contains (.ref C)=true:=by simp
 unfold isInstance
 repeat (first | with_reducible refine wpAny_loadPart_at ce ?_ | (with_reducible refine wpAny_isSubtype_exc cC1 ?_;rw [mC]) | wp_step)
 show wpAny _ _ (typeLookup (.ref C) _) _ _ _
 refine wpAny_typeLookup_tail cC1 hn1 T1 F.mroIs F.init.lookup ?_
 rw [hi]
 refine wpAny_holding (wpAny_bind ?_)
 unfold bindSpecial
 refine wpAny_bind (wpAny_typeOf (T:="function") ⟨_,cI1,hfc⟩ ?_)
 rw [if_pos (by decide)]
 refine wpAny_pure (wpAny_bind (wpAny_mono (hq _ (h.objs.size + 1) (Nat.le_succ _) ⟨up,Heap.get?_none_of_le (Nat.le_succ _),h.objs.size,ce,Heap.get?_none_of_le (Nat.le_refl _),Heap.get?_push_of_some _ (Heap.get?_push_at rfl rfl)⟩) (fun r s' hr=>?_) fun _ _ x=>x))
 obtain⟨rfl,hQ⟩:=hr
 wp_walk
 exact hQ
theorem z464 (F:ExcBaseFacts B newId initId bmB) (T:OwnTail h bmB bm){mN:Str→Option Value}{rest:List Value}{fI:Addr}{oI:Obj}{Q:Value→Shared→Prop}
  (cC:h.get? C=some (excClassObj nm q C N bs bm hdct sn sub ab col dd k0 k1 k2 k3 k5 newId)) (hn:h.Ns N mN) (hi:mN "__init__"=some (.ref fI)) (cI:h.get? fI=some oI) (hfc:oI.cls=.type "function") (hz:rest.length≤sizeLine)
  (hq:∀ h' e,h.objs.size≤e→Heap.MadeExcOf h h' e (.ref C) rest→wpAny (model prog w) (A.under (.builtin "type.__call__" ⟨.ref C::rest,[]⟩)) (call (.ref fI) (.ref e::rest)) (fun r s'=>r=.none∧Q (.ref e) s') E ⟨h',g,d,t,os⟩):
  wpAny (model prog w) A (call (.ref C) rest) Q E ⟨h,g,d,t,os⟩:=by
 have f1:=tc_lookup
 have f2:=tc_bind (.ref C)
 have cT:(⟨h,g,d,t,os⟩:Shared).TypeIs (.ref C) "type":=⟨_,cC,rfl⟩
 refine wpAny_call (codeAny_of_tree ?_)
 show wpAny _ _ (callAny (.ref C) _) _ _ _
 repeat (any_goals (first | assumption | with_reducible refine wpAny_loadPart_at cC ?_ | wp_step))
 exact⟨rfl,codeAny_call_builtin_at (Code.quiet_builtin _ (by decide +kernel)) entry_typeCall (wpAny_check_type_call_sub cC (z226 F T cC hn hi cI hfc hz fun h' e he hm=>hq h' e he hm))⟩
end
section
open PySem.W
variable {prog:Program}{w:World}{A:Around}{E:Value→Shared→Prop}{s:Shared}{K:PySem.W.Frag}{x C:Addr}
def z26:List Value→Bool
 | [.type a,.type b,.type c,.type d]=>a == "ValueError" && b == "Exception" && c == "BaseException" && d == "object"
 | .ref _::r=>z26 r
 | _=>false
theorem z279 (self:Value):refuseLoop self "__setattr__" [.type "ValueError",.type "Exception",.type "BaseException",.type "object"]=pure ():=by kernel_rfl
theorem z204 (self:Value):∀ {l:List Value},z26 l=true→refuseLoop self "__setattr__" l=pure ()
 | [.type a,.type b,.type c,.type d],e=>by
  simp only [z26,Bool.and_eq_true,beq_iff_eq] at e
  obtain⟨⟨⟨rfl,rfl⟩,rfl⟩,rfl⟩:=e
  exact z279 self
 | .ref c::r,e=>by rw [refuseLoop_ref];exact z204 self (by simpa only [z26] using e)
theorem z362:∀ {l:List Value},z26 l=true→l.contains (.type "object")=true
 | [.type a,.type b,.type c,.type d],e=>by
  simp only [z26,Bool.and_eq_true,beq_iff_eq] at e
  obtain⟨⟨⟨rfl,rfl⟩,rfl⟩,rfl⟩:=e
  simp
 | .ref c::r,e=>by rw [List.contains_cons,z362 (l:=r) (by simpa only [z26] using e),Bool.or_true]
theorem z646 {name:Str}{v:Value}{Q:Unit→Shared→Prop}{fs:Array Value}{sl:Array (Option Value)} (X:K.In s.heap) (I:InstAt s.heap x ⟨.ref C,none,.fields fs,sl⟩ C none) (hs:findIn K (.ref C) "__setattr__"=some (some (.builtin "object.__setattr__"))) (hp:(clsIn K C).any (fun cd=>z26 cd.mro)=true) (ht:findIn K (.ref C) name=some none) (hh:(clsIn K C).any (·.hasDict)=true)
  (h:∀ h' tk,h'.get? x=some ⟨.ref C,some s.heap.objs.size,.fields fs,sl⟩→h'.Ns1 s.heap.objs.size (fun y=>if y=name then some v else none)→(∀ b o,b≠x→s.heap.get? b=some o→h'.get? b=some o)→Q () { s with heap:=h',toks:=tk }):
  wpAny (model prog w) A (setAttr (.ref x) name v) Q E s:=by
 refine set_plain X I hs ?_
 have SF:=PySem.F.store_object
 obtain⟨cd,hc,ho⟩:=any_some hp
 obtain⟨cd',hc',hdict⟩:=any_some hh
 obtain rfl:cd=cd':=Option.some.inj (hc.symm.trans hc')
 have ne:cd.mro.isEmpty=false:=by cases q:cd.mro with | nil=>rw [q] at ho;cases ho | cons _ _=>rfl
 have s1:Looks (model prog w) s.heap (isInstance (.ref x) (.type "object")) true:=I.type.andThen (looks_mroIn X (by unfold mroIn;rw [hc,Option.bind_some,if_neg (by rw [ne];decide),z362 ho]))
 refine codeAny_call_builtin SF.slot.plain SF.entry (@check_slot (model prog w) _ _ { s with toks:=s.toks + 1 } "object.__setattr__" "object" "__setattr__" (.ref x) [.str name s.toks,v] [] _ SF.kind SF.split s1 (SF.args (.ref x) (.str name s.toks) v) ?_)
 have hm:Looks (model prog w) s.heap (mroOf (.ref C)) cd.mro:=(looks_clsIn X hc).andThen .now
 rw [osa_eq,refuse_eq]
 refine wpAny_bind (wpAny_bind (I.type.here (s:={ s with toks:=s.toks + 1 }) (wpAny_bind (hm.here (s:={ s with toks:=s.toks + 1 }) ?_))))
 rw [z204 _ ho]
 refine wpAny_pure (wpAny_bind (I.type.here (s:={ s with toks:=s.toks + 1 }) (wpAny_bind ((looks_findIn X ht).here (s:={ s with toks:=s.toks + 1 }) (wpAny_bind (wpAny_pure ?_))))))
 obtain⟨hx,hcl,hno,_⟩:=id I
 have hxs:x≠s.heap.objs.size:=Nat.ne_of_lt (Heap.lt_size hx)
 refine wpAny_bind (wpAny_pure (wpAny_bind (wpAny_bind (wpAny_loadPart hx (wpAny_bind ((looks_clsIn X hc).here (s:={ s with toks:=s.toks + 1 }) ?_))))))
 rw [hdict]
 have hx1:(s.heap.push { cls:=.type "dict",data:=.dict #[] }).get? x=some ⟨.ref C,none,.fields fs,sl⟩:=Heap.get?_push_of_some _ hx
 refine wpAny_bind (m:=alloc { cls:=.type "dict",data:=.dict #[] }) (wpAny_alloc (wpAny_bind (wpAny_update hx1 (wpAny_pure ?_))))
 have ed:((s.heap.push { cls:=.type "dict",data:=.dict #[] }).update x fun o=>{ cls:=o.cls,dict:=some s.heap.objs.size,data:=o.data,slots:=o.slots }).get? s.heap.objs.size=some { cls:=.type "dict",data:=.dict #[] }:=(Heap.get?_update_ne _ _ _ _ hxs.symm).trans (Heap.get?_push_at rfl rfl)
 have nd:((s.heap.push { cls:=.type "dict",data:=.dict #[] }).update x fun o=>{ cls:=o.cls,dict:=some s.heap.objs.size,data:=o.data,slots:=o.slots }).Ns s.heap.objs.size (fun _=>none):=⟨_,#[],_,ed,rfl,fun e he=>absurd he (by simp),fun _=>rfl⟩
 show wpAny _ _ (Builtin.ObjectAttr.storeInDict s.heap.objs.size (.str name s.toks) name v) _ _ _
 unfold Builtin.ObjectAttr.storeInDict Builtin.ObjectAttr.newKeyGuard
 refine wpAny_bind (wpAny_pure (wpAny_bind (wpAny_nsSet1 (Heap.Ns1.of_empty nd) fun h' n1 b1=>?_)))
 obtain⟨oD,esD,epD,c1,c2,c3⟩:=n1.count (Within.cons name v Within.nil)
 refine wpAny_bind (wpAny_lookBehind c1 (by rw [c2];exact pastItsLine_dict (Nat.le_trans c3 (by rw [List.length_cons,List.length_nil,sizeLine_eq];omega))) ?_)
 refine wpAny_pure (h h' _ ((b1.2 x hxs).trans (Heap.get?_update_self _ hx1 rfl)) n1 fun b o bx e=>?_)
 exact(b1.2 b (Nat.ne_of_lt (Heap.lt_size e))).trans ((Heap.get?_update_ne _ _ _ _ bx).trans (Heap.get?_push_of_some _ e))
end
def XObj (x C:Addr) (d:Option Addr) (fs:Array Value) (sl:Array (Option Value)):Heap→Prop:=fun h=>h.get? x=some ⟨.ref C,d,.fields fs,sl⟩
theorem z543 {P:Program}{w:World}{H:Hp}{h:Heap}{x C:Addr}{d:Option Addr}{fs:Array Value}{sl:Array (Option Value)} (e:h.get? x=some ⟨.ref C,d,.fields fs,sl⟩):ObjOk P w H h x (.ext (XObj x C d fs sl)):=
 ⟨e,⟨_,e⟩,fun h1 h2 e1 k=>k _ e1⟩
structure XCls (K:PySem.W.Frag) (C:Addr):Prop where
 sa:PySem.W.findIn K (.ref C) "__setattr__"=some (some (.builtin "object.__setattr__"))
 mro:(PySem.W.clsIn K C).any (fun cd=>z26 cd.mro)=true
 dict:(PySem.W.clsIn K C).any (·.hasDict)=true
def sXFld (K:PySem.W.Frag) (ta tv:TE) (f:Str):TS:=fun D σ H=>tv σ H fun v H1=>ta σ H1 fun x H2=>∃ a C fs sl,x=.ref a∧H2 a=some (.ext (XObj a C none fs sl))∧XCls K C∧PySem.W.findIn K (.ref C) f=some none∧
 ∀ dx,H2 dx=none→dx≠a→D.nx σ (upd (upd H2 dx (.xd (putF f v []))) a (.ext (XObj a C (some dx) fs sl)))
theorem z632 {X:Cx}{o value:Expr}{f:Str}{ta tv:TE}{pos pos':Pos}(ha:PE X o ta) (hv:PE X value tv) (hs:swapsWith value (some (.Attribute o f pos')) pos.line X.env=pure false):PS X (.Assign [.Attribute o f pos'] value pos) (sXFld X.K ta tv f):=by
 intro pins s σ H D I h
 refine plainObj_wpAny_Assign_Attribute (thn (hv pins s σ H _ I h) fun u s1 ⟨y,H1,I1,ry,q⟩=>thn (ha pins s1 σ H1 _ I1 q) fun ov s2 ⟨x,H2,I2,rx,a,C,fs,sl,ex,ea,c,nf,q2⟩=>?_) hs
 subst ex
 cases (show ov=Value.ref a from rx)
 obtain⟨ga,_,_⟩:=(show ObjOk X.prog X.w H2 s2.heap a (.ext (XObj a C none fs sl)) from I2.hok a _ ea)
 have ga:s2.heap.get? a=some ⟨.ref C,none,.fields fs,sl⟩:=ga
 have las:=Heap.lt_size ga
 have nd:H2 s2.heap.objs.size=none:=I2.hok.fresh (Nat.le_refl _)
 have dne:s2.heap.objs.size≠a:=Nat.ne_of_gt las
 refine z646 I2.kIn ⟨ga,rfl,rfl,trivial⟩ c.sa c.mro nf c.dict fun h' tk e1 e2 e3=>⟨σ,_,?_,q2 _ nd dne⟩
 have na:∀ {b:Addr}{u:HO},H2 b=some u→b≠s2.heap.objs.size:=fun e=>ne_of_none e nd
 refine I2.step (g':=s2.gens) (d':=s2.drawn) (ch:=[]) (fun _ z=>nomatch z) (fun b o _ _ _ e n=>e3 b o (fun z=>by rw [z,ea] at n;cases n) e) (fun b o _ _ _ e n=>⟨o.slots,e3 b o (fun z=>by rw [z,ea] at n;cases n) e⟩) (fun b o _ e n=>?_) (fun b o _ e=>?_) (fun b xs e=>?_) (fun b o' u e=>?_) (fun b ps e=>⟨#[],?_⟩) (fun m hm=>?_) (fun b u e=>?_) I2.bare
 ·rw [upd_ne (fun z=>by rw [z,ea] at n;cases n),upd_ne (Nat.ne_of_lt (Heap.lt_size e))]
  exact n
 ·by_cases z:b=a
  ·rw [z];exact⟨_,e1⟩
  ·exact⟨o,e3 b o z e⟩
 ·rw [upd_ne (ne_of e ea (fun z=>by cases z)),upd_ne (na e)]
  exact e
 ·rw [upd_ne (ne_of e ea (fun z=>by cases z)),upd_ne (na e)]
  exact e
 ·rw [upd_ne (ne_of e ea (fun z=>by cases z)),upd_ne (na e),e]
  simp
 ·obtain⟨o,es,ep,ho,r⟩:=hm
  exact⟨o,es,ep,e3 _ o (fun z=>by have:=I2.free;rw [z,ea] at this;cases this) ho,r⟩
 ·by_cases z:b=a
  ·subst z
   rw [upd_same] at e
   cases e
   exact z543 e1
  ·rw [upd_ne z] at e
   by_cases z2:b=s2.heap.objs.size
   ·subst z2
    rw [upd_same] at e
    cases e
    refine⟨_,e2,fun g=>?_⟩
    rw [lookup_putF]
    by_cases gf:g=f
    ·rw [if_pos gf,if_pos gf]
     exact ry
    ·rw [if_neg gf,if_neg gf]
     trivial
   ·rw [upd_ne z2] at e
    refine(I2.hok b u e).stay (fun c v hc q=>e3 c v (fun y=>?_) q) (fun c q=>?_) fun c xs q=>?_
    ·rcases hc with y2 | y2
     ·exact z (y2.symm.trans y)
     ·rw [y,ea] at y2;cases y2
    ·rw [upd_ne (ne_of q ea (fun z=>by cases z)),upd_ne (na q)]
     exact q
    ·rw [upd_ne (ne_of q ea (fun z=>by cases z)),upd_ne (na q)]
     exact q
def del (H:Hp) (a:Addr):Hp:=fun b=>if b=a then none else H b
theorem del_ne {H:Hp}{a b:Addr}(h:b≠a):del H a b=H b:=if_neg h
theorem z262 {H:Hp}{a:Addr}:del H a a=none:=if_pos rfl
theorem z612 {H:Hp}{a b:Addr}{o:HO}(h:del H a b=some o):b≠a∧H b=some o:=by
 by_cases e:b=a
 ·rw [e,z262] at h;cases h
 ·rw [del_ne e] at h;exact⟨e,h⟩
theorem z623 {P:Program}{w:World}{H:Hp}{h:Heap}{a:Addr}{φ:Heap→Prop}(ok:HOk P w H h) (ea:H a=some (.ext φ)):HOk P w (del H a) h:=fun b u e=>by
 obtain⟨ne,e⟩:=z612 e
 exact(ok b u e).stay (fun _ _ _ q=>q) (fun c q=>by rw [del_ne (fun z=>by rw [z,ea] at q;cases q)];exact q) fun c xs q=>by rw [del_ne (fun z=>by rw [z,ea] at q;cases q)];exact q
structure XD (X:Cx) (WX:WXT):Prop where
 raise:∀ (pins:List (Addr × Obj)) (σ:St) (H:Hp) (s:Shared) (e C dx:Addr) (fs:Array Value) (sl:Array (Option Value)),Inv X pins σ H s→H e=some (.ext (XObj e C (some dx) fs sl))→fs[1]?=some Value.none→fs[2]?=some Value.none→X.s₀.heap.get? e=none→
  WX σ (.ref C) (some dx) (del H e)→X.xe (.ref e) s
section
variable {P:Program}{w:World}{K:PySem.W.Frag}{mg:Str→Option Value}{base:Heap}{N:List Str}{qual:Str}{scope:Scope}{f:Addr}{cd:Value}{A:Around}{outer:List Env}{s₀:Shared}{H₀:Hp}{E:XK}
theorem xd_fn:XD (cxOf (CXE P w) P w K mg base N qual scope f cd A outer s₀ H₀ E) (fun _=>E) where
 raise:=fun pins σ H s e C dx fs sl I ea f1 f2 new hE=>by
  have hst:(cxOf (CXE P w) P w K mg base N qual scope f cd A outer s₀ H₀ E).stack=envOfC qual scope s₀.heap.objs.size f cd::outer:=rfl
  have stF:=I.stkFree
  have stS:=I.stack
  rw [hst] at stF stS
  have he:s.heap.get? e=some ⟨.ref C,some dx,.fields fs,sl⟩:=(show ObjOk P w H s.heap e (.ext (XObj e C (some dx) fs sl)) from I.hok e _ ea).1
  have nst:∀ b o,s₀.heap.get? b=some o→b ∉ frs outer→b ∉ e::frs (envOfC qual scope s₀.heap.objs.size f cd::outer):=fun b o q n z=>by
   rcases List.mem_cons.mp z with z | z
   ·rw [z,show s₀.heap.get? e=none from new] at q;cases q
   ·rcases List.mem_cons.mp (show b∈s₀.heap.objs.size::frs outer from z) with z | z
    ·exact absurd (Heap.lt_size q) (by rw [z];exact Nat.lt_irrefl _)
    ·exact n z
  have hn:(PySem.W.hideAll s.heap (e::frs (envOfC qual scope s₀.heap.objs.size f cd::outer))).get? e=none:=PySem.W.hideAll_none _ List.mem_cons_self
  have fr0:s.heap.FunFrames (PySem.W.hideAll s.heap (e::frs (envOfC qual scope s₀.heap.objs.size f cd::outer))) (envOfC qual scope s₀.heap.objs.size f cd::outer):=
   PySem.W.funFrames_hide stS fun env he a ha=>List.mem_cons_of_mem _ (List.mem_filterMap.mpr ⟨env,he,ha⟩)
  show wpAny (model P w) (A.deeper (envOfC qual scope s₀.heap.objs.size f cd)) (leaving (envOfC qual scope s₀.heap.objs.size f cd) (.ref e)) _ _ _
  refine z231 (s:=s) (B:=PySem.W.hideAll s.heap (e::frs (envOfC qual scope s₀.heap.objs.size f cd::outer))) (env:=envOfC qual scope s₀.heap.objs.size f cd) (outer:=outer) (L:=s₀.heap.objs.size) I.ok.frames rfl (fun b o q=>PySem.W.of_hideAll _ q) hn fr0 he f2 f1 fun h2 fl up=>?_
  refine⟨e,.ref C,some dx,del H e,_,rfl,I.os,I.bare,fl,z394 (z623 I.hok ea) (fun b hb=>?_),⟨fun b o q n nf=>PySem.W.hideAll_get _ (I.base.keep b o q n nf (fun z=>nomatch z)) (nst b o q nf),fun b o q n=>?_,fun b o q nf=>?_,fun b xs q=>?_,fun b o u q=>?_,fun b ps q=>?_⟩,fun b o hb q=>?_,hE⟩
  ·rcases List.mem_cons.mp hb with z | z
   ·rw [z];exact z262
   ·by_cases y:b=e
    ·rw [y];exact z262
    ·rw [del_ne y];exact stF b z
  ·by_cases y:b=e
   ·rw [y];exact z262
   ·rw [del_ne y];exact I.base.free b o q n (fun z=>nomatch z)
  ·obtain⟨o',q'⟩:=I.base.there b o q (fun z=>nomatch z)
   exact⟨o',PySem.W.hideAll_get _ q' (nst b o q nf)⟩
  ·have z:=I.base.tups b xs q
   rw [del_ne (ne_of z ea (fun y=>by cases y))]
   exact z
  ·have z:=I.base.frzs b o u q
   rw [del_ne (ne_of z ea (fun y=>by cases y))]
   exact z
  ·obtain⟨more,z⟩:=I.base.tbls b ps q
   exact⟨more,by rw [del_ne (ne_of z ea (fun y=>by cases y))];exact z⟩
  ·obtain⟨_,o',q',nf⟩:=I.ok.funs.mem hb
   obtain rfl:o=o':=Option.some.inj ((show s₀.heap.get? b=some o from q).symm.trans q')
   obtain⟨sl2,z⟩:=I.base.slot b o q (I.ok.frf b hb) hb (fun z=>nomatch z)
   exact up b { o with slots:=sl2 } z nf
end
section
open PySem.W
variable {M:Model}{A:Around}{E:Value→Shared→Prop}{s:Shared}{env:Env}
variable {nm q:Str}{C N:Addr}{bs bm:List Value}{hdct:Bool}{sn:List Str}{sub:List Value}{ab:Bool}{col:Option Bool}{dd:Option Addr}{k0 k1 k2 k3 k5:Option Value}{newId:String}
theorem z430 {x:Sem Value}{Q:Flow→Shared→Prop}(hb:bm.contains (.type "BaseException")=true) (hh:A.handled=none)
  (h:wpAny M A x (fun v s₁=>∃ e dx t,v=.ref e∧s₁.heap.get? C=some (excClassObj nm q C N bs bm hdct sn sub ab col dd k0 k1 k2 k3 k5 newId)∧s₁.heap.get? e=some ⟨.ref C,some dx,.fields #[.ref t,.none,.none,.none,.bool false,.none],#[]⟩∧E (.ref e) s₁) E s):
  wpAny M A (raiseStmt env (some x) none) Q E s:=by
 have cB:(Value.ref C::bm).contains (.type "BaseException")=true:=by rw [List.contains_cons,hb,Bool.or_true]
 unfold raiseStmt
 refine wpAny_bind (wpAny_mono h (fun v s₁ h₁=>?_) fun _ _ x=>x)
 obtain⟨e,dx,t,rfl,cC,ce,hE⟩:=h₁
 obtain⟨hp,g,d,tk,os⟩:=s₁
 repeat (first | with_reducible refine wpAny_loadPart_at ce ?_ | with_reducible refine wpAny_loadPart_at cC ?_ | (with_reducible refine wpAny_isSubtype_exc cC ?_;rw [cB]) | wp_step)
 exact wpAny_raiseNew_none hh hE
def exiIn (K:Frag) (C f:Addr):Bool:=match K.lookup C with
 | some ⟨.type "type",_,.cls cd,sl⟩=>(match cd.mro,sl.toList with
  | .ref C'::bm,[_,_,_,_,some (.builtin n),_]=>C' == C && n == "ValueError.__new__" && !cd.hasDel && tailIn K [.type "ValueError",.type "Exception",.type "BaseException",.type "object"] bm && nsOkIn K cd.ns && nsIn K cd.ns "__init__" == some (some (.ref f))
  | _,_=>false)
 | _=>false
end
section
open PySem.W
theorem z652 {K:Frag}{h:Heap}{N:Addr}{m:Str→Option Value}{n:Str}{v:Value}(X:K.In h) (G:h.Ns N m) (e:nsIn K N n=some (some v)):m n=some v:=by
 obtain⟨o,es,ep,ho,hd,_,hf⟩:=G
 unfold nsIn at e
 split at e
 ·rename_i c d es2 n2 sl lk
  have z:=X _ _ lk
  rw [ho] at z
  cases z
  cases hd
  split at e
  ·rename_i en hen
   cases e
   rw [← hf]
   unfold nsFind findBy
   rw [← Array.find?_toList,hen]
   rfl
  ·split at e <;> cases e
 ·cases e
variable {X:Cx}{WX:WXT}{k:Nat}{f C:Addr}{fd:FuncData}{ps:List Str}{sp:Sp}{dvs:List V}{ds:List Value}{x:Str}{pos:Pos}{e:Expr}{es:List Expr}{t:TA}
def z564 (WX:WXT) (C:Addr) (sp:Sp) (dvs:List V) (t:TA):TS:=fun D σ H=>t σ H fun vs H1=>vs.length≤sizeLine∧∀ a fs sl,H1 a=none→
 sp (.ref a::(vs++dvs)) (upd H1 a (.ext (XObj a C none fs sl))) (fun v H2=>v=.non∧∃ dx,H2 a=some (.ext (XObj a C (some dx) fs sl))∧WX σ (.ref C) (some dx) (del H2 a)) E0
theorem z506 {np cpos:Pos}(hx:XD X WX) (hc:X.calm=true) (hg:Gl X x) (hm:X.mg x=some (.ref C)) (er:exiIn X.K C f=true) (hfn:isFn X.K (.ref f)=true) (F:FnOk X.prog X.w X.K X.mg X.base (CXE X.prog X.w) k f fd ps sp) (hr:Room (k + 1) X.A) (hb:Binds X.K fd ps ds) (hd:Vals dvs ds) (ha:PA X (e::es) t)
  (hdb:(x == ("__debug__":Str))=false:=by decide) (he:starEach (e::es) X.env=(false,eval e X.env)::starEach es X.env:=by rfl) (hpl:(backTo cpos (starEach es X.env)).any (·.1)=false:=by rfl):
  PS X (.Raise (some (.Call (.Name x np) (e::es) [] cpos)) none pos) (z564 WX C sp dvs t):=by
 intro pins s σ H D I h
 have q:=er
 unfold exiIn at q
 split at q
 ·rename_i dd cd sl ho
  split at q
  ·rename_i C' bm k0 k1 k2 k3 n k5 hm' hs
   simp only [Bool.and_eq_true,beq_iff_eq,Bool.not_eq_true'] at q
   obtain⟨⟨⟨⟨⟨rfl,rfl⟩,hdel⟩,ht⟩,hok⟩,hni⟩:=q
   obtain⟨nm,bs,mro,ns,qn,hdc,sn,sub,ab,col,del⟩:=cd
   dsimp only at hm' hdel hok hni
   subst hm' hdel
   obtain rfl:sl=#[k0,k1,k2,k3,some (.builtin "ValueError.__new__"),k5]:=by
    obtain⟨l⟩:=sl
    simp only at hs
    rw [hs]
   have T:=tail_of_in I.ok.mod.kin ht
   have pl:(backTo cpos (starEach (e::es) X.env)).any (·.1)=false:=by rw [he];show (false || (backTo cpos (starEach es X.env)).any (·.1))=false;rw [hpl];rfl
   rw [arm_exec_Raise]
   refine wpAny_bind (wpAny_standAt (z430 (C:=C') (nm:=nm) (q:=qn) (N:=ns) (bs:=bs) (bm:=bm) (hdct:=hdc) (sn:=sn) (sub:=sub) (ab:=ab) (col:=col) (dd:=dd) (k0:=k0) (k1:=k1) (k2:=k2) (k3:=k3) (k5:=k5) (newId:="ValueError.__new__") (T.hasType PySem.F.excBase_ValueError.hasBase) (I.ok.hd hc) ?_))
   refine wpAny_bind (wpAny_mono (wpAny_Call_ofName (ld_glob I hg hm ?_ hdb)) (fun v s₃ h₃=>wpAny_bind (wpAny_standAt (wpAny_pure h₃))) fun _ _ x=>x)
   have hp:=ha cpos pins s σ H _ I h
   rw [he] at hp
   unfold callWith
   simp only [pl]
   rw [he]
   refine wpAny_bind (wpAny_holding (Calls.evalArgs_plain (wpAny_mono hp (fun us s1 z=>wpAny_bind (wpAny_standAt ?_)) fun _ _ z=>z)))
   obtain⟨vs,H1,I1,rv,hz,hw⟩:=z
   have cC:s1.heap.get? C'=_:=I1.kIn _ _ ho
   have hn:s1.heap.Ns ns (X.base.nsMap ns):=(Heap.Ns.of_isNs (isNs_of_in I.ok.mod.kin hok)).keeps I1.bk
   obtain⟨hp1,g1,d1,t1,os1⟩:=s1
   refine wpAny_bind (wpAny_keeperOf_exc cC ?_)
   obtain⟨oI,lI,cI⟩:∃ oI,X.K.lookup f=some oI∧oI.cls=.type "function":=Option.map_eq_some_iff.mp (beq_iff_eq.mp hfn)
   refine wpAny_bind (m:=call (.ref C') us) (z464 PySem.F.excBase_ValueError (T.keeps I1.bk) cC hn (z652 I.ok.mod.kin (Heap.Ns.of_isNs (isNs_of_in I.ok.mod.kin hok)) hni) (I1.kIn _ _ lI) cI (by rw [← rv.length];exact hz) fun h' ea hle mk=>?_)
   obtain⟨tt,hee,_,_⟩:=mk.there
   have hna:H1 ea=none:=I1.hok.fresh hle
   have I2:Inv X pins σ (upd H1 ea (.ext (XObj ea C' none #[.ref tt,.none,.none,.none,.bool false,.none] #[]))) ⟨h',g1,d1,t1,os1⟩:=I1.laid (t':=t1) (fun b u e=>mk.keeps b u e) hle (z543 hee)
   have hq:=hw ea #[.ref tt,.none,.none,.none,.bool false,.none] #[] hna
   have r2:Vals (V.ref ea::(vs++dvs)) (Value.ref ea::(us++ds)):=.cons rfl (rv.append hd)
   have hl:(Value.ref ea::us++ds).length=ps.length:=by
    have e:=r2.length
    rw [F.len _ _ _ _ hq] at e
    exact e.symm
   refine wpAny_call (codeAny_mono (F.run _ X.stack _ _ ⟨Value.ref ea::us,[]⟩ (Value.ref ea::(us++ds)) _ _ E0 (hr.make C' us []) (I2.env0.make C' us []) (hb _ (Value.ref ea::us) I2.kIn hl) r2 hq) fun r s' hq'=>?_)
   cases r with
   | error e=>
    obtain⟨_,_,_,_,_,_,_,_,_,_,_,_,z⟩:=hq'
    exact z.elim
   | ok fl=>cases fl with
    | ret u=>
     obtain⟨v,H',I3,rv3,ev,dx,hxe,hwx⟩:=I2.after hq'
     subst ev
     refine⟨rv3,wpAny_bind (wpAny_holding (wpAny_point (wpAny_pure ⟨ea,dx,tt,rfl,I3.kIn _ _ ho,(show ObjOk X.prog X.w H' s'.heap ea _ from I3.hok ea _ hxe).1,?_⟩)))⟩
     exact hx.raise pins σ H' s' ea C' dx _ _ I3 hxe rfl rfl (Heap.get?_none_of_le (Nat.le_trans I1.sz hle)) hwx
    | next=>exact hq'.elim
    | brk=>exact hq'.elim
    | cont=>exact hq'.elim
  ·cases q
 ·cases q
end
section
open PySem.W
variable {X:Cx}{ea C d:Addr}{ob:Obj}
end
end L2
set_option Elab.async false
set_option linter.all false
set_option maxRecDepth 100000
namespace L2
open PySem PySem.Spec PyProof.Rows
end L2
set_option Elab.async false
set_option linter.all false
set_option maxRecDepth 100000
namespace L2
open PySem PySem.Spec PyProof.Rows
open AutoSeq1 (wpAny_loadPart')
section
variable {prog:Program}{w:World}{A:Around}{E:Value→Shared→Prop}{s:Shared}
end
def HdAt (A:Around) (g:Addr) (h:Heap):Prop:=A.handled=none∨∃ (C:Addr) (dx:Option Addr) (vs:Array Value) (sl:Array (Option Value)),A.handled=some (.ref g)∧h.get? g=some ⟨.ref C,dx,.fields vs,sl⟩∧vs[2]?=some Value.none
section
variable {prog:Program}{w:World}{A:Around}{R:Result→Shared→Prop}{I:Addr}{fp wr:List Addr}{n:Nat}{P:Nat→Value→Prop}{St:Nat→Heap→Prop}{d:Value}
end
section
variable {prog:Program}{w:World}{A:Around}{E:Value→Shared→Prop}{s:Shared}
end
def MaxD (ns:List Int) (z m:Int):Prop:=(ns=[]∧m=z)∨(m∈ns∧∀ a∈ns,a≤m)
section
variable {prog:Program}{w:World}{A:Around}{E:Value→Shared→Prop}{s:Shared}
end
end L2
set_option Elab.async false
set_option linter.all false
set_option maxRecDepth 100000
namespace L2
open PySem PySem.Spec PyProof.Rows
end L2
set_option Elab.async false
set_option linter.all false
set_option maxRecDepth 100000
namespace Bk
open PySem L2 Wy
def Tiny (b:Int) (c:List Int):Prop:=c≠[]∧c.length≤100∧0≤b∧b≤200
structure Ent where
 k:Int
 v:V
 b:Int
 c:List Int
def kv (es:List Ent):List (Int × V):=es.map fun e=>(e.k,e.v)
def dw (es:List Ent):List (Key × V):=(kv es).map fun q=>((Sum.inl q.1:Key),q.2)
def KeyOk (k:Int):Prop:=0≤k∧k≤40
def EntOk (H:Hp) (e:Ent):Prop:=WayAt H e.v e.b e.c∧Tiny e.b e.c∧KeyOk e.k
structure Ents (H:Hp) (es:List Ent):Prop where
 ok:∀ e∈es,EntOk H e
 nd:(es.map (·.k)).Nodup
def Tups (H H':Hp):Prop:=∀ b xs,H b=some (.tup xs)→H' b=some (.tup xs)
theorem z206 {H H':Hp}(s:Same H H'):Tups H H':=fun b xs h=>s b _ h
theorem WayAt.tups {H H':Hp}{v:V}{b:Int}{c:List Int}(t:Tups H H') (h:WayAt H v b c):WayAt H' v b c:=by
 obtain⟨p,q,e,h1,h2⟩:=h
 exact⟨p,q,e,t _ _ h1,t _ _ h2⟩
theorem Ents.tups {H H':Hp}{es:List Ent}(h:Ents H es) (t:Tups H H'):Ents H' es:=⟨fun e he=>⟨WayAt.tups t (h.ok e he).1,(h.ok e he).2⟩,h.nd⟩
theorem len_sub:∀ {l m:List Int},l.Nodup→(∀ x∈l,x∈m)→l.length≤m.length
 | [],m,_,_=>Nat.zero_le _
 | x::l,m,nd,h=>by
  have hx:=h x (by simp)
  have ih:=len_sub (l:=l) (m:=m.erase x) (List.nodup_cons.mp nd).2 fun y hy=>(List.mem_erase_of_ne (show y≠x from fun z=>(List.nodup_cons.mp nd).1 (by rw [← z];exact hy))).mpr (h y (by simp [hy]))
  have e:=List.length_erase_of_mem hx
  have:0 < m.length:=List.length_pos_of_mem hx
  simp only [List.length_cons]
  omega
theorem Ents.len {H:Hp}{es:List Ent}(h:Ents H es):es.length≤41:=by
 have:=len_sub (m:=(List.range 41).map fun j:Nat=>(j:Int)) h.nd (fun x hx=>by
  obtain⟨e,he,rfl⟩:=List.mem_map.mp hx
  obtain⟨h0,h1⟩:=(h.ok e he).2.2
  exact List.mem_map.mpr ⟨e.k.toNat,List.mem_range.mpr (by omega),by omega⟩)
 simpa using this
def dropE (es:List Ent) (n:Int):List Ent:=es.filter fun e=>decide (e.k≠n)
def putE (es:List Ent) (e:Ent):List Ent:=if (es.any fun x=>decide (x.k=e.k))=true then es.map (fun x=>if x.k=e.k then e else x) else es++[e]
theorem z277:∀ {es:List Ent}{e:Ent},(es.map (·.k)).Nodup→e∈es→valV (dw es) (.inl e.k)=some e.v
 | x::es,e,nd,he=>by
  by_cases z:x.k=e.k
  ·rcases List.mem_cons.mp he with rfl | he
   ·exact valV_pos (p:=((Sum.inl e.k:Key),e.v)) rfl
   ·exact absurd (List.mem_map.mpr ⟨e,he,z.symm⟩) (List.nodup_cons.mp nd).1
  ·rcases List.mem_cons.mp he with rfl | he
   ·exact absurd rfl z
   ·exact(valV_neg (p:=((Sum.inl x.k:Key),x.v)) (fun y=>z (Sum.inl.inj y))).trans (z277 (List.nodup_cons.mp nd).2 he)
theorem z565 {es:List Ent}{e e':Ent}(nd:(es.map (·.k)).Nodup) (he:e∈es) (he':e'∈es) (h:e'.k=e.k):e'=e:=by
 induction es with
 | nil=>cases he
 | cons x es ih=>
  obtain⟨nx,nr⟩:=List.nodup_cons.mp nd
  rcases List.mem_cons.mp he with z | z <;> rcases List.mem_cons.mp he' with y | y
  ·rw [z,y]
  ·exact absurd (List.mem_map.mpr ⟨e',y,by rw [h,z]⟩) nx
  ·exact absurd (List.mem_map.mpr ⟨e,z,by rw [← h,y]⟩) nx
  ·exact ih nr z y
theorem z416:∀ {es:List Ent}{n:Int},(∀ e∈es,e.k≠n)→valV (dw es) (.inl n)=none
 | [],_,_=>rfl
 | x::es,n,h=>(valV_neg (p:=((Sum.inl x.k:Key),x.v)) (fun y=>h x (by simp) (Sum.inl.inj y))).trans (z416 fun e he=>h e (by simp [he]))
theorem dw_len (es:List Ent):(dw es).length=es.length:=by simp [dw,kv]
theorem kv_len (es:List Ent):(kv es).length=es.length:=by simp [kv]
theorem z650 (es:List Ent):(kv es).map (·.1)=es.map (·.k):=by simp [kv]
theorem dw_any (es:List Ent) (n:Int):((dw es).any fun kv=>decide (kv.1=Sum.inl n))=es.any fun x=>decide (x.k=n):=by
 unfold dw kv
 rw [List.map_map,List.any_map]
 refine congrArg (fun f=>List.any es f) (funext fun x=>?_)
 simp [Function.comp]
theorem dw_put (es:List Ent) (e:Ent):putK (dw es) (.inl e.k) e.v=dw (putE es e):=by
 unfold putK putE
 rw [dw_any]
 split
 ·unfold dw kv
  simp only [List.map_map]
  refine List.map_congr_left fun x _=>?_
  simp only [Function.comp]
  by_cases z:x.k=e.k
  ·rw [if_pos (by rw [z]),if_pos z,z]
  ·rw [if_neg (fun y=>z (Sum.inl.inj y)),if_neg z]
 ·simp [dw,kv]
theorem Ents.put {H:Hp}{es:List Ent}{e:Ent}(h:Ents H es) (he:EntOk H e):Ents H (putE es e):=by
 unfold putE
 split
 ·refine⟨fun x hx=>?_,?_⟩
  ·obtain⟨y,hy,rfl⟩:=List.mem_map.mp hx
   split
   ·exact he
   ·exact h.ok y hy
  ·have:(es.map fun x=>if x.k=e.k then e else x).map (·.k)=es.map (·.k):=by
    rw [List.map_map]
    refine List.map_congr_left fun x _=>?_
    simp only [Function.comp]
    split
    ·rename_i z;exact z.symm
    ·rfl
   rw [this]
   exact h.nd
 ·rename_i hn
  refine⟨fun x hx=>?_,?_⟩
  ·rcases List.mem_append.mp hx with z | z
   ·exact h.ok x z
   ·rw [List.mem_singleton.mp z];exact he
  ·rw [List.map_append]
   refine nd_snoc h.nd fun z=>hn ?_
   obtain⟨y,hy,e1⟩:=List.mem_map.mp z
   exact List.any_eq_true.mpr ⟨y,hy,decide_eq_true e1⟩
theorem Ents.drop {H:Hp}{es:List Ent}(n:Int) (h:Ents H es):Ents H (dropE es n):=
 ⟨fun e he=>h.ok e (List.mem_filter.mp he).1,(List.Sublist.map _ List.filter_sublist).nodup h.nd⟩
def Mt (b:Int) (c:List Int) (b':Int) (c':List Int):Prop:=∃ x,First b c b' c' (some x)
theorem mt_iff {b:Int}{c:List Int}{b':Int}{c':List Int}{o:Option (Int × Str)} (h:First b c b' c' o):Mt b c b' c'↔o.isSome=true:=by
 constructor
 ·rintro⟨x,hx⟩
  rw [h.uniq hx]
  rfl
 ·intro z
  obtain⟨x,rfl⟩:=Option.isSome_iff_exists.mp z
  exact⟨x,h⟩
def PutIs (es:List Ent) (n b:Int) (c:List Int):Option Int→Prop
 | none=>∀ e∈es,e.k≠n→¬ Mt b c e.b e.c
 | some k=>k≠n∧(∃ e∈es,e.k=k∧Mt b c e.b e.c)∧∀ e∈es,e.k≠n→Mt b c e.b e.c→k≤e.k
theorem z639 {es:List Ent}{n b:Int}{c:List Int}{ms:List Int}(hp:ms.Perm (es.map (·.k))) (h:∀ e∈es,e.k∈ms.take ms.length→e.k≠n→¬ Mt b c e.b e.c):PutIs es n b c none:=
 fun e he hn=>h e he (by rw [List.take_length];exact hp.mem_iff.mpr (List.mem_map.mpr ⟨e,he,rfl⟩)) hn
theorem z622 {es:List Ent}{n b:Int}{c:List Int}{ms:List Int}{i:Nat}{e:Ent}(hp:ms.Perm (es.map (·.k))) (hs:ms.Pairwise (·≤·)) (hi:ms[i]?=some e.k) (he:e∈es) (hn:e.k≠n) (hm:Mt b c e.b e.c) (h:∀ e∈es,e.k∈ms.take i→e.k≠n→¬ Mt b c e.b e.c):PutIs es n b c (some e.k):=by
 refine⟨hn,⟨e,he,rfl,hm⟩,fun e' he' hn' hm'=>?_⟩
 have hin:e'.k∈ms:=hp.mem_iff.mpr (List.mem_map.mpr ⟨e',he',rfl⟩)
 obtain⟨j,hj⟩:=List.mem_iff_getElem?.mp hin
 by_cases z:j < i
 ·exact absurd hm' (h e' he' (List.mem_iff_getElem?.mpr ⟨j,by rw [List.getElem?_take,if_pos z];exact hj⟩) hn')
 ·rcases Nat.lt_or_ge i j with y | y
  ·exact List.pairwise_iff_getElem.mp hs i j (List.getElem?_eq_some_iff.mp hi).1 (List.getElem?_eq_some_iff.mp hj).1 y |> fun q=>by
    rw [(List.getElem?_eq_some_iff.mp hi).2,(List.getElem?_eq_some_iff.mp hj).2] at q
    exact q
  ·obtain rfl:i=j:=by omega
   have:=Option.some.inj (hi.symm.trans hj)
   omega
theorem z359 {es:List Ent}{n b:Int}{c:List Int}{ms:List Int}{i:Nat}{k:Int}(hi:ms[i]?=some k) (h:∀ e∈es,e.k∈ms.take i→e.k≠n→¬ Mt b c e.b e.c) (h2:∀ e∈es,e.k=k→e.k≠n→¬ Mt b c e.b e.c):∀ e∈es,e.k∈ms.take (i + 1)→e.k≠n→¬ Mt b c e.b e.c:=fun e he ht hn=>by
 rw [List.take_add_one,hi] at ht
 rcases List.mem_append.mp ht with z | z
 ·exact h e he z hn
 ·exact h2 e he (by simpa using z) hn
def wl (d:Addr):List (Str × V):=putF "ways" (.ref d) []
theorem w_ways (d:Addr):(wl d).lookup ("ways":Str)=some (.ref d):=by unfold wl;rw [lookup_putF,if_pos rfl]
theorem w_no (d:Addr){f:Str}(h:f≠"ways"):(wl d).lookup f=none:=by unfold wl;rw [lookup_putF,if_neg h];rfl
structure BookAt (C:Addr) (H:Hp) (p d:Addr) (es:List Ent):Prop where
 ob:∃ dx,H p=some (.ins C dx (wl d))
 tb:H d=some (.dK (dw es))
def SameB (k:Addr) (H H':Hp):Prop:=∀ b o,H b=some o→b≠k→H' b=some o
theorem same_b {k:Addr}{H H':Hp}(s:Same H H'):SameB k H H':=fun b o h _=>s b o h
theorem z76 {k:Addr}{H H1:Hp}{o:HO}(s:SameB k H H1):SameB k H (upd H1 k o):=fun b u h n=>by rw [upd_ne n];exact s b u h n
theorem SameB.new {k:Addr}{H H1:Hp}{l:Addr}{o:HO}(s:SameB k H H1) (nl:H1 l=none):SameB k H (upd H1 l o):=fun b u h n=>(zz0 nl) b u (s b u h n)
theorem SameB.tups {k:Addr}{H H':Hp}(s:SameB k H H') (h:∀ xs,H k≠some (.tup xs)):Tups H H':=fun b xs e=>s b _ e fun z=>h xs (z ▸ e)
theorem BookAt.same {C:Addr}{H H':Hp}{p d:Addr}{es:List Ent}(h:BookAt C H p d es) (s:Same H H'):BookAt C H' p d es:=⟨by obtain⟨dx,e⟩:=h.ob;exact⟨dx,s _ _ e⟩,s _ _ h.tb⟩
def Pair (H:Hp) (x:V) (f g:Addr):Prop:=∃ (t:Addr) (ms:List Int),x=.ref t∧H t=some (.tup [.ref f,.ref g])∧H f=some (.lst (ms.map V.int))∧H g=some (.lst (ms.map V.int))
structure Row where
 p:Addr
 d:Addr
 e:Addr
 es:List Ent
structure Apart (r s:Row):Prop where
 dd:r.d≠s.d
 de:r.d≠s.e
 ed:r.e≠s.d
 ee:r.e≠s.e
structure RowAt (C:Addr) (H:Hp) (r:Row):Prop where
 bk:BookAt C H r.p r.d r.es
 kp:H r.e=some (.dK (dw r.es))
 en:Ents H r.es
 ne:r.d≠r.e
structure Rows (C:Addr) (H:Hp) (rs:List Row):Prop where
 ok:∀ r∈rs,RowAt C H r
 ap:∀ (i j:Nat) (r s:Row),rs[i]?=some r→rs[j]?=some s→i≠j→Apart r s
def SameD (l m:Addr) (H H':Hp):Prop:=∀ b o,H b=some o→b≠l→b≠m→(∀ kvs,o≠.dK kvs)→H' b=some o
def Keep (H H':Hp):Prop:=∀ b o,H b=some o→(∀ xs,o≠.lst xs)→H' b=some o
theorem set_map {α:Type}(f:Row→α){rs:List Row}{w:Nat}{r r':Row}(hw:rs[w]?=some r) (h:f r'=f r):(rs.set w r').map f=rs.map f:=by
 rw [List.map_set,h]
 refine List.ext_getElem? fun i=>?_
 rw [List.getElem?_set]
 by_cases z:w=i
 ·subst z
  rw [if_pos rfl,List.getElem?_map,hw]
  simp [(List.getElem?_eq_some_iff.mp hw).1]
 ·rw [if_neg z]
def Held (l m h:Addr) (H:Hp) (n:Nat):Prop:=∃ xs:List V,H h=some (.lst xs)∧xs.length=n∧∀ x∈xs,∃ f g,Pair H x f g∧(f≠l∧f≠m∧f≠h)∧g≠l∧g≠m∧g≠h
def KeepD (H H':Hp):Prop:=∀ b o,H b=some o→(∀ kvs,o≠.dK kvs)→H' b=some o
structure LawSt (K:PySem.W.Frag) (C a l m h:Addr) (ns:List Int) (H:Hp) (rs:List Row) (n:Nat):Prop where
 sq:(Rd H a (.lst (ns.map V.int))∧a≠l∧a≠m∧a≠h)∨∀ H',SqL K H' a (ns.map V.int)
 hl:H l=some (.lst (rs.map fun r=>V.ref r.p))
 hm:H m=some (.lst (rs.map fun r=>V.ref r.e))
 lm:l≠m
 hn:h≠l
 hk:h≠m
 rows:Rows C H rs
 held:Held l m h H n
def SameL (l m:Addr) (H H':Hp):Prop:=∀ b o,H b=some o→b≠l→b≠m→H' b=some o
theorem z552 {H:Hp}{a b:Addr}{xs:List V}{kvs:List (Key × V)} (h:H a=some (.tup xs)) (g:H b=some (.dK kvs)):a≠b:=ne_of h g (by intro z;cases z)
theorem made {H:Hp}{x dx d:Addr}{o1 o2 o3 o4:HO}(nx:H x=none) (ndx:H dx=none) (nn:dx≠x) (n3:upd (upd H dx o1) x o2 d=none):Same H (upd (upd (upd (upd H dx o1) x o2) d o3) x o4)∧d≠x∧H d=none:=by
 have dn:d≠x:=fun z=>by rw [z,upd_same] at n3;cases n3
 have dd:d≠dx:=fun z=>by rw [upd_ne dn,z,upd_same] at n3;cases n3
 have hd:H d=none:=by rw [upd_ne dn,upd_ne dd] at n3;exact n3
 refine⟨fun b o e=>?_,dn,hd⟩
 rw [upd_ne (ne_of_none e nx),upd_ne (ne_of_none e hd),upd_ne (ne_of_none e nx),upd_ne (ne_of_none e ndx)]
 exact e
theorem z613 {H:Hp}:Ents H []:=⟨fun e he=>(by cases he),List.nodup_nil⟩
end Bk
set_option Elab.async false
set_option linter.all false
set_option maxRecDepth 100000
namespace Bk
open PySem L2 Wy
theorem z584 (b:Int) (c:List Int) (b':Int) (c':List Int):∃ o,First b c b' c' o:=by
 by_cases h:∃ t,b≤t∧b'≤t∧mtAt b c b' c' t≠none
 ·obtain⟨t,h1,h2,h3⟩:=h
  have go:∀ (n:Nat) (t:Int),b≤t→b'≤t→(t - b).toNat < n→mtAt b c b' c' t≠none→∃ o,First b c b' c' o:=by
   intro n
   induction n with
   | zero=>intro t _ _ hn _;omega
   | succ n ih=>
    intro t h1 h2 hn h3
    by_cases z:∃ t',b≤t'∧b'≤t'∧t' < t∧mtAt b c b' c' t'≠none
    ·obtain⟨t',g1,g2,g3,g4⟩:=z
     exact ih t' g1 g2 (by omega) g4
    ·cases hw:mtAt b c b' c' t with
     | none=>exact absurd hw h3
     | some w=>exact⟨some (t,w),h1,h2,hw,fun t' g1 g2 g3=>Classical.byContradiction fun g4=>z ⟨t',g1,g2,g3,g4⟩⟩
  exact go _ t h1 h2 (Nat.lt_succ_self _) h3
 ·exact⟨none,fun t h1 h2=>Classical.byContradiction fun g=>h ⟨t,h1,h2,g⟩⟩
theorem no_mt {b:Int}{c:List Int}{b':Int}{c':List Int}(h:¬ Mt b c b' c'):First b c b' c' none:=by
 obtain⟨o,ho⟩:=z584 b c b' c'
 cases o with
 | none=>exact ho
 | some x=>exact absurd ⟨x,ho⟩ h
theorem z649 {b:Int}{c:List Int}{b':Int}{c':List Int}(h:Mt b c b' c'):Mt b' c' b c:=by
 obtain⟨x,hx⟩:=h
 exact⟨x,hx.comm⟩
def Apt (es:List Ent):Prop:=∀ e∈es,∀ e'∈es,e.k≠e'.k→¬ Mt e.b e.c e'.b e'.c
theorem Apt.put {es:List Ent}{n b:Int}{v:V}{c:List Int}(h:Apt es) (p:PutIs es n b c none):Apt (putE es ⟨n,v,b,c⟩):=by
 have mem:∀ x∈putE es ⟨n,v,b,c⟩,x=⟨n,v,b,c⟩∨(x∈es∧x.k≠n):=fun x hx=>by
  unfold putE at hx
  split at hx
  ·obtain⟨y,hy,rfl⟩:=List.mem_map.mp hx
   split
   ·exact .inl rfl
   ·rename_i z;exact .inr ⟨hy,z⟩
  ·rename_i hn
   rcases List.mem_append.mp hx with z | z
   ·exact .inr ⟨z,fun y=>hn (List.any_eq_true.mpr ⟨x,z,decide_eq_true y⟩)⟩
   ·exact .inl (List.mem_singleton.mp z)
 intro e he e' he' nk hm
 rcases mem e he with rfl | ⟨m1,n1⟩ <;> rcases mem e' he' with rfl | ⟨m2,n2⟩
 ·exact nk rfl
 ·exact p e' m2 n2 hm
 ·exact p e m1 n1 (z649 hm)
 ·exact h e m1 e' m2 nk hm
theorem Apt.sub {es fs:List Ent}(h:Apt es) (s:∀ x∈fs,x∈es):Apt fs:=fun e he e' he' nk hm=>h e (s e he) e' (s e' he') nk hm
theorem z491 {b:Int}{c:List Int}{b':Int}{c':List Int}{t z:Int}(h:¬ Mt b c b' c') (p:plc b c t=.int z) (q:plc b' c' t=.int z):False:=by
 have h1:b≤t:=Int.not_lt.mp fun y=>by rw [z569.mpr y] at p;cases p
 have h2:b'≤t:=Int.not_lt.mp fun y=>by rw [z569.mpr y] at q;cases q
 have:=no_mt h t h1 h2
 unfold mtAt mw at this
 rw [p,q,if_pos rfl] at this
 cases this
def besd (es:List Ent) (n:Int):List Ent:=dropE es n
theorem z461 {es:List Ent}{n:Int}{e:Ent}:e∈besd es n↔e∈es∧e.k≠n:=by simp [besd,dropE]
def whoIs (es:List Ent) (cell t:Int):V:=match es.find? fun e=>decide (plc e.b e.c t=.int cell) with
 | some e=>.int e.k
 | none=>.non
structure ComIs (es:List Ent) (t:Int) (kvs:List (Key × V)):Prop where
 from':∀ (z:Int) (v:V),valV kvs (Sum.inl z)=some v→∃ e∈es,plc e.b e.c (t + 1)=.int z∧plc e.b e.c t=v
 to:∀ e∈es,∀ z:Int,plc e.b e.c (t + 1)=.int z→(valV kvs (Sum.inl z)).isSome=true
 len:kvs.length≤es.length
def OpenIs (es:List Ent) (cell other t:Int):Prop:=∀ e∈es,plc e.b e.c (t + 1)≠.int other∧¬ (plc e.b e.c t=.int other∧plc e.b e.c (t + 1)=.int cell)
theorem z578 {es:List Ent}{t cell other:Int}{kvs:List (Key × V)} (h:ComIs es t kvs) (a:Apt es) (nd:(es.map (·.k)).Nodup):(valV kvs (Sum.inl other)=none∧(valV kvs (Sum.inl cell)).getD .non≠.int other)↔OpenIs es cell other t:=by
 constructor
 ·rintro⟨h1,h2⟩ e he
  refine⟨fun z=>?_,fun z=>?_⟩
  ·have:=h.to e he other z
   rw [h1] at this
   cases this
  ·obtain⟨z1,z2⟩:=z
   obtain⟨v,hv⟩:=Option.isSome_iff_exists.mp (h.to e he cell z2)
   obtain⟨e2,m2,p2,q2⟩:=h.from' cell v hv
   by_cases ek:e2.k=e.k
   ·rw [z565 nd he m2 ek,z1] at q2
    exact h2 (by rw [hv,← q2];rfl)
   ·exact z491 (a e2 m2 e he ek) p2 z2
 ·intro o
  refine⟨?_,fun z=>?_⟩
  ·cases hv:valV kvs (Sum.inl other) with
   | none=>rfl
   | some v=>
    obtain⟨e,he,p,_⟩:=h.from' other v hv
    exact absurd p (o e he).1
  ·cases hv:valV kvs (Sum.inl cell) with
   | none=>rw [hv] at z;cases z
   | some v=>
    rw [hv] at z
    obtain⟨e,he,p,q⟩:=h.from' cell v hv
    exact(o e he).2 ⟨by rw [q];exact z,p⟩
theorem z630 {t:Int}:ComIs [] t []:=⟨fun z v h=>(by cases h),fun e he=>(by cases he),Nat.le_refl _⟩
theorem z609 {es:List Ent}{t:Int}{kvs:List (Key × V)}{e:Ent}(h:ComIs es t kvs) (p:plc e.b e.c (t + 1)=.non):ComIs (es++[e]) t kvs:=by
 refine⟨fun z v hv=>?_,fun x hx z pz=>?_,by rw [List.length_append];have:=h.len;omega⟩
 ·obtain⟨x,hx,r⟩:=h.from' z v hv
  exact⟨x,List.mem_append.mpr (.inl hx),r⟩
 ·rcases List.mem_append.mp hx with y | y
  ·exact h.to x y z pz
  ·rw [List.mem_singleton.mp y,p] at pz;cases pz
theorem z640 {es:List Ent}{t:Int}{kvs kvs':List (Key × V)}{e:Ent}{z0:Int}(h:ComIs es t kvs) (p:plc e.b e.c (t + 1)=.int z0) (hv:∀ j,valV kvs' j=if j=Sum.inl z0 then some (plc e.b e.c t) else valV kvs j) (hl:kvs'.length≤kvs.length + 1):ComIs (es++[e]) t kvs':=by
 refine⟨fun z v hz=>?_,fun x hx z pz=>?_,by rw [List.length_append];have:=h.len;simp;omega⟩
 ·rw [hv] at hz
  split at hz
  ·rename_i y
   cases y
   exact⟨e,by simp,p,Option.some.inj hz⟩
  ·obtain⟨x,hx,r⟩:=h.from' z v hz
   exact⟨x,List.mem_append.mpr (.inl hx),r⟩
 ·rw [hv]
  split
  ·rfl
  ·rename_i y
   rcases List.mem_append.mp hx with w | w
   ·exact h.to x w z pz
   ·rw [List.mem_singleton.mp w,p] at pz
    cases pz
    exact absurd rfl y
def endC (c:List Int):Int:=c.getD (c.length - 1) 0
structure FreeOk (es:List Ent) (cell n:Int):Prop where
 pos:0≤n
 low:∀ e∈es,∀ t,0≤t→plc e.b e.c t=.int cell→t < n
 hit:n=0∨∃ e∈es,plc e.b e.c (n - 1)=.int cell
def FreeIs (es:List Ent) (cell:Int) (v:V):Prop:=(v=.non∧∃ e∈es,endC e.c=cell)∨∃ n,v=.int n∧(∀ e∈es,endC e.c≠cell)∧FreeOk es cell n
theorem z499 {es:List Ent}{i:Nat}{e:Ent}{n:Int}(hi:es[i]?=some e):besd (es.take (i + 1)) n=if e.k=n then besd (es.take i) n else besd (es.take i) n++[e]:=by
 unfold besd dropE
 rw [List.take_add_one,hi,List.filter_append]
 split
 ·rename_i z;simp [z]
 ·rename_i z;simp [z]
theorem z600 (es:List Ent) (n:Int):besd (es.take es.length) n=besd es n:=by rw [List.take_length]
def neV (n:Int):V→Bool
 | .int k=>decide (k≠n)
 | _=>true
def atV (es:List Ent):V→V
 | .int k=>(valV (dw es) (Sum.inl k)).getD .non
 | _=>.non
theorem z419 (es:List Ent):((dw es).map fun kv=>kV kv.1)=es.map fun e=>V.int e.k:=by
 unfold dw kv
 rw [List.map_map,List.map_map]
 rfl
theorem dw_at {es:List Ent}{i:Nat}{k:Key}{v:V}(h:(dw es)[i]?=some (k,v)):∃ e,es[i]?=some e∧k=Sum.inl e.k∧v=e.v:=by
 unfold dw kv at h
 rw [List.getElem?_map,List.getElem?_map] at h
 cases he:es[i]? with
 | none=>rw [he] at h;cases h
 | some e=>
  rw [he] at h
  cases h
  exact⟨e,rfl,rfl,rfl⟩
theorem z426 (es:List Ent) (n:Int) (f:V→V) (g:Ent→V) (h:∀ e∈es,f (.int e.k)=g e):((((dw es).map fun kv=>kV kv.1).filter (neV n)).map f)=(besd es n).map g:=by
 rw [z419]
 unfold besd dropE
 rw [List.filter_map,List.map_map]
 have e:(neV n ∘ fun e:Ent=>V.int e.k)=fun e:Ent=>decide (e.k≠n):=rfl
 rw [e]
 exact List.map_congr_left fun x hx=>h x (List.mem_filter.mp hx).1
theorem z263 {H H2:Hp}{a:Addr}{kvs:List (Key × V)} (h:H a=some (.dK kvs)) (s:SameB a H H2):Same H (upd H2 a (.dK kvs)):=fun b o e=>by
 by_cases z:b=a
 ·subst z
  rw [h] at e
  rw [upd_same,e]
 ·rw [upd_ne z]
  exact s b o e z
theorem fz_get {H:Hp}{d:Addr}{o:Obj}{es:List Ent}{e:Ent}(hf:H d=some (.frz o (.dK (dw es)))) (nd:(es.map (·.k)).Nodup) (he:e∈es):DGet H d (.int e.k) (some e.v):=by
 have:DGet H d (kV (Sum.inl e.k)) (valV (dw es) (Sum.inl e.k)):=.inl ⟨_,_,.inr ⟨o,hf⟩,rfl,rfl⟩
 rw [z277 nd he] at this
 exact this
end Bk
set_option Elab.async false
set_option linter.all false
set_option maxRecDepth 100000
namespace L2
open PySem PySem.Spec PyProof.Rows
def tTryE (K:PySem.W.Frag) (C:Addr) (tb:WXT→TS) (th:Addr→Addr→Option Addr→TS) (te:TS):TS:=fun D σ H=>
 ∃ WE:WXT,tb WE { D with nx:=te D } σ H∧∀ σ' cls dx H',WE σ' cls dx H'→∃ C',cls=.ref C'∧PySem.W.exmOne K (.ref C') (.ref C)=some true∧∀ ea,H' ea=none→th ea C' dx D σ' H'
section
variable {X:Cx}{x n:Str}{C:Addr}{body els:List Stmt}{b₀:Stmt}{suite:List Stmt}{np pos hpos:Pos}{tb:WXT→TS}{th:Addr→Addr→Option Addr→TS}{te:TS}
theorem z637 {L:Addr}{outer:List Env}(hst:X.stack=X.env::outer) (hf:X.env.frame=some L) (hg:Gl X x) (hm:X.mg x=some (.ref C)) (hdb:(x == ("__debug__":Str))=false)
  (hb:∀ pins EE WE,XC (cxTry X pins EE) WE→PSs (cxTry X pins EE) body (tb WE)) (hh:∀ pins ea C' dx ob,MkO C' dx ob→PSs (z132 X pins ea ob) (b₀::suite) (th ea C' dx)) (he:PSs X els te):
  PS X (.Try body [.ExceptHandler (some (.Name x np)) none (b₀::suite) hpos] els [] pos) (tTryE X.K C tb th te):=by
 rintro pins s σ H D I ⟨WE,h1,h2⟩
 refine wpAny_Try_except (thn (hb pins _ WE ⟨fun pins' σ' H' s1 e s2 I' z=>z603 hst hf hg hm hdb I.ok I' z (fun cls dx H' w=>let ⟨C',e1,e2,_⟩:=h2 σ' cls dx H' w;⟨C',e1,e2⟩) fun ea C' dx H2 s5 e5 w hn land=>?_⟩ [] s σ H { D with nx:=te D } (z641 I) h1) fun f s1 q=>?_)
 ·obtain⟨C2,e1,e2,h3⟩:=h2 σ' _ dx H2 w
  cases e1
  exact codeAny_handlers_suite (wpAny_noRaise (land _ _ _ _ fun ob s6 mk I6=>wpAny_noRaise (wpAny_mono (hh pins ea C' dx ob mk [] s6 σ' H2 D I6 (h3 ea hn)) (fun f s7 q7=>SP.unsuite I.ok q7) fun _ _ z=>z)))
 ·have q:=SP.untry I.ok q
  cases f with
  | next=>
   obtain⟨σ',H',I',z⟩:=q
   exact he pins s1 σ' H' D I' z
  | brk=>exact q
  | cont=>exact q
  | ret u=>exact q
end
end L2
set_option Elab.async false
set_option linter.all false
set_option maxRecDepth 100000
namespace L2
open PySem PySem.Spec PyProof.Rows
abbrev Db (x:Str):Prop:=(x == ("__debug__":Str))=false
abbrev Nn (x:Str):Prop:=x≠"__name__"
abbrev Lo (st:Stmt) (x:Str):Prop:=(defScope st).names.lookup x=some .local
abbrev Gi (st:Stmt) (x:Str):Prop:=(defScope st).names.lookup x=some .globalImplicit
section
variable {P:Program}{w:World}{K:PySem.W.Frag}{mg:Str→Option Value}{base:Heap}{x q:Str}{st:Stmt}{f:Addr}{its:Array Value}{ps:List Str}
def FN (K:PySem.W.Frag) (x q:Str) (st:Stmt) (f:Addr):Prop:=∃ fd,Fun K x q st f fd
def FND (K:PySem.W.Frag) (x q:Str) (st:Stmt) (f:Addr) (its:Array Value):Prop:=∃ fd,FunD K x q st f fd its
def FB (K:PySem.W.Frag) (x q:Str) (st:Stmt) (f:Addr) (ps:List Str):Prop:=∃ fd,Fun K x q st f fd∧Binds K fd ps []
def FBD (K:PySem.W.Frag) (x q:Str) (st:Stmt) (f:Addr) (its:Array Value) (ps:List Str):Prop:=∃ fd,FunD K x q st f fd its∧Binds K fd ps []
def Zn (P:Program) (w:World) (K:PySem.W.Frag) (mg:Str→Option Value) (base:Heap) (cx:CXT) (k:Nat) (f:Addr) (ps:List Str) (sp:Sp):Prop:=∃ fd:FuncData,Binds K fd ps []∧FnOk P w K mg base cx k f fd ps sp
theorem fn_mk {oc:Value}{od an:Option Addr}{osl:Array (Option Value)}{kV doc pm cdv ct:Value}(l:K.lookup f=some ⟨oc,od,.func (PySem.W.fnOf x q (defArgs st) (defBody st) (defScope st) .none kV doc pm an cdv ct),osl⟩)
  (c:PySem.W.codeIn K cdv q=true) (k:PySem.W.keepIn K (.ref f)=true):FN K x q st f:=⟨_,fun_mk l c k⟩
theorem FN.kp (h:FN K x q st f):PySem.W.keepIn K (.ref f)=true:=let ⟨_,h⟩:=h;h.kp
theorem FND.kp (h:FND K x q st f its):PySem.W.keepIn K (.ref f)=true:=let ⟨_,h⟩:=h;h.kp
theorem FN.b (h:FN K x q st f) (b:∀ (kV doc pm:Value) (an:Option Addr) (cdv ct:Value) (us:List Value),us.length=ps.length→bindArgs (PySem.W.fnOf x q (defArgs st) (defBody st) (defScope st) .none kV doc pm an cdv ct) ⟨us,[]⟩=pure (ps.zip us)):FB K x q st f ps:=
 let ⟨fd,h⟩:=h;⟨fd,h,h.binds b⟩
theorem FND.b (h:FND K x q st f its) (b:∀ (T:Addr) (kV doc pm:Value) (an:Option Addr) (cdv ct:Value) (us:List Value),(us++[]).length=ps.length→∃ k:Option (Array Value)→Sem (List (Str × Value)),
   bindArgs (PySem.W.fnOf x q (defArgs st) (defBody st) (defScope st) (.ref T) kV doc pm an cdv ct) ⟨us,[]⟩=(seqItems? (.ref T) >>= k)∧k (some its)=pure (ps.zip (us++[]))):FBD K x q st f its ps:=
 let ⟨fd,h⟩:=h;⟨fd,h,h.binds b⟩
theorem fnd_mk {oc:Value}{od an:Option Addr}{osl:Array (Option Value)}{kV doc pm cdv ct:Value}{T:Addr}{oc':Value}{od':Option Addr}{n:Nat}{sl':Array (Option Value)} (l:K.lookup f=some ⟨oc,od,.func (PySem.W.fnOf x q (defArgs st) (defBody st) (defScope st) (.ref T) kV doc pm an cdv ct),osl⟩)
  (c:PySem.W.codeIn K cdv q=true) (k:PySem.W.keepIn K (.ref f)=true) (d:K.lookup T=some ⟨oc',od',.seq its n,sl'⟩):FND K x q st f its:=⟨_,z633 l c k d⟩
end
end L2
set_option Elab.async false
set_option linter.all false
set_option maxRecDepth 100000
namespace L2
open PySem PySem.Spec PyProof.Rows
def lk:Option NameKind→Bool
 | some .local=>true
 | some .cell=>true
 | _=>false
def gk:Option NameKind→Bool
 | some .globalImplicit=>true
 | _=>false
abbrev LV (st:Stmt) (x:Str):Prop:=(lk ((defScope st).names.lookup x) && !(x == ("__debug__":Str)) && !(x == ("__classdict__":Str)))=true
abbrev GV (st:Stmt) (x:Str):Prop:=(gk ((defScope st).names.lookup x) && !(x == ("__debug__":Str)) && !(x == ("__name__":Str)))=true
theorem and3 {a b c:Bool}(h:(a && !b && !c)=true):a=true∧b=false∧c=false:=by
 cases a <;> cases b <;> cases c <;> first | exact⟨rfl,rfl,rfl⟩ | cases h
theorem lk_of {o:Option NameKind}(h:lk o=true):o=some .local∨o=some .cell:=by
 unfold lk at h
 split at h
 ·exact .inl rfl
 ·exact .inr rfl
 ·cases h
theorem gk_of {o:Option NameKind}(h:gk o=true):o=some .globalImplicit:=by
 unfold gk at h
 split at h
 ·rfl
 ·cases h
section
variable {X:Cx}{st:Stmt}{x:Str}{pos pos' p apos:Pos}{e o:Expr}{es:List Expr}{te ta:TE}{t:TA}{k k0:Nat}{f C:Addr}{ps:List Str}{sp:Sp}{m:Str}{r:List V→Hp→VK→Prop}{id T:String}
def tVr (i:Nat):TE:=fun σ H Q=>match σ[i]? with
 | some (some v)=>Q v H
 | _=>False
theorem z615 {i:Nat}{σ:St}{H:Hp}{Q:VK}(h:tVr i σ H Q):tVar i σ H Q:=by
 unfold tVr at h
 split at h
 ·rename_i v e
  exact⟨v,e,h⟩
 ·exact h.elim
theorem pvn (i:Nat) (h:LV st x) (hN:X.N[i]?=some x:=by rfl) (e1:X.env.scope=defScope st:=by rfl):PE X (.Name x pos) (tVr i):=by
 obtain⟨a,b,c⟩:=and3 h
 exact fun pins s σ H Q I q=>pe_var hN (vis_of ((lk_of a).imp id .inl) e1) b c pins s σ H Q I (z615 q)
theorem pst (i:Nat) (hN:X.N.Nodup) (h:LV st x) (he:PE X e te) (hi:X.N[i]?=some x:=by rfl) (e1:X.env.scope=defScope st:=by rfl) (hs:swapsWith e (some (.Name x pos')) pos.line X.env=pure false:=by rfl) (hf:X.fn x=true∨X.env.scope.names.lookup x=some .local:=by first | exact .inl rfl | exact .inr rfl | assumption):
  PS X (.Assign [.Name x pos'] e pos) (tAsg te (gName i)):=ps_set hN hi (loc_of (lk_of (and3 h).1) e1) he hs hf
theorem pag (i:Nat){op:Operator}{ti:TIp}(hN:X.N.Nodup) (h:LV st x) (he:PE X e te) (ho:PIp X op ti) (hi:X.N[i]?=some x:=by rfl) (e1:X.env.scope=defScope st:=by rfl) (hf:X.fn x=true∨X.env.scope.names.lookup x=some .local:=by first | exact .inl rfl | exact .inr rfl | assumption):
  PS X (.AugAssign (.Name x pos') op e pos) (tAug i te ti):=ps_aug hN hi (loc_of (lk_of (and3 h).1) e1) he ho hf
theorem pgn (i:Nat) (hN:X.N.Nodup) (h:LV st x) (hi:X.N[i]?=some x:=by rfl) (e1:X.env.scope=defScope st:=by rfl) (hf:X.fn x=true∨X.env.scope.names.lookup x=some .local:=by first | exact .inl rfl | exact .inr rfl | assumption):PG X (.Name x pos) (gName i):=pg_name hN hi (loc_of (lk_of (and3 h).1) e1) hf
theorem pac (ha:PE X e te) (hr:PA X es t) (h:plainE e=true:=by rfl):PA X (e::es) (tCons te t):=pa_cons ha hr (stp h)
theorem gl2 (h:GV st x) (e1:X.env.scope=defScope st:=by rfl):Gl X x:=gl_of (gk_of (and3 h).1) e1
theorem nn2 (h:GV st x):x≠"__name__":=fun z=>by
 have:=(and3 h).2.2
 rw [z] at this
 exact absurd this (by decide)
theorem pcl (Z:Zn X.prog X.w X.K X.mg X.base CX0 k f ps sp) (hr:Room k0 X.A) (g:GV st x) (hm:X.mg x=some (.ref f)) (hk:PySem.W.keepIn X.K (.ref f)=true) (ha:PA X (e::es) t) (h1:k≤k0:=by decide) (e1:X.env.scope=defScope st:=by rfl) (he:plainE e=true:=by rfl) (hpl:plainAll es=true:=by rfl):
  PE X (.Call (.Name x p) (e::es) [] pos) (tCall sp [] E0 t):=
 let ⟨_,hb,F⟩:=Z
 pe_call F (hr.mono h1) (gl2 g e1) hm hk hb .nil pass0 ha (and3 g).2.1 (stp he) (anp hpl)
theorem pclC (Z:Zn X.prog X.w X.K X.mg X.base CX0 k f ps sp) (hr:Room k0 X.A) (hm:X.mg x=some (.ref f)) (hk:PySem.W.keepIn X.K (.ref f)=true) (d:Db x) (ha:PA X (e::es) t) (h1:k≤k0:=by decide) (hg:Gl X x:=by rfl) (he:plainE e=true:=by rfl) (hpl:plainAll es=true:=by rfl):
  PE X (.Call (.Name x p) (e::es) [] pos) (tCall sp [] E0 t):=
 let ⟨_,hb,F⟩:=Z
 pe_call F (hr.mono h1) hg hm hk hb .nil pass0 ha d (stp he) (anp hpl)
theorem pmk (M:Mk X.K C f) (Z:Zn X.prog X.w X.K X.mg X.base CX0 k f ps sp) (hr:Room k0 X.A) (g:GV st x) (hm:X.mg x=some (.ref C)) (ha:PA X (e::es) t) (h1:k + 1≤k0:=by decide) (e1:X.env.scope=defScope st:=by rfl) (he:plainE e=true:=by rfl) (hpl:plainAll es=true:=by rfl):
  PE X (.Call (.Name x p) (e::es) [] pos) (tMake C sp [] E0 t):=
 let ⟨_,hb,F⟩:=Z
 pe_make M F (hr.mono h1) (gl2 g e1) hm hb .nil pass0 ha (and3 g).2.1 (stp he) (anp hpl)
theorem pmk0 (M:Mk X.K C f) (Z:Zn X.prog X.w X.K X.mg X.base CX0 k f ps sp) (hr:Room k0 X.A) (g:GV st x) (hm:X.mg x=some (.ref C)) (h1:k + 1≤k0:=by decide) (e1:X.env.scope=defScope st:=by rfl):PE X (.Call (.Name x p) [] [] pos) (tMake C sp [] E0 tNil):=
 let ⟨_,hb,F⟩:=Z
 pe_make0 M F (hr.mono h1) (gl2 g e1) hm hb .nil pass0 (and3 g).2.1
theorem pcb (hc:CallR X (.builtin id) r) (g:GV st x) (hm:X.mg x=none) (hv:bootBuiltins x=some (.builtin id)) (ha:PA X (e::es) t) (e1:X.env.scope=defScope st:=by rfl) (he:plainE e=true:=by rfl) (hpl:plainAll es=true:=by rfl):PE X (.Call (.Name x p) (e::es) [] pos) (tCB r t):=
 pe_callB hc (gl2 g e1) hm hv ha (nn2 g) (and3 g).2.1 (stp he) (anp hpl)
theorem pct (hc:CallR X (.type T) r) (g:GV st x) (hm:X.mg x=none) (hv:bootBuiltins x=some (.type T)) (ha:PA X (e::es) t) (e1:X.env.scope=defScope st:=by rfl) (he:plainE e=true:=by rfl) (hpl:plainAll es=true:=by rfl):PE X (.Call (.Name x p) (e::es) [] pos) (tCB r t):=
 pe_callTy hc (gl2 g e1) hm hv ha (nn2 g) (and3 g).2.1 (stp he) (anp hpl)
theorem pmt {pl:Sem Bool}(he:PE X o ta) (c:Cls X.K C) (hm:Meth X.K C m f) (Z:Zn X.prog X.w X.K X.mg X.base CX0 k f ps sp) (hr:Room k0 X.A) (ha:PA X (e::es) t) (h1:k≤k0:=by decide) (hst:plainE e=true:=by rfl) (hpl:plainAll es=true:=by rfl)
  (ht:eval (.Call (.Attribute o m apos) (e::es) [] pos) X.env=(eval o X.env >>= fun ov=>standAt apos.atName >>= fun _=>holding [ov] (getMethod ov m pl) >>= fun r=>callWith pos r.1 r.2 (backTo pos (starEach (e::es) X.env)) (backToKw pos (keywordEach [] X.env))):=by rfl):PE X (.Call (.Attribute o m apos) (e::es) [] pos) (tMeth C m sp [] E0 ta t):=
 let ⟨_,hb,F⟩:=Z
 pe_meth he c hm F (hr.mono h1) hb .nil pass0 ha (stp hst) (anp hpl) ht
theorem pm0 {pl:Sem Bool}(he:PE X o ta) (c:Cls X.K C) (hm:Meth X.K C m f) (Z:Zn X.prog X.w X.K X.mg X.base CX0 k f ps sp) (hr:Room k0 X.A) (h1:k≤k0:=by decide)
  (ht:eval (.Call (.Attribute o m apos) [] [] pos) X.env=(eval o X.env >>= fun ov=>standAt apos.atName >>= fun _=>holding [ov] (getMethod ov m pl) >>= fun r=>callWith pos r.1 r.2 (backTo pos (starEach [] X.env)) (backToKw pos (keywordEach [] X.env))):=by rfl):PE X (.Call (.Attribute o m apos) [] [] pos) (tMeth C m sp [] E0 ta tNil):=
 let ⟨_,hb,F⟩:=Z
 pe_meth0 he c hm F (hr.mono h1) hb .nil pass0 ht
theorem dcn {j:Nat}{tab:List (Addr × Sp)} (cl:Cls X.K C) (hm:Meth X.K C m f) (Z:Zn X.prog X.w X.K X.mg X.base CX0 j f ps sp) (rr:∀ e∈tab,Disp X m k ps e) (hj:j≤k:=by decide):∀ e∈(C,sp)::tab,Disp X m k ps e:=
 let ⟨_,hb,F⟩:=Z
 z527 cl hm F hj hb rr
theorem ptc {a b:Expr}{ta tb:TE}{op:CmpOp}{r:R2}(ho:OpR X (compareOp op) r) (ha:PE X a ta) (hb:PE X b tb) (hm:behindInMarks op b=false:=by first | exact nomark _ | with_unfolding_all rfl):PT X (.Compare a [op] [b] pos) (tTest (tOp r ta tb)):=pt_cmpR ho ha hb hm
theorem pec {a b:Expr}{ta tb:TE}{op:CmpOp}{r:R2}(ho:OpR X (compareOp op) r) (ha:PE X a ta) (hb:PE X b tb) (hm:behindInMarks op b=false:=by first | exact nomark _ | with_unfolding_all rfl):PE X (.Compare a [op] [b] pos) (tOp r ta tb):=pe_cmpR ho ha hb hm
theorem pgl {v:V}{u:Value}(g:GV st x) (hm:X.mg x=some u) (rv:RelV v u) (e1:X.env.scope=defScope st:=by rfl):PE X (.Name x pos) (tC v):=pe_glob (gl2 g e1) hm rv (and3 g).2.1
theorem pbl {v:V}{u:Value}(g:GV st x) (hm:X.mg x=none) (hv:bootBuiltins x=some u) (rv:RelV v u) (e1:X.env.scope=defScope st:=by rfl):PE X (.Name x pos) (tC v):=pe_bltn (gl2 g e1) hm hv rv (nn2 g) (and3 g).2.1
end
end L2
namespace L2
open PySem PySem.Spec PyProof.Rows
theorem z127 {K:PySem.W.Frag}{a:Addr}{xs:List V}{g:TG}{tb:TS}{D:Ends}{σ:St}{H:Hp}(Pv:Nat→St→Hp→Prop) (h0:Pv 0 σ H) (hl:∀ i σ H,i≤xs.length→Pv i σ H→SqL K H a xs)
  (hs:∀ i x σ H (N:St→Hp→Prop),xs[i]?=some x→Pv i σ H→(∀ σ' H',Pv (i + 1) σ' H'→N σ' H')→g x σ H fun σ2 H2=>tb { D with nx:=N,ct:=N,bk:=D.nx } σ2 H2) (hd:∀ σ H,Pv xs.length σ H→D.nx σ H):
  ∃ W:Nat→Nat→St→Hp→Prop,(∃ m,W 0 m σ H)∧∀ i m σ H,W i m σ H→
   ((Itl K a).stop i H∧D.nx σ H)∨((Itl K a).go i H∧∃ N:St→Hp→Prop,(∀ σ' H',N σ' H'→∃ m',m' < m∧W (i + 1) m' σ' H')∧∀ x H',(Itl K a).yld i H x H'→g x σ H' fun σ2 H2=>tb { D with nx:=N,ct:=N,bk:=D.nx } σ2 H2):=
 for_list Pv h0 hl (fun i x σ H hx p=>hs i x σ H _ hx p fun _ _ z=>z) hd
theorem z142 {lo:Int}{n:Nat}{g:TG}{tb:TS}{D:Ends}{σ:St}{H:Hp}(Pv:Nat→St→Hp→Prop) (h0:Pv 0 σ H)
  (hs:∀ i σ H (N:St→Hp→Prop),i < n→Pv i σ H→(∀ σ' H',Pv (i + 1) σ' H'→N σ' H')→g (.int (lo + i)) σ H fun σ2 H2=>tb { D with nx:=N,ct:=N,bk:=D.nx } σ2 H2) (hd:∀ σ H,Pv n σ H→D.nx σ H):
  ∃ W:Nat→Nat→St→Hp→Prop,(∃ m,W 0 m σ H)∧∀ i m σ H,W i m σ H→
   ((Itr lo n).stop i H∧D.nx σ H)∨((Itr lo n).go i H∧∃ N:St→Hp→Prop,(∀ σ' H',N σ' H'→∃ m',m' < m∧W (i + 1) m' σ' H')∧∀ x H',(Itr lo n).yld i H x H'→g x σ H' fun σ2 H2=>tb { D with nx:=N,ct:=N,bk:=D.nx } σ2 H2):=
 for_range Pv h0 (fun i σ H hi p=>hs i σ H _ hi p fun _ _ z=>z) hd
theorem z391 {a:Addr}{o:Obj}{kvs:List (List Key × V)}{g:TG}{tb:TS}{D:Ends}{σ:St}{H:Hp}(Pv:Nat→St→Hp→Prop) (h0:Pv 0 σ H) (hl:∀ i σ H,i≤kvs.length→Pv i σ H→H a=some (.frz o (.dT kvs)))
  (hs:∀ i k v b σ H (N:St→Hp→Prop),kvs[i]?=some (k,v)→H b=some (.tup (k.map kV))→Pv i σ H→(∀ σ' H',Pv (i + 1) σ' H'→N σ' H')→g (.ref b) σ H fun σ2 H2=>tb { D with nx:=N,ct:=N,bk:=D.nx } σ2 H2) (hd:∀ σ H,Pv kvs.length σ H→D.nx σ H):
  ∃ W:Nat→Nat→St→Hp→Prop,(∃ m,W 0 m σ H)∧∀ i m σ H,W i m σ H→
   ((Itd a o kvs).stop i H∧D.nx σ H)∨((Itd a o kvs).go i H∧∃ N:St→Hp→Prop,(∀ σ' H',N σ' H'→∃ m',m' < m∧W (i + 1) m' σ' H')∧∀ x H',(Itd a o kvs).yld i H x H'→g x σ H' fun σ2 H2=>tb { D with nx:=N,ct:=N,bk:=D.nx } σ2 H2):=
 z501 Pv h0 hl (fun i k v b σ H hk hb p=>hs i k v b σ H _ hk hb p fun _ _ z=>z) hd
end L2
set_option Elab.async false
set_option linter.all false
set_option maxRecDepth 100000
namespace L2
open PySem PySem.Spec PyProof.Rows
section
variable {prog:Program}{w:World}{K:Type} [DecidableEq K]{knd:HeapKind prog w K}{A:Around}{E:Value→Shared→Prop}{s:Shared}
end
def hashK:List Key→Int:=fun ks=>reduceHash (Builtin.Tuple.tupleHashOf (ks.map fun k=>match k with | .inl i=>hashInt i | .inr _=>0))
def IntKey (k:List Key):Prop:=∀ x∈k,∃ i:Int,x=.inl i
section
variable {X:Cx}{K:PySem.W.Frag}
theorem z604 (hK:X.K=K):SlR X (rSlL K):=by subst hK;exact sl_list
theorem z595 (hK:X.K=K):MtR X "str.join" (rJoin K):=by subst hK;exact z407
theorem pe_bmK {o e:Expr}{es:List Expr}{to:TE}{t:TA}{name:Str}{apos cpos:Pos}{T id:String}{r:V→List V→Hp→VK→Prop}(hK:X.K=K) (pa:PlainAttrs T) (slot:Slot T name id) (hty:typeOf (.builtin id)=pure (.type "method_descriptor")) (hm:MtR X id r) (ho:PE X o to) (ha:PA X (e::es) t)
  (h1:attributeBase o name X.env (eval o X.env)=eval o X.env:=by rfl) (h2:((backTo cpos (starEach (e::es) X.env)).all (fun x=>!x.1) && (backToKw cpos (keywordEach [] X.env)).all (fun x=>x.1.isSome) && decide ((e::es).length + ([]:List Keyword).length + (if ([]:List Keyword).isEmpty then 0 else 1) < 30))=true:=by rfl)
  (h3:(apos.endLine == cpos.line)=true:=by rfl) (h4:starEach (e::es) X.env=(false,eval e X.env)::starEach es X.env:=by rfl) (h5:(backTo cpos (starEach es X.env)).any (·.1)=false:=by rfl):PE X (.Call (.Attribute o name apos) (e::es) [] cpos) (tBM K T r to t):=by subst hK;exact pe_bm pa slot hty hm ho ha h1 h2 h3 h4 h5
end
theorem z395 {K:PySem.W.Frag}{a:Addr}{H:Hp}{ts:List Addr}{u v:Nat→V}{tt:TT}{te:TE}{cs:St}{F:List V→Hp→Prop}(Pv:Nat→List V→Hp→Prop) (h0:Pv 0 [] H) (hl:∀ i ys H,i≤ts.length→Pv i ys H→SqL K H a (ts.map V.ref)) (ht:∀ i ys H t,ts[i]?=some t→Pv i ys H→SqT K H t [u i,v i])
  (hs:∀ i ys H,i < ts.length→Pv i ys H→tt (some (u i)::some (v i)::cs) H fun b H3=>if b=true then te (some (u i)::some (v i)::cs) H3 fun y H4=>ys.length≤sizeLine∧Pv (i + 1) (ys++[y]) H4 else Pv (i + 1) ys H3)
  (hd:∀ ys H,Pv ts.length ys H→ys.length≤sizeLine∧F ys H):∃ W:Nat→Nat→List V→Hp→Prop,(∃ m,W 0 m [] H)∧CompW (Itl K a) (gTup K 2 (gCons (gName 0) (gCons (gName 1) gNil))) tt te (none::none::cs) W F:=by
 refine⟨fun i m ys H'=>m=ts.length - i∧i≤ts.length∧Pv i ys H',⟨ts.length,by simp,Nat.zero_le _,h0⟩,?_⟩
 rintro i m ys H' ⟨rfl,hi,p⟩
 have S:=src_list (hl i ys H' hi p)
 by_cases hlt:i < ts.length
 ·refine .inr ⟨S.go i (by rw [List.length_map];exact hlt),fun ys' H''=>Pv (i + 1) ys' H'',fun ys' H'' p'=>⟨ts.length - (i + 1),by omega,rfl,hlt,p'⟩,fun x H'' y=>?_⟩
  obtain⟨rfl,hx⟩:=S.yld i x H'' (by rw [List.length_map];exact hlt) y
  rw [List.getElem?_map] at hx
  obtain⟨t,e,rfl⟩:=Option.map_eq_some_iff.mp hx
  refine⟨t,[u i,v i],rfl,ht i ys _ t e p,rfl,u i,[v i],rfl,v i,[],rfl,rfl,⟨by simp,fun j z hz=>?_⟩,hs i ys _ hlt p⟩
  match j,hz with
  | 0,hz=>cases hz
  | 1,hz=>cases hz
  | (j + 2),hz=>exact hz
 ·have e:i=ts.length:=by omega
  subst e
  exact .inl ⟨by have:=S.stop;rwa [List.length_map] at this,hd ys H' p⟩
end L2
set_option Elab.async false
set_option linter.all false
set_option maxRecDepth 100000
namespace L2
open PySem PySem.Spec PyProof.Rows
theorem walksT {prog:Program}{w:World}{A:Around}{I d:Addr}{od:Obj}{es:Array DictEntry}{ep:Nat}(hh:A.handled=none) (hne:d≠I) (hdat:od.data=.dict es ep):
  Walks prog w A I [I,d] [I] es.size (fun i v=>∃ e,es[i]?=some e∧v=e.key) (fun i h=>h.IsKeyIter I d i es.size ep∧h.get? d=some od) where
 sub:=fun b hb=>by rw [List.mem_singleton.mp hb];exact List.mem_cons_self
 frame:=fun _ _ _ st hk=>⟨st.1.at fun o e=>hk I List.mem_cons_self o e,hk d (by simp) od st.2⟩
 item:=fun i s Q E hi st hQ=>z266 st.1 st.2 hdat (Array.getElem?_eq_getElem hi) fun h' st' sb=>hQ _ h' s.toks ⟨_,Array.getElem?_eq_getElem hi,rfl⟩ ⟨st',(sb.2 d hne).trans st.2⟩ fun b o hb e=>(sb.2 b (fun z=>hb (by rw [z];exact List.mem_singleton.mpr rfl))).trans e
 done:=fun s Q E st hQ=>z307 (.inl hh) st.1 st.2 hdat (Nat.le_refl _) fun h' he=>hQ h' s.toks fun b o hb e=>he b o (fun z=>hb (by rw [z];exact List.mem_singleton.mpr rfl)) e
 self:=fun _ _ _ _ st hQ=>wpAny_pyIter_keyiter st.1 hQ
theorem srcT {prog:Program}{w:World}{d:Addr}{od:Obj}{es:Array DictEntry}{ep:Nat}(hd:(d == sysModules)=false) (hc:od.ExactDict) (hdat:od.data=.dict es ep):PySem.W.KdlSrc prog w "dict" d d es.size (fun i v=>∃ e,es[i]?=some e∧v=e.key) (fun h=>h.get? d=some od) where
 type:=fun _ h=>⟨od,h,hc.1⟩
 there:=fun _ h=>⟨Heap.lt_size h,Heap.lt_size h⟩
 keep:=fun _ _ h k=>k d (.inl rfl) od h
 notList:=by decide
 notTuple:=by decide
 hint:=fun _ _ _ _ h hq=>PySem.W.kdl_hint_dict ⟨od,h,hc.1⟩ hq
 iter:=fun _ s hh h=>⟨_,_,(fun _ _ hq=>z183 hd h hc hdat hq),walksT hh (Nat.ne_of_lt (Heap.lt_size h)) hdat,⟨⟨_,Heap.get?_push_size _ rfl,rfl,rfl⟩,Heap.get?_push_of_some _ h⟩⟩
def rListT:List V→Hp→VK→Prop:=fun xs H Q=>∃ p kvs,xs=[.ref p]∧H p=some (.dT kvs)∧∀ l bs,H l=none→Paired (fun b (kv:List Key × V)=>H b=some (.tup (kv.1.map kV))) bs kvs→Q (.ref l) (upd H l (.lst (bs.map V.ref)))
theorem z451 {H:Hp}{kvs:List (List Key × V)}{xs:List (List Key × Addr × Value)} (r:KT H kvs xs):∀ {acc:List Value},acc.length=xs.length→(∀ (j:Nat) (v:Value),acc[j]?=some v→∃ x,xs[j]?=some x∧v=Value.ref x.2.1)→
  ∃ bs:List Addr,Vals (bs.map V.ref) acc∧Paired (fun b (kv:List Key × V)=>H b=some (.tup (kv.1.map kV))) bs kvs:=by
 induction r with
 | nil=>intro acc hl _;cases acc with | nil=>exact⟨[],.nil,.nil⟩ | cons a r=>cases hl
 | @cons p x kvs xs h r ih=>
  intro acc hl ha
  cases acc with
  | nil=>cases hl
  | cons a acc=>
   obtain⟨y,hy,e⟩:=ha 0 a rfl
   cases hy
   obtain⟨bs,v,q⟩:=ih (acc:=acc) (by simpa using hl) fun j v hv=>by
    obtain⟨y,hy,e⟩:=ha (j + 1) v (by rw [List.getElem?_cons_succ];exact hv)
    rw [List.getElem?_cons_succ] at hy
    exact⟨y,hy,e⟩
   exact⟨x.2.1::bs,.cons e v,.cons h.2.1 q⟩
theorem z435 {X:Cx}(hc:X.calm=true):CallR X (.type "list") rListT:=by
 intro pins s σ H xs us Q I r h
 obtain⟨p,kvs,rfl,e,q⟩:=h
 obtain⟨u,rfl,rx⟩:=vals1 r
 cases rx
 obtain⟨z,hd,ys,rel,dd⟩:=dt_of I.hok e
 obtain⟨o,es,ep,ho,hex,hdat,he,his,hn⟩:=id dd
 have hsz:es.size=ys.length:=size_of_entries he
 refine PySem.W.kdl_call (srcT hd hex hdat) (I.ok.hd hc) ho (by rw [hsz,← Paired.length rel];exact z) fun h' tk acc c hk hl hacc=>?_
 obtain⟨bs,vb,pb⟩:=z451 rel (acc:=acc.toList) (by rw [Array.length_toList,hacc.1,hsz]) fun j v hv=>by
  obtain⟨en,h1,h2⟩:=hacc.2 j v (by simpa using hv)
  rw [entry_at he j] at h1
  obtain⟨y,hy,rfl⟩:=Option.map_eq_some_iff.mp h1
  exact⟨y,hy,h2⟩
 have lb:(bs.map V.ref).length≤sizeLine:=by rw [List.length_map,Paired.length pb];exact z
 exact⟨.ref s.heap.objs.size,_,I.laid (t':=tk) (o:=.lst (bs.map V.ref)) (fun b o hb=>hk b o hb) (Nat.le_refl _) (show ObjOk X.prog X.w _ h' _ (.lst (bs.map V.ref)) from⟨lb,acc.toList,c,vb,by rw [hl]⟩),rfl,q _ bs (I.hok.fresh (Nat.le_refl _)) pb⟩
end L2
set_option Elab.async false
set_option linter.all false
set_option maxRecDepth 100000
namespace Ly
open PySem L2
section
variable {κ:Type} [DecidableEq κ]
def qAt (kvs:List (κ × V)) (k:κ) (d:Int):Int:=match valV kvs k with
 | some (.int q)=>q
 | _=>d
def addP (kvs:List (κ × V)) (p:κ × Int):List (κ × V):=if qAt kvs p.1 (-1) < p.2 then putK kvs p.1 (.int p.2) else kvs
structure Nums (kvs:List (κ × V)):Prop where
 nn:∀ k v,valV kvs k=some v→∃ q:Int,v=.int q∧0≤q
 nd:(kvs.map (·.1)).Nodup
theorem z586:Nums ([]:List (κ × V)):=⟨fun k v h=>(by cases h),List.nodup_nil⟩
theorem z265 {kvs:List (κ × V)}{k:κ}{v:V}(h:(valV kvs k).isSome=true):(putK kvs k v).map (·.1)=kvs.map (·.1):=by
 unfold putK
 rw [valV_any,if_pos h,List.map_map]
 refine List.map_congr_left fun p _=>?_
 show (if p.1=k then(p.1,v) else p).1=p.1
 split <;> rfl
theorem nd_put {kvs:List (κ × V)}{k:κ}{v:V}(hn:(kvs.map (·.1)).Nodup):((putK kvs k v).map (·.1)).Nodup:=by
 cases h:valV kvs k with
 | none=>exact nd_putK v hn h
 | some x=>rw [z265 (by rw [h];rfl)];exact hn
theorem z444 {kvs:List (κ × V)}{k:κ}{v:V}{j:κ}(h:j∈(putK kvs k v).map (·.1)):j=k∨j∈kvs.map (·.1):=by
 cases q:valV kvs k with
 | none=>
  rw [putK_new v q,List.map_append] at h
  rcases List.mem_append.mp h with y | y
  ·exact .inr y
  ·exact .inl (by simpa using y)
 | some x=>rw [z265 (by rw [q];rfl)] at h;exact .inr h
theorem Nums.put {kvs:List (κ × V)}{k:κ}{q:Int}(h:Nums kvs) (h0:0≤q):Nums (putK kvs k (.int q)):=by
 refine⟨fun j v hv=>?_,nd_put h.nd⟩
 rw [valV_put] at hv
 split at hv
 ·cases hv;exact⟨q,rfl,h0⟩
 ·exact h.nn j v hv
theorem Nums.add {kvs:List (κ × V)}{p:κ × Int}(h:Nums kvs) (h0:0≤p.2):Nums (addP kvs p):=by
 unfold addP
 split
 ·exact h.put h0
 ·exact h
theorem val_in {kvs:List (κ × V)}{p:κ × V}(nd:(kvs.map (·.1)).Nodup) (hp:p∈kvs):valV kvs p.1=some p.2:=by
 induction kvs with
 | nil=>cases hp
 | cons x r ih=>
  obtain⟨n1,n2⟩:=List.nodup_cons.mp nd
  rcases List.mem_cons.mp hp with rfl | y
  ·exact valV_pos rfl
  ·have hne:¬ x.1=p.1:=fun e=>n1 (List.mem_map.mpr ⟨p,y,e.symm⟩)
   rw [valV_neg hne]
   exact ih n2 y
theorem z531 {kvs:List (κ × V)}{k:κ}{v:V}(nd:(kvs.map (·.1)).Nodup) (h:valV kvs k=some v):putK kvs k v=kvs:=by
 unfold putK
 rw [valV_any,h,if_pos (by rfl)]
 refine(List.map_congr_left fun p hp=>?_).trans (List.map_id _)
 show (if p.1=k then(p.1,v) else p)=p
 split
 ·rename_i e
  have:=val_in nd hp
  rw [e,h] at this
  cases this
  rfl
 ·rfl
theorem z618 {kvs:List (κ × V)}{k:κ}{q:Int}(h:Nums kvs) (h0:0≤q):putK kvs k (.int (if qAt kvs k 0 > q then qAt kvs k 0 else q))=addP kvs (k,q):=by
 unfold addP qAt
 cases e:valV kvs k with
 | none=>
  show putK kvs k (.int (if (0:Int) > q then 0 else q))=if (-1:Int) < q then putK kvs k (.int q) else kvs
  rw [if_neg (by omega),if_pos (by omega)]
 | some v=>
  obtain⟨r,rfl,r0⟩:=h.nn k v e
  show putK kvs k (.int (if r > q then r else q))=if r < q then putK kvs k (.int q) else kvs
  by_cases z:r < q
  ·rw [if_pos z,if_neg (by omega)]
  ·rw [if_neg z]
   have e2:(if r > q then r else q)=r:=by split <;> omega
   rw [e2]
   exact z531 h.nd e
theorem z636 {kvs:List (κ × V)}{p:κ × Int}{j:κ}(h:j∈(addP kvs p).map (·.1)):j=p.1∨j∈kvs.map (·.1):=by
 unfold addP at h
 split at h
 ·exact z444 h
 ·exact .inr h
theorem len_in:∀ {l m:List κ},l.Nodup→(∀ x∈l,x∈m)→l.length≤m.length
 | [],_,_,_=>Nat.zero_le _
 | a::l,m,nd,h=>by
  obtain⟨n1,n2⟩:=List.nodup_cons.mp nd
  have ha:a∈m:=h a List.mem_cons_self
  have:=len_in (m:=m.erase a) n2 fun x hx=>(List.mem_erase_of_ne (fun e=>n1 (by rw [← e];exact hx))).mpr (h x (List.mem_cons_of_mem _ hx))
  rw [List.length_erase_of_mem ha] at this
  have:0 < m.length:=List.length_pos_of_mem ha
  rw [List.length_cons]
  omega
end
def nk (m:Nat) (c:Int):List Key:=[.inl (m:Int),.inl c]
theorem nk_inj {m m':Nat}{c c':Int}(h:nk m c=nk m' c'):m=m'∧c=c':=by
 unfold nk at h
 injection h with h1 h2
 injection h2 with h2 _
 injection h1 with h1
 injection h2 with h2
 exact⟨by omega,h2⟩
def z202 (s n:Nat) (kvs:List (List Key × V)):Prop:=∀ k∈kvs.map (·.1),∃ (m:Nat) (c:Int),k=nk m c∧m≤s∧0≤c∧c < (n:Int)
def z314 (s n:Nat):List (List Key):=(List.range (s + 1)).flatMap fun m=>(List.range n).map fun c=>nk m (c:Nat)
theorem z638 (s n:Nat):(z314 s n).length=(s + 1) * n:=by
 unfold z314
 generalize s + 1=r
 induction r with
 | zero=>simp
 | succ r ih=>rw [List.range_succ,List.flatMap_append,List.length_append,ih];simp [Nat.add_mul]
theorem z526 {s n:Nat}{kvs:List (List Key × V)} (nd:(kvs.map (·.1)).Nodup) (h:z202 s n kvs):kvs.length≤(s + 1) * n:=by
 have:=len_in (m:=z314 s n) nd fun k hk=>by
  obtain⟨m,c,rfl,h1,h2,h3⟩:=h k hk
  obtain⟨j,rfl⟩:=Int.eq_ofNat_of_zero_le h2
  exact List.mem_flatMap.mpr ⟨m,List.mem_range.mpr (by omega),List.mem_map.mpr ⟨j,List.mem_range.mpr (by omega),rfl⟩⟩
 rw [List.length_map,z638] at this
 exact this
theorem z261 {s n:Nat}{kvs:List (List Key × V)} (nd:(kvs.map (·.1)).Nodup) (h:z202 s n kvs) (hs:s≤100) (hn:n≤100):kvs.length≤10100:=
 Nat.le_trans (z526 nd h) (Nat.mul_le_mul (show s + 1≤101 by omega) hn)
theorem z535 {s n:Nat}{kvs:List (List Key × V)}{m:Nat}{c:Int}{v:V}(h:z202 s n kvs) (hm:m≤s) (h0:0≤c) (h1:c < (n:Int)):z202 s n (putK kvs (nk m c) v):=fun k hk=>by
 rcases z444 hk with z | z
 ·exact⟨m,c,z,hm,h0,h1⟩
 ·exact h k z
theorem z348 {s n:Nat}:z202 s n []:=fun k hk=>(by cases hk)
end Ly
set_option Elab.async false
set_option linter.all false
set_option maxRecDepth 100000
namespace Ly
open PySem L2
section
variable {κ:Type} [DecidableEq κ]
def Top (ps:List (κ × Int)) (k:κ) (q:Int):Prop:=(k,q)∈ps∧∀ r,(k,r)∈ps→r≤q
theorem Top.uniq {ps:List (κ × Int)}{k:κ}{q r:Int}(h:Top ps k q) (h':Top ps k r):q=r:=by
 have a:=h.2 _ h'.1
 have b:=h'.2 _ h.1
 omega
structure MaxOf (ps:List (κ × Int)) (kvs:List (κ × V)):Prop where
 nd:(kvs.map (·.1)).Nodup
 to:∀ k v,valV kvs k=some v→∃ q,v=.int q∧Top ps k q
 no:∀ k,valV kvs k=none→∀ q,(k,q) ∉ ps
theorem MaxOf.add {ps:List (κ × Int)}{kvs:List (κ × V)}{p:κ × Int}(h:MaxOf ps kvs) (p0:0≤p.2):MaxOf (ps++[p]) (addP kvs p):=by
 obtain⟨k,q⟩:=p
 have p0:0≤q:=p0
 unfold addP qAt
 cases e:valV kvs k with
 | none=>
  show MaxOf _ (if (-1:Int) < q then putK kvs k (.int q) else kvs)
  rw [if_pos (by omega)]
  refine⟨nd_put h.nd,fun j v hv=>?_,fun j hv r hr=>?_⟩
  ·rw [valV_put] at hv
   split at hv
   ·rename_i z
    cases hv
    subst z
    refine⟨q,rfl,by simp,fun r hr=>?_⟩
    rcases List.mem_append.mp hr with y | y
    ·exact absurd y (h.no _ e r)
    ·have:=congrArg Prod.snd (List.mem_singleton.mp y)
     simp only at this
     omega
   ·rename_i z
    obtain⟨r,rfl,t1,t2⟩:=h.to j v hv
    refine⟨r,rfl,by simp [t1],fun s hs=>?_⟩
    rcases List.mem_append.mp hs with y | y
    ·exact t2 s y
    ·exact absurd (congrArg Prod.fst (List.mem_singleton.mp y)) z
  ·rw [valV_put] at hv
   split at hv
   ·cases hv
   ·rename_i z
    rcases List.mem_append.mp hr with y | y
    ·exact h.no j hv r y
    ·exact z (congrArg Prod.fst (List.mem_singleton.mp y))
 | some v=>
  obtain⟨r,rfl,t1,t2⟩:=h.to k v e
  show MaxOf _ (if r < q then putK kvs k (.int q) else kvs)
  by_cases z:r < q
  ·rw [if_pos z]
   refine⟨nd_put h.nd,fun j v hv=>?_,fun j hv s hs=>?_⟩
   ·rw [valV_put] at hv
    split at hv
    ·rename_i y
     cases hv
     subst y
     refine⟨q,rfl,by simp,fun s hs=>?_⟩
     rcases List.mem_append.mp hs with y | y
     ·have:=t2 s y
      omega
     ·have:=congrArg Prod.snd (List.mem_singleton.mp y)
      simp only at this
      omega
    ·rename_i y
     obtain⟨s,rfl,u1,u2⟩:=h.to j v hv
     refine⟨s,rfl,by simp [u1],fun s' hs=>?_⟩
     rcases List.mem_append.mp hs with x | x
     ·exact u2 s' x
     ·exact absurd (congrArg Prod.fst (List.mem_singleton.mp x)) y
   ·rw [valV_put] at hv
    split at hv
    ·cases hv
    ·rename_i y
     rcases List.mem_append.mp hs with x | x
     ·exact h.no j hv s x
     ·exact y (congrArg Prod.fst (List.mem_singleton.mp x))
  ·rw [if_neg z]
   refine⟨h.nd,fun j v hv=>?_,fun j hv s hs=>?_⟩
   ·obtain⟨s,rfl,u1,u2⟩:=h.to j v hv
    refine⟨s,rfl,by simp [u1],fun s' hs=>?_⟩
    rcases List.mem_append.mp hs with x | x
    ·exact u2 s' x
    ·have e1:j=k:=congrArg Prod.fst (List.mem_singleton.mp x)
     have e2:s'=q:=congrArg Prod.snd (List.mem_singleton.mp x)
     subst e1
     have:=Top.uniq (ps:=ps) (k:=j) ⟨u1,u2⟩ ⟨t1,t2⟩
     omega
   ·rcases List.mem_append.mp hs with x | x
    ·exact h.no j hv s x
    ·have e1:j=k:=congrArg Prod.fst (List.mem_singleton.mp x)
     rw [e1,e] at hv
     cases hv
theorem z628:MaxOf ([]:List (κ × Int)) []:=⟨List.nodup_nil,fun k v h=>(by cases h),fun k _ q h=>(by cases h)⟩
theorem z409 {ps:List (κ × Int)} (h0:∀ p∈ps,0≤p.2):MaxOf ps (ps.foldl addP []):=by
 have key:∀ (rs qs:List (κ × Int)) (kvs:List (κ × V)),MaxOf qs kvs→(∀ p∈rs,0≤p.2)→MaxOf (qs++rs) (rs.foldl addP kvs):=by
  intro rs
  induction rs with
  | nil=>intro qs kvs h _;rw [List.append_nil];exact h
  | cons p r ih=>
   intro qs kvs h hp
   have:=ih (qs++[p]) (addP kvs p) (h.add (hp p (by simp))) fun x hx=>hp x (by simp [hx])
   rwa [List.append_assoc] at this
 exact key ps [] [] z628 h0
def Dom (ps qs:List (κ × Int)):Prop:=∀ k q,(k,q)∈ps→∃ r,(k,r)∈qs∧q≤r
theorem MaxOf.same {ps qs:List (κ × Int)}{kvs lvs:List (κ × V)} (h:MaxOf ps kvs) (g:MaxOf qs lvs) (d:Dom ps qs) (d':Dom qs ps){k:κ}{v:V}(hv:valV kvs k=some v):valV lvs k=some v:=by
 obtain⟨q,rfl,t1,t2⟩:=h.to k v hv
 obtain⟨r,r1,r2⟩:=d k q t1
 cases e:valV lvs k with
 | none=>exact absurd r1 (g.no k e r)
 | some u=>
  obtain⟨s,rfl,u1,u2⟩:=g.to k u e
  obtain⟨x,x1,x2⟩:=d' k s u1
  have a1:=t2 x x1
  have a2:=u2 r r1
  have:s=q:=by omega
  rw [this]
theorem MaxOf.len {ps qs:List (κ × Int)}{kvs lvs:List (κ × V)} (h:MaxOf ps kvs) (g:MaxOf qs lvs) (d:Dom ps qs) (d':Dom qs ps):kvs.length=lvs.length:=by
 have one:∀ {ps qs:List (κ × Int)}{kvs lvs:List (κ × V)},MaxOf ps kvs→MaxOf qs lvs→Dom ps qs→Dom qs ps→kvs.length≤lvs.length:=fun h g d d'=>by
  have:=len_in (m:=_) h.nd fun k hk=>by
   obtain⟨x,hx,rfl⟩:=List.mem_map.mp hk
   exact valV_in (h.same g d d' (val_in h.nd hx))
  simpa using this
 exact Nat.le_antisymm (one h g d d') (one g h d' d)
end
end Ly
set_option Elab.async false
set_option linter.all false
set_option maxRecDepth 100000
namespace Pf
open PySem L2
def top (i:Nat):Stmt:=PySem.Challenge.pw_floorways_k18_whole_layers.main.body.getD i (.Pass ⟨0,0,0,0⟩)
abbrev s_q32:Stmt:=inClass (top 7) 0
abbrev s_q45:Stmt:=top 9
abbrev s_q46:Stmt:=top 10
abbrev s_q37:Stmt:=top 19
abbrev s_q26:Stmt:=top 20
abbrev s_q33:Stmt:=inClass (top 21) 0
abbrev s_q38:Stmt:=inClass (top 21) 1
abbrev s_q34:Stmt:=inClass (top 21) 2
abbrev s_q12:Stmt:=inClass (top 21) 3
abbrev s_q39:Stmt:=inClass (top 21) 4
abbrev s_q13:Stmt:=inClass (top 21) 7
abbrev s_q14:Stmt:=inClass (top 26) 0
abbrev s_q15:Stmt:=inClass (top 26) 1
abbrev s_q2:Stmt:=inClass (top 26) 2
abbrev s_q16:Stmt:=inClass (top 26) 3
abbrev s_q17:Stmt:=inClass (top 26) 4
abbrev s_q18:Stmt:=inClass (top 26) 5
abbrev s_q10:Stmt:=inClass (top 26) 6
abbrev s_q7:Stmt:=inClass (top 26) 7
abbrev s_q0:Stmt:=inClass (top 26) 8
abbrev s_q40:Stmt:=inClass (top 27) 0
abbrev s_q19:Stmt:=inClass (top 28) 0
abbrev s_q3:Stmt:=inClass (top 28) 1
abbrev s_q20:Stmt:=inClass (top 28) 2
abbrev s_q21:Stmt:=inClass (top 28) 3
abbrev s_q27:Stmt:=inClass (top 29) 0
abbrev s_q28:Stmt:=inClass (top 29) 1
abbrev s_q29:Stmt:=inClass (top 29) 2
abbrev s_q35:Stmt:=top 30
abbrev s_q41:Stmt:=top 32
abbrev s_q47:Stmt:=top 33
abbrev s_q48:Stmt:=top 34
abbrev s_q22:Stmt:=top 35
abbrev s_q11:Stmt:=top 36
abbrev s_q42:Stmt:=inClass (top 38) 0
abbrev s_q49:Stmt:=inClass (top 38) 1
abbrev s_q23:Stmt:=inClass (top 38) 4
abbrev s_q24:Stmt:=inClass (top 38) 8
abbrev s_q6:Stmt:=inClass (top 38) 12
abbrev s_q4:Stmt:=inClass (top 38) 13
abbrev s_q50:Stmt:=top 39
abbrev s_q43:Stmt:=top 41
abbrev s_q30:Stmt:=top 42
abbrev s_q36:Stmt:=top 43
abbrev s_q31:Stmt:=inClass (top 44) 0
abbrev s_q1:Stmt:=inClass (top 44) 1
abbrev s_q8:Stmt:=inClass (top 44) 3
abbrev s_q5:Stmt:=inClass (top 44) 4
abbrev s_q9:Stmt:=inClass (top 44) 5
abbrev s_q51:Stmt:=top 46
abbrev s_q55:Stmt:=top 47
abbrev s_q56:Stmt:=top 48
abbrev z210:Stmt:=top 49
abbrev s_q52:Stmt:=top 50
abbrev s_q53:Stmt:=top 51
abbrev z118:Stmt:=top 52
abbrev s_q54:Stmt:=top 53
abbrev s_q57:Stmt:=top 54
abbrev z93:Stmt:=top 55
abbrev z9:Stmt:=top 56
abbrev s_q25:Stmt:=top 57
abbrev s_Lmet:Stmt:=top 58
abbrev s_Lall:Stmt:=top 60
abbrev s_q44:Stmt:=top 61
abbrev s_law:Stmt:=top 62
structure Ad where
 q32:Addr
 q45:Addr
 q46:Addr
 q37:Addr
 q26:Addr
 q33:Addr
 q38:Addr
 q34:Addr
 q12:Addr
 q39:Addr
 q13:Addr
 q14:Addr
 q15:Addr
 q2:Addr
 q16:Addr
 q17:Addr
 q18:Addr
 q10:Addr
 q7:Addr
 q0:Addr
 q40:Addr
 q19:Addr
 q3:Addr
 q20:Addr
 q21:Addr
 q27:Addr
 q28:Addr
 q29:Addr
 q35:Addr
 q41:Addr
 q47:Addr
 q48:Addr
 q22:Addr
 q11:Addr
 q42:Addr
 q49:Addr
 q23:Addr
 q24:Addr
 q6:Addr
 q4:Addr
 q50:Addr
 q43:Addr
 q30:Addr
 q36:Addr
 q31:Addr
 q1:Addr
 q8:Addr
 q5:Addr
 q9:Addr
 q51:Addr
 q55:Addr
 q56:Addr
 Lsign:Addr
 q52:Addr
 q53:Addr
 Lcost:Addr
 q54:Addr
 q57:Addr
 Lopen:Addr
 Lways:Addr
 q25:Addr
 Lmet:Addr
 Lall:Addr
 q44:Addr
 law:Addr
 C_Floor:Addr
 C_Cart:Addr
 C_Crawler:Addr
 C_Runner:Addr
 C_Carrier:Addr
 C_Book:Addr
 C_Spread:Addr
 C_NoCarrier:Addr
 C_FloorError:Addr
 C_Meets:Addr
 K_KINDS:Addr
 K_COMMON_SIGNS:Addr
structure Txt (K:PySem.W.Frag) (mg:Str→Option Value) (ad:Ad):Prop where
 b_len:mg "len"=none
 b_range:mg "range"=none
 b_isinstance:mg "isinstance"=none
 b_all:mg "all"=none
 b_int:mg "int"=none
 b_bool:mg "bool"=none
 b_str:mg "str"=none
 b_list:mg "list"=none
 b_tuple:mg "tuple"=none
 b_dict:mg "dict"=none
 b_min:mg "min"=none
 b_max:mg "max"=none
 b_sorted:mg "sorted"=none
 b_enumerate:mg "enumerate"=none
 b_divmod:mg "divmod"=none
 b_ValueError:mg "ValueError"=none
 c_WALL:∃ u,mg "WALL"=some u∧RelV (V.str (Str.ofString "#")) u
 c_CHARGER:∃ u,mg "CHARGER"=some u∧RelV (V.str (Str.ofString "+")) u
 c_ROUGH:∃ u,mg "ROUGH"=some u∧RelV (V.str (Str.ofString "~")) u
 c_LANE:∃ u,mg "LANE"=some u∧RelV (V.str (Str.ofString "|")) u
 c_SIGNS:∃ u,mg "SIGNS"=some u∧RelV (V.str (Str.ofString ".#+~|")) u
 c_MOST_ROWS:∃ u,mg "MOST_ROWS"=some u∧RelV (V.int 10) u
 c_MOST_SIGNS:∃ u,mg "MOST_SIGNS"=some u∧RelV (V.int 10) u
 c_KINDS:∃ u,mg "KINDS"=some u∧RelV (.ref ad.K_KINDS) u
 c_MOST_FULL:∃ u,mg "MOST_FULL"=some u∧RelV (V.int 60) u
 c_COMMON_SIGNS:∃ u,mg "COMMON_SIGNS"=some u∧RelV (.ref ad.K_COMMON_SIGNS) u
 mg_q45:mg "is_whole"=some (.ref ad.q45)
 k_q45:PySem.W.keepIn K (.ref ad.q45)=true
 mg_q46:mg "is_among"=some (.ref ad.q46)
 k_q46:PySem.W.keepIn K (.ref ad.q46)=true
 mg_q37:mg "check_row"=some (.ref ad.q37)
 k_q37:PySem.W.keepIn K (.ref ad.q37)=true
 mg_q26:mg "check_floor"=some (.ref ad.q26)
 k_q26:PySem.W.keepIn K (.ref ad.q26)=true
 m_q38:Meth K ad.C_Floor "has" ad.q38
 m_q34:Meth K ad.C_Floor "sign" ad.q34
 m_q12:Meth K ad.C_Floor "column" ad.q12
 m_q39:Meth K ad.C_Floor "row" ad.q39
 m_q13:Meth K ad.C_Floor "beside" ad.q13
 m_q15:Meth K ad.C_Carrier "kind" ad.q15
 m_q2:Meth K ad.C_Carrier "may_stand" ad.q2
 m_q16:Meth K ad.C_Carrier "gain" ad.q16
 m_q17:Meth K ad.C_Carrier "fare" ad.q17
 m_q18:Meth K ad.C_Carrier "cost" ad.q18
 m_q10:Meth K ad.C_Carrier "steps" ad.q10
 m_q7:Meth K ad.C_Carrier "stayed" ad.q7
 m_q0:Meth K ad.C_Carrier "fare_if_standing" ad.q0
 m_q40:Meth K ad.C_Cart "kind" ad.q40
 m_q19:Meth K ad.C_Crawler "kind" ad.q19
 m_q3:Meth K ad.C_Crawler "may_stand" ad.q3
 m_q20:Meth K ad.C_Crawler "gain" ad.q20
 m_q21:Meth K ad.C_Crawler "fare" ad.q21
 m_q27:Meth K ad.C_Runner "kind" ad.q27
 m_q28:Meth K ad.C_Runner "gain" ad.q28
 m_q29:Meth K ad.C_Runner "fare" ad.q29
 mg_q35:mg "carrier_of"=some (.ref ad.q35)
 k_q35:PySem.W.keepIn K (.ref ad.q35)=true
 mg_q41:mg "last_time"=some (.ref ad.q41)
 k_q41:PySem.W.keepIn K (.ref ad.q41)=true
 mg_q47:mg "index_at"=some (.ref ad.q47)
 k_q47:PySem.W.keepIn K (.ref ad.q47)=true
 mg_q48:mg "place_at"=some (.ref ad.q48)
 k_q48:PySem.W.keepIn K (.ref ad.q48)=true
 mg_q22:mg "meeting_word"=some (.ref ad.q22)
 k_q22:PySem.W.keepIn K (.ref ad.q22)=true
 mg_q11:mg "first_meeting"=some (.ref ad.q11)
 k_q11:PySem.W.keepIn K (.ref ad.q11)=true
 m_q49:Meth K ad.C_Book "put" ad.q49
 m_q23:Meth K ad.C_Book "numbers" ad.q23
 m_q24:Meth K ad.C_Book "comings" ad.q24
 m_q6:Meth K ad.C_Book "ways_beside" ad.q6
 m_q4:Meth K ad.C_Book "check_number" ad.q4
 mg_q50:mg "is_clear"=some (.ref ad.q50)
 k_q50:PySem.W.keepIn K (.ref ad.q50)=true
 mg_q43:mg "stops_met"=some (.ref ad.q43)
 k_q43:PySem.W.keepIn K (.ref ad.q43)=true
 mg_q30:mg "first_layer"=some (.ref ad.q30)
 k_q30:PySem.W.keepIn K (.ref ad.q30)=true
 mg_q36:mg "next_layer"=some (.ref ad.q36)
 k_q36:PySem.W.keepIn K (.ref ad.q36)=true
 m_q1:Meth K ad.C_Spread "layer_behind" ad.q1
 m_q8:Meth K ad.C_Spread "reached" ad.q8
 m_q5:Meth K ad.C_Spread "steps_from" ad.q5
 m_q9:Meth K ad.C_Spread "node_at" ad.q9
 mg_q51:mg "_law_cell_at"=some (.ref ad.q51)
 k_q51:PySem.W.keepIn K (.ref ad.q51)=true
 mg_q55:mg "_law_mixed"=some (.ref ad.q55)
 k_q55:PySem.W.keepIn K (.ref ad.q55)=true
 mg_q56:mg "_law_floor"=some (.ref ad.q56)
 k_q56:PySem.W.keepIn K (.ref ad.q56)=true
 mg_Lsign:mg "_law_sign"=some (.ref ad.Lsign)
 k_Lsign:PySem.W.keepIn K (.ref ad.Lsign)=true
 mg_q52:mg "_law_beside"=some (.ref ad.q52)
 k_q52:PySem.W.keepIn K (.ref ad.q52)=true
 mg_q53:mg "_law_stands"=some (.ref ad.q53)
 k_q53:PySem.W.keepIn K (.ref ad.q53)=true
 mg_Lcost:mg "_law_cost"=some (.ref ad.Lcost)
 k_Lcost:PySem.W.keepIn K (.ref ad.Lcost)=true
 mg_q54:mg "_law_stayed"=some (.ref ad.q54)
 k_q54:PySem.W.keepIn K (.ref ad.q54)=true
 mg_q57:mg "_law_place"=some (.ref ad.q57)
 k_q57:PySem.W.keepIn K (.ref ad.q57)=true
 mg_Lopen:mg "_law_open"=some (.ref ad.Lopen)
 k_Lopen:PySem.W.keepIn K (.ref ad.Lopen)=true
 mg_Lways:mg "_law_ways"=some (.ref ad.Lways)
 k_Lways:PySem.W.keepIn K (.ref ad.Lways)=true
 mg_q25:mg "_law_stand_cells"=some (.ref ad.q25)
 k_q25:PySem.W.keepIn K (.ref ad.q25)=true
 mg_Lmet:mg "_law_met"=some (.ref ad.Lmet)
 k_Lmet:PySem.W.keepIn K (.ref ad.Lmet)=true
 mg_Lall:mg "_law_all"=some (.ref ad.Lall)
 k_Lall:PySem.W.keepIn K (.ref ad.Lall)=true
 mg_q44:mg "_law_greatest"=some (.ref ad.q44)
 k_q44:PySem.W.keepIn K (.ref ad.q44)=true
 mg_law:mg "law"=some (.ref ad.law)
 k_law:PySem.W.keepIn K (.ref ad.law)=true
 mg_Floor:mg "Floor"=some (.ref ad.C_Floor)
 cl_Floor:Cls K ad.C_Floor
 n_Floor_wide:NoAttr K ad.C_Floor "wide"
 n_Floor_high:NoAttr K ad.C_Floor "high"
 n_Floor_lines:NoAttr K ad.C_Floor "lines"
 n_Floor_signs:NoAttr K ad.C_Floor "signs"
 mk_Floor:Mk K ad.C_Floor ad.q33
 mg_Cart:mg "Cart"=some (.ref ad.C_Cart)
 cl_Cart:Cls K ad.C_Cart
 n_Cart_full:NoAttr K ad.C_Cart "full"
 mk_Cart:Mk K ad.C_Cart ad.q14
 mg_Crawler:mg "Crawler"=some (.ref ad.C_Crawler)
 cl_Crawler:Cls K ad.C_Crawler
 n_Crawler_full:NoAttr K ad.C_Crawler "full"
 mk_Crawler:Mk K ad.C_Crawler ad.q14
 mg_Runner:mg "Runner"=some (.ref ad.C_Runner)
 cl_Runner:Cls K ad.C_Runner
 n_Runner_full:NoAttr K ad.C_Runner "full"
 mk_Runner:Mk K ad.C_Runner ad.q14
 mg_Carrier:mg "Carrier"=some (.ref ad.C_Carrier)
 cl_Carrier:Cls K ad.C_Carrier
 n_Carrier_full:NoAttr K ad.C_Carrier "full"
 mk_Carrier:Mk K ad.C_Carrier ad.q14
 mg_Book:mg "Book"=some (.ref ad.C_Book)
 cl_Book:Cls K ad.C_Book
 n_Book_ways:NoAttr K ad.C_Book "ways"
 mk_Book:Mk K ad.C_Book ad.q42
 mg_Spread:mg "Spread"=some (.ref ad.C_Spread)
 cl_Spread:Cls K ad.C_Spread
 n_Spread_floor:NoAttr K ad.C_Spread "floor"
 n_Spread_mover:NoAttr K ad.C_Spread "mover"
 n_Spread_booked:NoAttr K ad.C_Spread "booked"
 n_Spread_number:NoAttr K ad.C_Spread "number"
 n_Spread_stops:NoAttr K ad.C_Spread "stops"
 n_Spread_known:NoAttr K ad.C_Spread "known"
 mk_Spread:Mk K ad.C_Spread ad.q31
 m_Cart_may_stand:Meth K ad.C_Cart "may_stand" ad.q2
 m_Cart_gain:Meth K ad.C_Cart "gain" ad.q16
 m_Cart_fare:Meth K ad.C_Cart "fare" ad.q17
 m_Cart_cost:Meth K ad.C_Cart "cost" ad.q18
 m_Cart_steps:Meth K ad.C_Cart "steps" ad.q10
 m_Cart_stayed:Meth K ad.C_Cart "stayed" ad.q7
 m_Cart_fare_if_standing:Meth K ad.C_Cart "fare_if_standing" ad.q0
 m_Crawler_cost:Meth K ad.C_Crawler "cost" ad.q18
 m_Crawler_steps:Meth K ad.C_Crawler "steps" ad.q10
 m_Crawler_stayed:Meth K ad.C_Crawler "stayed" ad.q7
 m_q21_if_standing:Meth K ad.C_Crawler "fare_if_standing" ad.q0
 m_Runner_may_stand:Meth K ad.C_Runner "may_stand" ad.q2
 m_Runner_cost:Meth K ad.C_Runner "cost" ad.q18
 m_Runner_steps:Meth K ad.C_Runner "steps" ad.q10
 m_Runner_stayed:Meth K ad.C_Runner "stayed" ad.q7
 m_q29_if_standing:Meth K ad.C_Runner "fare_if_standing" ad.q0
 mg_NoCarrier:mg "NoCarrier"=some (.ref ad.C_NoCarrier)
 er_NoCarrier:ErrC K ad.C_NoCarrier
 mg_FloorError:mg "FloorError"=some (.ref ad.C_FloorError)
 mg_Meets:mg "Meets"=some (.ref ad.C_Meets)
 xm_Meets_Meets:PySem.W.exmOne K (.ref ad.C_Meets) (.ref ad.C_Meets)=some true
 cgx:PySem.W.specialIn K (.builtin "object.__class__") "__get__"=some (some (.builtin "getset_descriptor.__get__"))
 ctx:PySem.W.takesIn K (.builtin "object.__class__")=some true
 ca_Cart:PySem.W.findIn K (.ref ad.C_Cart) "__class__"=some (some (.builtin "object.__class__"))
 cm_Cart:PySem.W.mroIn K ad.C_Cart (.type "object")=some true
 is_Cart_Carrier:PySem.W.kitOne K (.ref ad.C_Cart) (.ref ad.C_Carrier)=some true
 is_Cart_Cart:PySem.W.kitOne K (.ref ad.C_Cart) (.ref ad.C_Cart)=some true
 is_Cart_Crawler:PySem.W.kitOne K (.ref ad.C_Cart) (.ref ad.C_Crawler)=some false
 is_Cart_Runner:PySem.W.kitOne K (.ref ad.C_Cart) (.ref ad.C_Runner)=some false
 ca_Crawler:PySem.W.findIn K (.ref ad.C_Crawler) "__class__"=some (some (.builtin "object.__class__"))
 cm_Crawler:PySem.W.mroIn K ad.C_Crawler (.type "object")=some true
 is_Crawler_Carrier:PySem.W.kitOne K (.ref ad.C_Crawler) (.ref ad.C_Carrier)=some true
 is_Crawler_Cart:PySem.W.kitOne K (.ref ad.C_Crawler) (.ref ad.C_Cart)=some false
 is_Crawler_Crawler:PySem.W.kitOne K (.ref ad.C_Crawler) (.ref ad.C_Crawler)=some true
 is_Crawler_Runner:PySem.W.kitOne K (.ref ad.C_Crawler) (.ref ad.C_Runner)=some false
 ca_Runner:PySem.W.findIn K (.ref ad.C_Runner) "__class__"=some (some (.builtin "object.__class__"))
 cm_Runner:PySem.W.mroIn K ad.C_Runner (.type "object")=some true
 is_Runner_Carrier:PySem.W.kitOne K (.ref ad.C_Runner) (.ref ad.C_Carrier)=some true
 is_Runner_Cart:PySem.W.kitOne K (.ref ad.C_Runner) (.ref ad.C_Cart)=some false
 is_Runner_Crawler:PySem.W.kitOne K (.ref ad.C_Runner) (.ref ad.C_Crawler)=some false
 is_Runner_Runner:PySem.W.kitOne K (.ref ad.C_Runner) (.ref ad.C_Runner)=some true
 ca_Carrier:PySem.W.findIn K (.ref ad.C_Carrier) "__class__"=some (some (.builtin "object.__class__"))
 cm_Carrier:PySem.W.mroIn K ad.C_Carrier (.type "object")=some true
 is_Carrier_Carrier:PySem.W.kitOne K (.ref ad.C_Carrier) (.ref ad.C_Carrier)=some true
 is_Carrier_Cart:PySem.W.kitOne K (.ref ad.C_Carrier) (.ref ad.C_Cart)=some false
 is_Carrier_Crawler:PySem.W.kitOne K (.ref ad.C_Carrier) (.ref ad.C_Crawler)=some false
 is_Carrier_Runner:PySem.W.kitOne K (.ref ad.C_Carrier) (.ref ad.C_Runner)=some false
 xn_Meets:PySem.W.findIn K (.ref ad.C_Meets) "__init__"=some (some (.ref ad.q32))
 xi_Meets:exiIn K ad.C_Meets ad.q32=true
 xf_Meets:PySem.W.isFn K (.ref ad.q32)=true
 xt_sa:PySem.W.findIn K (.ref ad.C_Meets) "__setattr__"=some (some (.builtin "object.__setattr__"))
 xt_mro:(PySem.W.clsIn K ad.C_Meets).any (fun cd=>z26 cd.mro)=true
 xt_dict:(PySem.W.clsIn K ad.C_Meets).any (·.hasDict)=true
 xt_no:PySem.W.findIn K (.ref ad.C_Meets) "other"=some none
 xt_hd:PySem.W.hasDictIn K ad.C_Meets=true
 kt_KINDS:∀ H,SqT K H ad.K_KINDS [V.str (Str.ofString "cart"),V.str (Str.ofString "crawler"),V.str (Str.ofString "runner")]
 kt_COMMON_SIGNS:∀ H,SqT K H ad.K_COMMON_SIGNS [V.str (Str.ofString "."),V.str (Str.ofString "+"),V.str (Str.ofString "|")]
open Bk
def isI:V→Bool
 | .int _=>true
 | _=>false
def isIB:V→Bool
 | .int _=>true
 | .bl _=>true
 | _=>false
def isB:V→Bool
 | .bl _=>true
 | _=>false
def TyB (K:PySem.W.Frag) (H:Hp) (x:V):Prop:=∃ n,TyOf K H x (.type n)
theorem z648 {K:PySem.W.Frag}{H:Hp}{x:V}{n:String}(h:TyOf K H x (.type n)):PySem.W.kitOne K (.type n) (.type "int")=some (isIB x):=by
 cases h <;> rfl
theorem z594 {K:PySem.W.Frag}{H:Hp}{x:V}{n:String}(h:TyOf K H x (.type n)):PySem.W.kitOne K (.type n) (.type "bool")=some (isB x):=by
 cases h <;> rfl
def z454 (K:PySem.W.Frag):Sp:=fun vs H Q _=>∃ x,vs=[x]∧TyB K H x∧Q (.bl (isI x)) H
theorem zz1 {t u:TS}{D:Ends}{σ:St}{H:Hp}(M:St→Hp→Prop) (h1:∀ nx:St→Hp→Prop,(∀ σ' H',M σ' H'→nx σ' H')→t { D with nx:=nx } σ H) (h2:∀ σ' H',M σ' H'→u D σ' H'):tSeq t u D σ H:=h1 (u D) h2
def amg:V→Int→Int→Bool
 | .int i,lo,hi=>decide (lo≤i) && decide (i≤hi)
 | _,_,_=>false
def z344 (K:PySem.W.Frag):Sp:=fun vs H Q _=>∃ x lo hi,vs=[x,.int lo,.int hi]∧TyB K H x∧Q (.bl (amg x lo hi)) H
open Fl
def flds (w h:Nat) (l:Addr) (sg:List Nat):List (Str × V):=putF "signs" (.str (txt sg)) (putF "lines" (.ref l) (putF "high" (.int (h:Int)) (putF "wide" (.int (w:Int)) [])))
theorem f_wide (w h:Nat) (l:Addr) (sg:List Nat):(flds w h l sg).lookup ("wide":Str)=some (.int (w:Int)):=by
 unfold flds
 rw [lookup_putF,if_neg (by decide +kernel),lookup_putF,if_neg (by decide +kernel),lookup_putF,if_neg (by decide +kernel),lookup_putF,if_pos rfl]
theorem z443 (w h:Nat) (l:Addr) (sg:List Nat):(flds w h l sg).lookup ("signs":Str)=some (.str (txt sg)):=by
 unfold flds
 rw [lookup_putF,if_pos rfl]
theorem f_no (w h:Nat) (l:Addr) (sg:List Nat){m:Str}(h1:¬ m="signs") (h2:¬ m="lines") (h3:¬ m="high") (h4:¬ m="wide"):(flds w h l sg).lookup m=none:=by
 unfold flds
 rw [lookup_putF,if_neg h1,lookup_putF,if_neg h2,lookup_putF,if_neg h3,lookup_putF,if_neg h4]
 rfl
def z75 (H:Hp) (l:Addr) (w h:Nat) (sg:List Nat):Prop:=H l=some (.lst ((linesOf w h sg).map V.str))
structure z60 (C:Addr) (H:Hp) (p:Addr) (w h:Nat) (sg:List Nat):Prop where
 ob:∃ dx l,H p=some (.ins C dx (flds w h l sg))∧z75 H l w h sg
theorem z60.same {C:Addr}{H H':Hp}{p:Addr}{w h:Nat}{sg:List Nat}(F:z60 C H p w h sg) (s:Same H H'):z60 C H' p w h sg:=by
 obtain⟨dx,l,h1,h2⟩:=F.ob
 exact⟨⟨dx,l,s _ _ h1,s _ _ h2⟩⟩
theorem z619 {c:Nat}(h:sgOk c):c∈(Str.ofString ".#+~|").cps.toList:=by
 have e:(Str.ofString ".#+~|").cps.toList=[46,35,43,126,124]:=by decide +kernel
 rw [e]
 rcases h with z | z | z | z | z <;> simp [z]
def inSg:V→V
 | .str z=>.bl (decide (z.cps.getD 0 0∈(Str.ofString ".#+~|").cps.toList))
 | _=>.bl false
def isWall:V→V
 | .str z=>.bl (decide (z=Str.ofString "#"))
 | _=>.bl false
theorem z549 (c:Nat):((⟨#[c]⟩:Str)=Str.ofString "#")↔c=35:=by
 have e:(Str.ofString "#").cps=#[35]:=by decide +kernel
 constructor
 ·intro h
  have:=congrArg Str.cps h
  rw [e] at this
  simpa using this
 ·intro h
  subst h
  exact z339 (by rw [e])
theorem at_txt {sg:List Nat}{c:Int}(c0:0≤c) (c1:c < sg.length):atI (txt sg).cps.toList c=some (at_ sg c):=by
 obtain⟨j,rfl⟩:=Int.eq_ofNat_of_zero_le c0
 have hj:j < sg.length:=by omega
 refine atI_nat ?_
 rw [z139]
 unfold at_
 simp [hj]
def noWall (sg:List Nat):V→Bool
 | .int i=>!decide (at_ sg i=35)
 | _=>false
def spRow:Sp:=fun vs H Q _=>∃ (x:Str) (n:Nat),vs=[.str x,.int (n:Int)]∧x.length=n∧n≤10∧(∀ c∈x.cps.toList,sgOk c)∧∀ H',Same H H'→Q .non H'
def z540:Sp:=fun vs H Q _=>∃ (l:Addr) (w h:Nat) (sg:List Nat),vs=[.ref l]∧z75 H l w h sg∧Good w h sg∧∀ H',Same H H'→Q .non H'
def spInit (C:Addr):Sp:=fun vs H Q _=>∃ (p dx l:Addr) (w h:Nat) (sg:List Nat),vs=[.ref p,.ref l]∧H p=some (.ins C dx [])∧z75 H l w h sg∧Good w h sg∧∀ H' dx' l2,H l2=none→H' p=some (.ins C dx' (flds w h l2 sg))→z75 H' l2 w h sg→(∀ b o,H b=some o→b≠p→H' b=some o)→Q .non H'
def spHas (K:PySem.W.Frag) (C:Addr):Sp:=fun vs H Q _=>∃ (p:Addr) (w h:Nat) (sg:List Nat) (x:V),vs=[.ref p,x]∧z60 C H p w h sg∧Good w h sg∧TyB K H x∧Q (.bl (hasV sg x)) H
def spSign (C:Addr):Sp:=fun vs H Q _=>∃ (p:Addr) (w h:Nat) (sg:List Nat) (c:Int),vs=[.ref p,.int c]∧z60 C H p w h sg∧Good w h sg∧0≤c∧c < sg.length∧Q (chr1 (at_ sg c)) H
def spCol (C:Addr):Sp:=fun vs H Q _=>∃ (p:Addr) (w h:Nat) (sg:List Nat) (c:Int),vs=[.ref p,.int c]∧z60 C H p w h sg∧Good w h sg∧Q (.int (c % w)) H
def z554 (C:Addr):Sp:=fun vs H Q _=>∃ (p:Addr) (w h:Nat) (sg:List Nat) (c:Int),vs=[.ref p,.int c]∧z60 C H p w h sg∧Good w h sg∧Q (.int (c / w)) H
def Gives (H:Hp) (Q:VK) (xs:List Int):Prop:=∀ r H',H r=none→Same H H'→H' r=some (.lst (xs.map V.int))→Q (.ref r) H'
def z316 (C:Addr):Sp:=fun vs H Q _=>∃ (p:Addr) (w h:Nat) (sg:List Nat) (c:Int),vs=[.ref p,.int c]∧z60 C H p w h sg∧Good w h sg∧Gives H Q (v2 w sg c)
def z249:Sp:=fun vs H Q _=>∃ (l:Addr) (w h:Nat) (sg:List Nat) (c:Int),vs=[.ref l,.int c]∧z75 H l w h sg∧Good w h sg∧0≤c∧c < sg.length∧Q (chr1 (at_ sg c)) H
def KeptOk (H:Hp) (k:Addr) (n:Nat):Prop:=∃ ts:List Addr,ts.length≤n∧H k=some (.lst (ts.map V.ref))∧∀ t∈ts,∃ (a b:Addr) (xs:List Int),H t=some (.tup [.ref a,.ref b])∧H a=some (.lst (xs.map V.int))∧H b=some (.lst (xs.map V.int))∧a≠k∧b≠k∧xs.length≤1000
def KeptNo (H:Hp) (k x:Addr):Prop:=∀ ts:List Addr,H k=some (.lst (ts.map V.ref))→∀ t∈ts,∀ a b,H t=some (.tup [.ref a,.ref b])→a≠x∧b≠x
theorem z532 {w h:Nat}{sg:List Nat}(g:Good w h sg):(cellsOf sg).length≤100:=by
 have:=len100 g
 unfold cellsOf places
 refine Nat.le_trans (List.length_filter_le _ _) ?_
 rw [List.length_map,List.length_range];omega
def kindsL:List Str:=["cart","crawler","runner","carrier"]
def clsOf (ad:Ad):Nat→Addr
 | 0=>ad.C_Cart
 | 1=>ad.C_Crawler
 | 2=>ad.C_Runner
 | _=>ad.C_Carrier
def CarAt (ad:Ad) (H:Hp) (p:Addr) (i:Nat) (n:Int):Prop:=∃ dx,H p=some (.ins (clsOf ad i) dx (putF "full" (.int n) []))
theorem CarAt.same {ad:Ad}{H H':Hp}{p:Addr}{i:Nat}{n:Int}(s:Same H H') (h:CarAt ad H p i n):CarAt ad H' p i n:=let ⟨dx,e⟩:=h;⟨dx,s _ _ e⟩
def common (c:Nat):Bool:=decide (c=46∨c=43∨c=124)
def stands (i c:Nat):Bool:=common c || (decide (i=1) && decide (c=126))
def gainOf (i c:Nat):Int:=if c=43 then(match i with | 1=>1 | 2=>3 | _=>2) else 0
def fareOf (i w:Nat) (sg:List Nat) (cell other:Int):Option Int:=match i with
 | 1=>some (if at_ sg other=126 then 3 else 1)
 | 2=>if cell / w=other / w then some 1 else if at_ sg cell=124∨at_ sg other=124 then some 2 else none
 | _=>some 1
def optV:Option Int→V
 | some i=>.int i
 | none=>.non
def costOf (i w:Nat) (sg:List Nat) (cell other:Int):Option Int:=if stands i (at_ sg cell) && stands i (at_ sg other) then fareOf i w sg cell other else none
def z101 (i w:Nat) (sg:List Nat) (cell other:Int):Option Int:=if stands i (at_ sg other) then fareOf i w sg cell other else none
def pairsOf (f:Int→Option Int) (os:List Int):List (Int × Int):=os.filterMap fun o=>(f o).map fun k=>(o,k)
def z170 (i w:Nat) (sg:List Nat) (cell:Int):List (Int × Int):=pairsOf (costOf i w sg cell) (v2 w sg cell)
def PairAt (H:Hp) (t:Addr) (p:Int × Int):Prop:=H t=some (.tup [.int p.1,.int p.2])
def PairsL (H:Hp) (r:Addr) (ps:List (Int × Int)):Prop:=∃ ts:List Addr,H r=some (.lst (ts.map V.ref))∧Paired (PairAt H) ts ps
def InF (sg:List Nat) (c:Int):Prop:=0≤c∧c < sg.length
def z437 (ad:Ad):Sp:=fun vs H Q _=>∃ (p dx:Addr) (n:Int) (i:Nat),vs=[.ref p,.int n]∧H p=some (.ins (clsOf ad i) dx [])∧Q .non (upd H p (.ins (clsOf ad i) dx (putF "full" (.int n) [])))
def spKind (z:Str):Sp:=fun vs H Q _=>∃ x,vs=[x]∧Q (.str z) H
def spMay (i:Nat):Sp:=fun vs H Q _=>∃ x c,vs=[x,chr1 c]∧Q (.bl (stands i c)) H
def spGain (i:Nat):Sp:=fun vs H Q _=>∃ x c,vs=[x,chr1 c]∧Q (.int (gainOf i c)) H
def spFare (C:Addr) (i:Nat):Sp:=fun vs H Q _=>∃ (x:V) (fl:Addr) (w h:Nat) (sg:List Nat) (cell other:Int),vs=[x,.ref fl,.int cell,.int other]∧z60 C H fl w h sg∧Good w h sg∧InF sg cell∧InF sg other∧∀ H',Same H H'→Q (optV (fareOf i w sg cell other)) H'
def z209 (ad:Ad):Sp:=fun vs H Q _=>∃ (p fl:Addr) (i:Nat) (n:Int) (w h:Nat) (sg:List Nat) (cell other:Int),vs=[.ref p,.ref fl,.int cell,.int other]∧CarAt ad H p i n∧i≤3∧z60 ad.C_Floor H fl w h sg∧Good w h sg∧InF sg cell∧InF sg other∧∀ H',Same H H'→Q (optV (costOf i w sg cell other)) H'
def spCost (ad:Ad):Sp:=fun vs H Q _=>∃ (p fl:Addr) (i:Nat) (n:Int) (w h:Nat) (sg:List Nat) (cell other:Int),vs=[.ref p,.ref fl,.int cell,.int other]∧CarAt ad H p i n∧i≤3∧z60 ad.C_Floor H fl w h sg∧Good w h sg∧InF sg cell∧other∈v2 w sg cell∧∀ H',Same H H'→Q (optV (costOf i w sg cell other)) H'
def z404 (ad:Ad):Sp:=fun vs H Q _=>∃ (p fl:Addr) (i:Nat) (n:Int) (w h:Nat) (sg:List Nat) (cell:Int),vs=[.ref p,.ref fl,.int cell]∧CarAt ad H p i n∧i≤3∧z60 ad.C_Floor H fl w h sg∧Good w h sg∧InF sg cell∧∀ r H',H r=none→Same H H'→PairsL H' r (z170 i w sg cell)→Q (.ref r) H'
def z304 (ad:Ad):Sp:=fun vs H Q _=>∃ (p:Addr) (i:Nat) (n:Int) (c:Nat) (k:Int),vs=[.ref p,chr1 c,.int k]∧CarAt ad H p i n∧i≤3∧Q (.int (min (k + gainOf i c) n)) H
def spMake (ad:Ad):Sp:=fun vs H Q _=>∃ (i:Nat) (x:Str) (n:Int),vs=[.str x,.int n]∧i < 3∧kindsL[i]?=some x∧1≤n∧n≤60∧∀ p H',Same H H'→H p=none→CarAt ad H' p i n→Q (.ref p) H'
def z310:Sp:=fun vs H Q _=>∃ (i c:Nat) (x:Str),vs=[.str x,chr1 c]∧kindsL[i]?=some x∧Q (.bl (stands i c)) H
def Kept2 (H:Hp) (k:Addr) (n:Nat):Prop:=∃ ts:List Addr,ts.length≤n∧H k=some (.lst (ts.map V.ref))∧∀ t∈ts,∃ (a b:Addr) (us:List Addr) (ps:List (Int × Int)),H t=some (.tup [.ref a,.ref b])∧H a=some (.lst (us.map V.ref))∧H b=some (.lst (us.map V.ref))∧a≠k∧b≠k∧us.length≤10∧Paired (PairAt H) us ps
theorem cls_of {K:PySem.W.Frag}{mg:Str→Option Value}{ad:Ad}(T:Txt K mg ad):∀ i,Cls K (clsOf ad i)
 | 0=>T.cl_Cart
 | 1=>T.cl_Crawler
 | 2=>T.cl_Runner
 | (_ + 3)=>T.cl_Carrier
theorem nof_of {K:PySem.W.Frag}{mg:Str→Option Value}{ad:Ad}(T:Txt K mg ad):∀ i,NoAttr K (clsOf ad i) "full"
 | 0=>T.n_Cart_full
 | 1=>T.n_Crawler_full
 | 2=>T.n_Runner_full
 | (_ + 3)=>T.n_Carrier_full
theorem l_full (n:Int):(putF "full" (V.int n) []).lookup ("full":Str)=some (.int n):=by rw [lookup_putF,if_pos rfl]
theorem l_no (n:Int){m:Str}(h:¬ m="full"):(putF "full" (V.int n) []).lookup m=none:=by rw [lookup_putF,if_neg h];rfl
theorem chr_eq {c k:Nat}{s:Str}(hs:s.cps=#[k]):(chr1 c=V.str s)↔c=k:=by
 constructor
 ·intro h
  have h1:(⟨#[c]⟩:Str)=s:=V.str.inj h
  have h2:=congrArg Str.cps h1
  rw [hs] at h2
  simpa using h2
 ·intro h
  subst h
  exact congrArg V.str (z339 (by rw [hs]))
theorem q126 {c:Nat}:(chr1 c=V.str (Str.ofString "~"))↔c=126:=chr_eq (by decide +kernel)
theorem q43 {c:Nat}:(chr1 c=V.str (Str.ofString "+"))↔c=43:=chr_eq (by decide +kernel)
theorem q124 {c:Nat}:(chr1 c=V.str (Str.ofString "|"))↔c=124:=chr_eq (by decide +kernel)
theorem q46 {c:Nat}:(chr1 c=V.str (Str.ofString "."))↔c=46:=chr_eq (by decide +kernel)
theorem z425 {c k:Nat}{s:Str}(hs:s.cps=#[k]):eqV (V.str s) (chr1 c)=decide (c=k):=by
 have e:eqV (V.str s) (chr1 c)=(s == (⟨#[c]⟩:Str)):=rfl
 rw [e,Bool.eq_iff_iff,beq_iff_eq,decide_eq_true_iff]
 constructor
 ·intro h
  exact(chr_eq hs).mp (congrArg V.str h.symm)
 ·intro h
  exact(V.str.inj ((chr_eq hs).mpr h)).symm
theorem z352 {c:Nat}:inV (chr1 c) [V.str (Str.ofString "."),V.str (Str.ofString "+"),V.str (Str.ofString "|")]=common c:=by
 simp only [inV,List.any_cons,List.any_nil,Bool.or_false,common]
 rw [z425 (k:=46) (by decide +kernel),z425 (k:=43) (by decide +kernel),z425 (k:=124) (by decide +kernel),Bool.decide_or,Bool.decide_or]
theorem z121 {w h:Nat}{sg:List Nat}(g:Good w h sg){c o:Int}(ho:o∈v2 w sg c):InF sg o:=by
 unfold v2 at ho
 have h:=(List.mem_filter.mp ho).2
 unfold hasI at h
 simp only [Bool.and_eq_true,decide_eq_true_eq] at h
 exact⟨h.1.1,h.1.2⟩
theorem z107 {w:Nat}{sg:List Nat}{c:Int}:(v2 w sg c).length≤4:=by
 unfold v2
 refine Nat.le_trans (List.length_filter_le _ _) ?_
 unfold nearOf
 split <;> split <;> simp
def PO (f:Int→Option Int) (H:Hp) (t:Addr) (o:Int):Prop:=H t=some (.tup [.int o,optV (f o)])
def pvv (H:Hp):V→Bool
 | .ref t=>(match H t with
  | some (.tup [_,y])=>!decide (y=.non)
  | _=>false)
 | _=>false
theorem z281 {f:Int→Option Int}{H:Hp}:∀ {ts:List Addr}{os:List Int},Paired (PO f H) ts os→∃ us:List Addr,(ts.map V.ref).filter (pvv H)=us.map V.ref∧Paired (PairAt H) us (pairsOf f os)
 | _,_,.nil=>⟨[],rfl,.nil⟩
 | _,_,.cons (a:=t) (b:=o) (l₁:=ts) (l₂:=os) h r=>by
  obtain⟨us,e,q⟩:=z281 r
  have h:H t=some (.tup [.int o,optV (f o)]):=h
  rw [List.map_cons,List.filter_cons]
  cases z:f o with
  | none=>
   rw [if_neg (by simp [pvv,h,z,optV]),e]
   refine⟨us,rfl,?_⟩
   unfold pairsOf at q ⊢
   rw [List.filterMap_cons,z]
   exact q
  | some k=>
   rw [if_pos (by simp [pvv,h,z,optV]),e]
   refine⟨t::us,rfl,?_⟩
   unfold pairsOf at q ⊢
   rw [List.filterMap_cons,z]
   exact .cons (by rw [z] at h;exact h) q
def kinds3:List Str:=["cart","crawler","runner"]
theorem z611 {x:Str}:inV (.str x) [V.str (Str.ofString "cart"),V.str (Str.ofString "crawler"),V.str (Str.ofString "runner")]=decide (x∈kinds3):=by
 have e:∀ a:Str,(a == x)=decide (x=a):=fun a=>by
  rw [Bool.eq_iff_iff,beq_iff_eq,decide_eq_true_iff]
  exact eq_comm
 simp only [inV,eqV,List.any_cons,List.any_nil,Bool.or_false,kinds3,List.mem_cons,List.not_mem_nil,or_false]
 rw [e,e,e,Bool.decide_or,Bool.decide_or]
theorem nofl {w h:Nat}{l:Addr}{sg:List Nat}{m:Str}(a:¬ m="signs") (b:¬ m="lines") (c:¬ m="high") (d:¬ m="wide"):(flds w h l sg).lookup m=none:=f_no _ _ _ _ a b c d
theorem e_al4 {ad:Ad}{sp:Sp}:∀ i,i≤3→(clsOf ad i,sp)∈[(ad.C_Cart,sp),(ad.C_Crawler,sp),(ad.C_Runner,sp),(ad.C_Carrier,sp)]
 | 0,_=>by simp [clsOf]
 | 1,_=>by simp [clsOf]
 | 2,_=>by simp [clsOf]
 | 3,_=>by simp [clsOf]
 | (_ + 4),h=>by omega
theorem e_may {ad:Ad}:∀ i,i≤3→∃ j,(clsOf ad i,spMay j)∈[(ad.C_Cart,spMay 0),(ad.C_Crawler,spMay 1),(ad.C_Runner,spMay 0),(ad.C_Carrier,spMay 0)]∧∀ c,stands j c=stands i c
 | 0,_=>⟨0,by simp [clsOf],fun _=>rfl⟩
 | 1,_=>⟨1,by simp [clsOf],fun _=>rfl⟩
 | 2,_=>⟨0,by simp [clsOf],fun _=>rfl⟩
 | 3,_=>⟨0,by simp [clsOf],fun _=>rfl⟩
 | (_ + 4),h=>by omega
theorem e_gain {ad:Ad}:∀ i,i≤3→∃ j,(clsOf ad i,spGain j)∈[(ad.C_Cart,spGain 0),(ad.C_Crawler,spGain 1),(ad.C_Runner,spGain 2),(ad.C_Carrier,spGain 0)]∧∀ c,gainOf j c=gainOf i c
 | 0,_=>⟨0,by simp [clsOf],fun _=>rfl⟩
 | 1,_=>⟨1,by simp [clsOf],fun _=>rfl⟩
 | 2,_=>⟨2,by simp [clsOf],fun _=>rfl⟩
 | 3,_=>⟨0,by simp [clsOf],fun _=>rfl⟩
 | (_ + 4),h=>by omega
theorem e_fare {ad:Ad}{C:Addr}:∀ i,i≤3→∃ j,(clsOf ad i,spFare C j)∈[(ad.C_Cart,spFare C 0),(ad.C_Crawler,spFare C 1),(ad.C_Runner,spFare C 2),(ad.C_Carrier,spFare C 0)]∧∀ w sg a b,fareOf j w sg a b=fareOf i w sg a b
 | 0,_=>⟨0,by simp [clsOf],fun _ _ _ _=>rfl⟩
 | 1,_=>⟨1,by simp [clsOf],fun _ _ _ _=>rfl⟩
 | 2,_=>⟨2,by simp [clsOf],fun _ _ _ _=>rfl⟩
 | 3,_=>⟨0,by simp [clsOf],fun _ _ _ _=>rfl⟩
 | (_ + 4),h=>by omega
theorem z462 {α β:Type}{R:α→β→Prop}{ts:List α}{os:List β}(p:Paired R ts os){t:α}(ht:t∈ts):∃ o,R t o:=by
 induction p with
 | nil=>cases ht
 | cons h r ih=>rcases List.mem_cons.mp ht with rfl | z;exact⟨_,h⟩;exact ih z
theorem z390 {c:Nat}:c∈(Str.ofString ".+|").cps.toList↔common c=true:=by
 have e:(Str.ofString ".+|").cps.toList=[46,43,124]:=by decide +kernel
 rw [e]
 simp [common]
theorem kx:∀ (i:Nat) (x:Str),kindsL[i]?=some x→(x=Str.ofString "crawler"↔i=1)∧(x=Str.ofString "runner"↔i=2)∧i≤3
 | 0,_,h=>by cases h;decide +kernel
 | 1,_,h=>by cases h;decide +kernel
 | 2,_,h=>by cases h;decide +kernel
 | 3,_,h=>by cases h;decide +kernel
 | (i + 4),_,h=>by simp [kindsL] at h
theorem z653 {i w:Nat}{sg:List Nat}{c o:Int}(h:stands i (at_ sg c)=true):costOf i w sg c o=z101 i w sg c o:=by
 unfold costOf z101
 rw [h,Bool.true_and]
theorem z327 {f:Int→Option Int}{os:List Int}:(pairsOf f os).length≤os.length:=List.length_filterMap_le _ _
theorem z418 {n:Nat}{H:Hp}{tt:TT}{te:TE}{cs:St}{F:List V→Hp→Prop}(Pv:Nat→List V→Hp→Prop) (h0:Pv 0 [] H)
  (hs:∀ i ys H,i < n→Pv i ys H→tt (some (.int (0 + (i:Int)))::cs) H fun b H3=>if b=true then te (some (.int (0 + (i:Int)))::cs) H3 fun y H4=>ys.length≤sizeLine∧Pv (i + 1) (ys++[y]) H4 else Pv (i + 1) ys H3)
  (hd:∀ ys H,Pv n ys H→ys.length≤sizeLine∧F ys H):∃ W:Nat→Nat→List V→Hp→Prop,(∃ m,W 0 m [] H)∧CompW (Itr 0 n) (gName 0) tt te (none::cs) W F:=
 z625 (x:=fun i=>.int (0 + (i:Int))) Pv h0 (fun i ys H hi _=>⟨hi,fun y H' e=>⟨e.1,e.2⟩⟩) (fun _ _ _=>Nat.le_refl _) hs hd
def Cars (ad:Ad) (H:Hp) (ps:List Addr) (fs:List Int):Prop:=∀ j p f,ps[j]?=some p→fs[j]?=some f→CarAt ad H p j f
open Wy
def spLast:Sp:=fun vs H Q _=>∃ v b cs,vs=[v]∧WayAt H v b cs∧Q (.int (b + (cs.length:Int) - 1)) H
def spIdx:Sp:=fun vs H Q _=>∃ v b cs t,vs=[v,.int t]∧WayAt H v b cs∧Q (.int (idx b cs t)) H
def z273:Sp:=fun vs H Q _=>∃ v b cs t,vs=[v,.int t]∧WayAt H v b cs∧cs≠[]∧Q (plc b cs t) H
def spCell (K:PySem.W.Frag):Sp:=fun vs H Q _=>∃ (a:Addr) (ns:List Int) (k:Int),vs=[.ref a,.int k]∧SqL K H a (ns.map V.int)∧(∀ i∈ns,Bits i)∧0≤k∧∀ r:Int,Bits r→Q (.int r) H
def wordV:Option Str→V
 | some w=>.str w
 | none=>.non
def spWord:Sp:=fun vs H Q _=>∃ v b c v' b' c' t,vs=[v,v',.int t]∧WayAt H v b c∧WayAt H v' b' c'∧c≠[]∧c'≠[]∧Q (wordV (mtAt b c b' c' t)) H
theorem sc_plc {x y:V}(hx:x=.non∨∃ z,x=.int z) (hy:y=.non∨∃ z,y=.int z):scal x y=true:=by
 rcases hx with rfl | ⟨z,rfl⟩ <;> rcases hy with rfl | ⟨w,rfl⟩ <;> rfl
open Bk
def Good (b:Int) (c:List Int):Prop:=c≠[]∧c.length≤1000∧0≤b∧b≤10 ^ 15
def z551:Sp:=fun vs H Q _=>∃ v b c v' b' c',vs=[v,v']∧WayAt H v b c∧WayAt H v' b' c'∧Good b c∧Good b' c'∧∀ r H' o,Same H H'→MeetAt H' r o→First b c b' c' o→Q r H'
def z546 (ad:Ad):Sp:=fun vs H Q _=>∃ (x:Addr) (k:Int) (fs:Array Value) (sl:Array (Option Value)),vs=[.ref x,.int k]∧H x=some (.ext (XObj x ad.C_Meets none fs sl))∧∀ dx,H dx=none→dx≠x→Q .non (upd (upd H dx (.xd (putF "other" (.int k) []))) x (.ext (XObj x ad.C_Meets (some dx) fs sl)))
def z568 (ad:Ad):Sp:=fun vs H Q _=>∃ (p dx:Addr),vs=[.ref p]∧H p=some (.ins ad.C_Book dx [])∧∀ d,H d=none→Q .non (upd (upd H d (.dK [])) p (.ins ad.C_Book dx (wl d)))
def z581 (ad:Ad):Sp:=fun vs H Q E=>∃ (p d:Addr) (es:List Ent) (n:Int),vs=[.ref p,.int n]∧BookAt ad.C_Book H p d es∧((∃ e∈es,e.k=n)→Q .non H)∧((∀ e∈es,e.k≠n)→E (.ref ad.C_NoCarrier) none H)
def z333 (ad:Ad):Sp:=fun vs H Q _=>∃ (p d:Addr) (es:List Ent),vs=[.ref p]∧BookAt ad.C_Book H p d es∧es.length < 64∧∀ (l:Addr) (ms:List Int),H l=none→ms.Perm (es.map (·.k))→ms.Pairwise (·≤·)→Q (.ref l) (upd H l (.lst (ms.map V.int)))
def spPut (ad:Ad):Sp:=fun vs H Q E=>∃ (p d:Addr) (es:List Ent) (n:Int) (v:V) (b:Int) (c:List Int),vs=[.ref p,.int n,v]∧BookAt ad.C_Book H p d es∧Ents H es∧WayAt H v b c∧Tiny b c∧
 ∀ H',Same H H'→(PutIs es n b c none→Q .non (upd H' d (.dK (dw (putE es ⟨n,v,b,c⟩)))))∧∀ k x,PutIs es n b c (some k)→H' x=some (.xd (putF "other" (.int k) []))→E (.ref ad.C_Meets) (some x) H'
theorem z635 {c:List Int}(h:c≠[]):atI (c.map V.int) (-1)=some (.int (endC c)):=by
 have lp:0 < c.length:=List.length_pos_iff.mpr h
 unfold atI ixN
 rw [if_neg (by decide),if_pos (by rw [List.length_map];omega)]
 show (c.map V.int)[((-1:Int) + ((c.map V.int).length:Int)).toNat]?=_
 rw [List.length_map,show (-1 + (c.length:Int)).toNat=c.length - 1 by omega,List.getElem?_map,List.getElem?_eq_getElem (by omega)]
 unfold endC
 rw [List.getD_eq_getElem?_getD,List.getElem?_eq_getElem (by omega)]
 rfl
theorem open_0 {es:List Ent}{n cell other t:Int}:OpenIs (besd (es.take 0) n) cell other t:=fun e he=>by rw [List.take_zero] at he;cases he
def BkAt (C:Addr) (H:Hp) (p d:Addr) (es:List Ent):Prop:=BookAt C H p d es∧Ents H es
theorem BkAt.same {C:Addr}{H H':Hp}{p d:Addr}{es:List Ent}(h:BkAt C H p d es) (s:Same H H'):BkAt C H' p d es:=⟨h.1.same s,h.2.tups (z206 s)⟩
def KpAt (H:Hp) (e:Addr) (es:List Ent):Prop:=H e=some (.dK (dw es))∧Ents H es
def z343 (ad:Ad):Sp:=fun vs H Q _=>∃ (p d:Addr) (es:List Ent) (n:Int),vs=[.ref p,.int n]∧BkAt ad.C_Book H p d es∧∀ l H',H l=none→Same H H'→H' l=some (.lst ((besd es n).map (·.v)))→Q (.ref l) H'
def z341 (ad:Ad):Sp:=fun vs H Q _=>∃ (p d:Addr) (es:List Ent) (n t:Int),vs=[.ref p,.int n,.int t]∧BkAt ad.C_Book H p d es∧∀ l kvs H',H l=none→Same H H'→H' l=some (.dK kvs)→ComIs (besd es n) t kvs→Q (.ref l) H'
def z561:Sp:=fun vs H Q _=>∃ (l:Addr) (kvs:List (Key × V)) (cell other:Int),vs=[.ref l,.int cell,.int other]∧H l=some (.dK kvs)∧(∀ (z:Int) v,valV kvs (.inl z)=some v→v=.non∨∃ i,v=.int i)∧
 ∀ b:Bool,(b=true↔(valV kvs (.inl other)=none∧(valV kvs (.inl cell)).getD .non≠.int other))→Q (.bl b) H
def lastT (e:Ent):Int:=e.b + (e.c.length:Int) - 1
structure Two (C:Addr) (H:Hp) (p d e:Addr) (es:List Ent):Prop where
 bk:BookAt C H p d es
 kp:H e=some (.dK (dw es))
 en:Ents H es
 ap:Apt es
 ne:d≠e
theorem Two.same {C:Addr}{H H':Hp}{p d e:Addr}{es:List Ent}(h:Two C H p d e es) (s:Same H H'):Two C H' p d e es:=⟨h.bk.same s,s _ _ h.kp,h.en.tups (z206 s),h.ap,h.ne⟩
theorem Two.b {C:Addr}{H:Hp}{p d e:Addr}{es:List Ent}(h:Two C H p d e es):BkAt C H p d es:=⟨h.bk,h.en⟩
theorem Two.k {C:Addr}{H:Hp}{p d e:Addr}{es:List Ent}(h:Two C H p d e es):KpAt H e es:=⟨h.kp,h.en⟩
def But2 (d e:Addr) (H H':Hp):Prop:=∀ b o,H b=some o→b≠d→b≠e→H' b=some o
theorem z585 {d e:Addr}{H:Hp}{o o':HO}:But2 d e H (upd (upd H d o) e o'):=fun b u h n1 n2=>by rw [upd_ne n2,upd_ne n1];exact h
theorem But2.tups {d e:Addr}{H H':Hp}{k1 k2:List (Key × V)} (s:But2 d e H H') (hd:H d=some (.dK k1)) (he:H e=some (.dK k2)):Tups H H':=fun b xs h=>s _ _ h (z552 h hd) (z552 h he)
theorem Two.set {C:Addr}{H:Hp}{p d e:Addr}{es es':List Ent}(t:Two C H p d e es) (en:Ents H es') (ap:Apt es'):Two C (upd (upd H d (.dK (dw es'))) e (.dK (dw es'))) p d e es':=by
 obtain⟨dx,ho⟩:=t.bk.ob
 exact⟨⟨⟨dx,by rw [upd_ne (ne_of ho t.kp (by intro z;cases z)),upd_ne (ne_of ho t.bk.tb (by intro z;cases z))];exact ho⟩,by rw [upd_ne t.ne,upd_same]⟩,upd_same,en.tups ((z585 (H:=H)).tups t.bk.tb t.kp),ap,t.ne⟩
def AnsIs (es:List Ent) (w n cell other t:Int) (v:V):Prop:=(w=0∧v=whoIs es cell t)∨(w=1∧∃ b:Bool,v=.bl b∧(b=true↔OpenIs (besd es n) cell other t))∨(w=2∧∃ m,v=.int m∧MaxD ((besd es n).map lastT) 0 m)∨(w=3∧FreeIs (besd es n) cell v)
theorem z616:Apt []:=fun e he=>by cases he
theorem z645 {C:Addr}{H:Hp}{p d e:Addr}(b:BookAt C H p d []) (n:H e=none):Two C (upd H e (.dK [])) p d e []:=⟨b.same (zz0 n),upd_same,z613,z616,ne_of_none b.tb n⟩
structure Both (K:PySem.W.Frag) (C a bp bd ke op od fe:Addr) (ns:List Int) (H:Hp):Prop where
 sq:SqL K H a (ns.map V.int)
 one:∃ es,Two C H bp bd ke es
 two:∃ es,Two C H op od fe es
 n1:od≠bd
 n2:od≠ke
 n3:fe≠bd
 n4:fe≠ke
def spLaw (K:PySem.W.Frag):Sp:=fun vs H Q _=>∃ (a:Addr) (ns:List Int),vs=[.ref a]∧SqL K H a (ns.map V.int)∧ns.length≤63∧(∀ i∈ns,Bits i)∧∀ H',Q (.bl true) H'
def met (xs:List Int) (m:Nat) (c:Int):Nat:=m + ((xs.drop m).takeWhile fun x=>decide (x=c)).length
def spMet (K:PySem.W.Frag):Sp:=fun vs H Q _=>∃ (a:Addr) (xs:List Int) (m:Nat) (c:Int),vs=[.ref a,.int (m:Int),.int c]∧SqL K H a (xs.map V.int)∧m≤xs.length∧xs.length≤100∧Q (.int (met xs m c:Nat)) H
def spLMet (K:PySem.W.Frag):Sp:=fun vs H Q _=>∃ (a:Addr) (xs:List Int) (m:Nat) (c:Int),vs=[.ref a,.int (m:Int),.int c]∧SqL K H a (xs.map V.int)∧m≤xs.length∧xs.length≤100∧∀ H',Same H H'→Q (.int (met xs m c:Nat)) H'
def z473 (K:PySem.W.Frag):Sp:=fun vs H Q _=>∃ (a:Addr) (xs:List Int) (st ch:Int),vs=[.ref a,.int st,.int ch]∧SqL K H a (xs.map V.int)∧xs.length≤100∧
 ∀ p H',Same H H'→H p=none→H' p=some (.dT [([.inl (met xs 0 st:Nat),.inl st],.int ch)])→Q (.ref p) H'
theorem z441 {xs:List Int}{n:Nat}{c:Int}(h:xs[n]?=some c):met xs n c=met xs (n + 1) c:=by
 have hl:=(List.getElem?_eq_some_iff.mp h).1
 have e:xs.drop n=c::xs.drop (n + 1):=by
  rw [List.drop_eq_getElem_cons hl]
  have:=(List.getElem?_eq_some_iff.mp h).2
  rw [this]
 unfold met
 rw [e,List.takeWhile_cons,if_pos (by simp),List.length_cons]
 omega
theorem z431 {xs:List Int}{n:Nat}{c x:Int}(h:xs[n]?=some x) (hx:x≠c):met xs n c=n:=by
 have hl:=(List.getElem?_eq_some_iff.mp h).1
 have e:xs.drop n=x::xs.drop (n + 1):=by
  rw [List.drop_eq_getElem_cons hl]
  have:=(List.getElem?_eq_some_iff.mp h).2
  rw [this]
 unfold met
 rw [e,List.takeWhile_cons,if_neg (by simp [hx]),List.length_nil]
 rfl
theorem z558 {xs:List Int}{n:Nat}{c:Int}(h:xs.length≤n):met xs n c=n:=by
 unfold met
 rw [List.drop_eq_nil_of_le h]
 rfl
theorem z544 {c:Nat}:c∈(Str.ofString "+.|").cps.toList↔common c=true:=by
 have e1:(Str.ofString "+.|").cps.toList=[43,46,124]:=by decide +kernel
 have e2:(Str.ofString ".+|").cps.toList=[46,43,124]:=by decide +kernel
 rw [← z390,e1,e2]
 simp only [List.mem_cons]
 exact or_left_comm
open Ly
structure Spr where
 fl:Addr
 mv:Addr
 bk:Addr
 n:Int
 sl:Addr
 kn:Addr
def spF (S:Spr):List (Str × V):=putF "known" (.ref S.kn) (putF "stops" (.ref S.sl) (putF "number" (.int S.n) (putF "booked" (.ref S.bk) (putF "mover" (.ref S.mv) (putF "floor" (.ref S.fl) [])))))
theorem z468 (S:Spr):(spF S).lookup ("known":Str)=some (.ref S.kn):=by unfold spF;rw [lookup_putF,if_pos rfl]
theorem z629 (S:Spr):(spF S).lookup ("stops":Str)=some (.ref S.sl):=by unfold spF;rw [lookup_putF,if_neg (by decide +kernel),lookup_putF,if_pos rfl]
theorem z592 (S:Spr):(spF S).lookup ("number":Str)=some (.int S.n):=by unfold spF;rw [lookup_putF,if_neg (by decide +kernel),lookup_putF,if_neg (by decide +kernel),lookup_putF,if_pos rfl]
theorem z570 (S:Spr):(spF S).lookup ("booked":Str)=some (.ref S.bk):=by unfold spF;rw [lookup_putF,if_neg (by decide +kernel),lookup_putF,if_neg (by decide +kernel),lookup_putF,if_neg (by decide +kernel),lookup_putF,if_pos rfl]
theorem z559 (S:Spr):(spF S).lookup ("mover":Str)=some (.ref S.mv):=by unfold spF;rw [lookup_putF,if_neg (by decide +kernel),lookup_putF,if_neg (by decide +kernel),lookup_putF,if_neg (by decide +kernel),lookup_putF,if_neg (by decide +kernel),lookup_putF,if_pos rfl]
theorem z537 (S:Spr):(spF S).lookup ("floor":Str)=some (.ref S.fl):=by unfold spF;rw [lookup_putF,if_neg (by decide +kernel),lookup_putF,if_neg (by decide +kernel),lookup_putF,if_neg (by decide +kernel),lookup_putF,if_neg (by decide +kernel),lookup_putF,if_neg (by decide +kernel),lookup_putF,if_pos rfl]
theorem p_no (S:Spr){m:Str}(h:∀ x∈(["known","stops","number","booked","mover","floor"]:List Str),¬ m=x):(spF S).lookup m=none:=by
 unfold spF
 rw [lookup_putF,if_neg (h _ (by simp)),lookup_putF,if_neg (h _ (by simp)),lookup_putF,if_neg (h _ (by simp)),lookup_putF,if_neg (h _ (by simp)),lookup_putF,if_neg (h _ (by simp)),lookup_putF,if_neg (h _ (by simp))]
 rfl
def SprAt (ad:Ad) (H:Hp) (p:Addr) (S:Spr):Prop:=∃ dx,H p=some (.ins ad.C_Spread dx (spF S))
def z30 (i w:Nat) (sg:List Nat) (st:List Int) (m:Nat) (c:Int):List (List Key × Int):=(z170 i w sg c).map fun o=>(nk (met st m o.1) o.1,o.2)
def NodeAt (H:Hp) (t:Addr) (p:List Key × Int):Prop:=∃ b,H t=some (.tup [.ref b,.int p.2])∧H b=some (.tup (p.1.map kV))
def NodesL (H:Hp) (r:Addr) (ps:List (List Key × Int)):Prop:=∃ ts:List Addr,H r=some (.lst (ts.map V.ref))∧Paired (NodeAt H) ts ps
theorem NodeAt.tups {H H':Hp}{t:Addr}{p:List Key × Int}(s:Tups H H') (h:NodeAt H t p):NodeAt H' t p:=let ⟨b,h1,h2⟩:=h;⟨b,s _ _ h1,s _ _ h2⟩
def z46 (H:Hp) (kn:Addr) (i w:Nat) (sg:List Nat) (st:List Int):Prop:=∃ kvs,H kn=some (.dT kvs)∧(kvs.map (·.1)).Nodup∧z202 st.length sg.length kvs∧∀ m c v,valV kvs (nk m c)=some v→∃ l,v=.ref l∧NodesL H l (z30 i w sg st m c)
theorem NodesL.keep {H H':Hp}{l:Addr}{ps:List (List Key × Int)} (s:Tups H H') (hl:∀ xs,H l=some (.lst xs)→H' l=some (.lst xs)) (h:NodesL H l ps):NodesL H' l ps:=let ⟨ts,h1,h2⟩:=h;⟨ts,hl _ h1,Paired.mapP h2 fun _ _ z=>z.tups s⟩
theorem z46.same {H H':Hp}{kn:Addr}{i w:Nat}{sg:List Nat}{st:List Int}(s:Same H H') (h:z46 H kn i w sg st):z46 H' kn i w sg st:=
 let ⟨kvs,h1,h2,h3,h4⟩:=h
 ⟨kvs,s _ _ h1,h2,h3,fun m c v hv=>let ⟨l,e,q⟩:=h4 m c v hv;⟨l,e,q.keep (z206 s) fun _ z=>s _ _ z⟩⟩
def z237 (H:Hp) (kn z:Addr):Prop:=∀ kvs k l,H kn=some (.dT kvs)→valV kvs k=some (.ref l)→l≠z
theorem z46.but {H H':Hp}{kn z:Addr}{i w:Nat}{sg:List Nat}{st:List Int}{xs:List V}(h:z46 H kn i w sg st) (hn:z237 H kn z) (hz:H z=some (.lst xs)) (s:SameB z H H'):z46 H' kn i w sg st:=by
 obtain⟨kvs,h1,h2,h3,h4⟩:=h
 refine⟨kvs,s _ _ h1 (ne_of h1 hz (by intro z;cases z)),h2,h3,fun m c v hv=>?_⟩
 obtain⟨l,rfl,q⟩:=h4 m c v hv
 exact⟨l,rfl,q.keep (s.tups (fun ys y=>by rw [hz] at y;cases y)) fun _ y=>s _ _ y (hn kvs _ l h1 hv)⟩
theorem z46.no {H H':Hp}{kn z:Addr}{i w:Nat}{sg:List Nat}{st:List Int}(h:z46 H kn i w sg st) (nz:H z=none) (s:Same H H'):z237 H' kn z:=by
 obtain⟨kvs,h1,h2,h3,h4⟩:=h
 intro kv k l e hv
 rw [s _ _ h1] at e
 cases e
 obtain⟨m,c,rfl,_⟩:=h3 k (valV_in hv)
 obtain⟨l',e,ts,q,_⟩:=h4 m c _ hv
 cases e
 exact ne_of_none q nz
structure SpOk (ad:Ad) (K:PySem.W.Frag) (H:Hp) (p:Addr) (S:Spr) (i:Nat) (n:Int) (w h:Nat) (sg:List Nat) (st:List Int):Prop where
 sp:SprAt ad H p S
 car:CarAt ad H S.mv i n
 i3:i≤3
 flo:z60 ad.C_Floor H S.fl w h sg
 g:Fl.Good w h sg
 sto:SqL K H S.sl (st.map V.int)
 st1:st.length≤100
 kno:z46 H S.kn i w sg st
section
variable {ad:Ad}{K:PySem.W.Frag}{H H':Hp}{p:Addr}{S:Spr}{i:Nat}{n:Int}{w h:Nat}{sg:List Nat}{st:List Int}
theorem SpOk.same (o:SpOk ad K H p S i n w h sg st) (s:Same H H'):SpOk ad K H' p S i n w h sg st:=
 ⟨let ⟨dx,e⟩:=o.sp;⟨dx,s _ _ e⟩,o.car.same s,o.i3,o.flo.same s,o.g,s.seq o.sto,o.st1,o.kno.same s⟩
structure Tab (u:HO):Prop where
 i:∀ C dx fs,.ins C dx fs≠u
 l:∀ xs,.lst xs≠u
 f:∀ o xs,.frz o (.lst xs)≠u
 t:∀ xs,.tup xs≠u
theorem tab_d {kvs:List (List Key × V)}:Tab (.dT kvs):=⟨fun _ _ _ z=>(nomatch z),fun _ z=>(nomatch z),fun _ _ z=>(nomatch z),fun _ z=>(nomatch z)⟩
theorem tab_f {o:Obj}{kvs:List (List Key × V)}:Tab (.frz o (.dT kvs)):=⟨fun _ _ _ z=>(nomatch z),fun _ z=>(nomatch z),fun _ _ z=>(by cases z),fun _ z=>(nomatch z)⟩
theorem seqB {k a:Addr}{xs:List V}{u:HO}(h:SqL K H a xs) (hk:H k=some u) (hu:Tab u) (s:SameB k H H'):SqL K H' a xs:=by
 rcases h with (h | ⟨o,h⟩) | h
 ·exact .inl (.inl (s _ _ h (ne_of h hk (hu.l _))))
 ·exact .inl (.inr ⟨o,s _ _ h (ne_of h hk (hu.f _ _))⟩)
 ·exact .inr h
theorem SpOk.bt {k:Addr}{u:HO}(o:SpOk ad K H p S i n w h sg st) (hk:H k=some u) (hu:Tab u) (s:SameB k H H') (kn:z46 H' S.kn i w sg st):SpOk ad K H' p S i n w h sg st:=by
 obtain⟨dx,e⟩:=o.sp
 obtain⟨dy,e2⟩:=o.car
 obtain⟨dz,l,e3,e4⟩:=o.flo.ob
 exact⟨⟨dx,s _ _ e (ne_of e hk (hu.i _ _ _))⟩,⟨dy,s _ _ e2 (ne_of e2 hk (hu.i _ _ _))⟩,o.i3,⟨⟨dz,l,s _ _ e3 (ne_of e3 hk (hu.i _ _ _)),s _ _ e4 (ne_of e4 hk (hu.l _))⟩⟩,o.g,seqB o.sto hk hu s,o.st1,kn⟩
theorem SpOk.b (o:SpOk ad K H p S i n w h sg st) (s:SameB S.kn H H') (kn:z46 H' S.kn i w sg st):SpOk ad K H' p S i n w h sg st:=
 let ⟨_,e,_⟩:=o.kno
 o.bt e tab_d s kn
theorem SpOk.oth {k:Addr}{u:HO}(o:SpOk ad K H p S i n w h sg st) (hk:H k=some u) (hu:Tab u) (ne:S.kn≠k) (s:SameB k H H'):SpOk ad K H' p S i n w h sg st:=by
 obtain⟨kv,h1,h2,h3,h4⟩:=id o.kno
 refine o.bt hk hu s ⟨kv,s _ _ h1 ne,h2,h3,fun m c v hv=>?_⟩
 obtain⟨l,rfl,q⟩:=h4 m c v hv
 exact⟨l,rfl,q.keep (s.tups (fun ys y=>by rw [hk] at y;exact hu.t _ (Option.some.inj y).symm)) fun _ y=>s _ _ y (ne_of y hk (hu.l _))⟩
theorem SpOk.other {k:Addr}{kvs:List (List Key × V)} (o:SpOk ad K H p S i n w h sg st) (hk:H k=some (.dT kvs)) (ne:S.kn≠k) (s:SameB k H H'):SpOk ad K H' p S i n w h sg st:=o.oth hk tab_d ne s
end
def clr (kvs:List (Key × V)) (cell other:Int):Bool:=(valV kvs (.inl other)).isNone && !decide ((valV kvs (.inl cell)).getD .non=.int other)
theorem z542 {kvs:List (Key × V)}{cell other:Int}:clr kvs cell other=true↔(valV kvs (.inl other)=none∧(valV kvs (.inl cell)).getD .non≠.int other):=by
 unfold clr
 rw [Bool.and_eq_true,Option.isNone_iff_eq_none,Bool.not_eq_true',decide_eq_false_iff_not]
def opn (es:List Ent) (t cell other:Int):Bool:=es.all fun e=>!decide (plc e.b e.c (t + 1)=.int other) && !(decide (plc e.b e.c t=.int other) && decide (plc e.b e.c (t + 1)=.int cell))
theorem z439 {es:List Ent}{t cell other:Int}:opn es t cell other=true↔OpenIs es cell other t:=by
 unfold opn OpenIs
 rw [List.all_eq_true]
 refine forall_congr' fun e=>forall_congr' fun _=>?_
 rw [Bool.and_eq_true,Bool.not_eq_true',Bool.not_eq_true',decide_eq_false_iff_not,Bool.and_eq_false_iff,decide_eq_false_iff_not,decide_eq_false_iff_not,Classical.not_and_iff_not_or_not]
theorem clr_eq {es:List Ent}{t cell other:Int}{kvs:List (Key × V)} (h:ComIs es t kvs) (a:Apt es) (nd:(es.map (·.k)).Nodup):clr kvs cell other=opn es t cell other:=
 Bool.eq_iff_iff.mpr (z542.trans ((z578 h a nd).trans z439.symm))
def cellK:List Key→Int
 | [_,.inl c]=>c
 | _=>0
def fitP (op:Int→Int→Bool) (c q:Int) (p:List Key × Int):Option (List Key × Int):=if p.2≤q∧op c (cellK p.1)=true then some (p.1,q - p.2) else none
def reachOf (op:Int→Int→Bool) (i w:Nat) (sg:List Nat) (st:List Int) (n:Int) (m:Nat) (c q:Int):List (List Key × Int):=
 (if op c c=true then [(nk (met st m c) c,min (q + gainOf i (at_ sg c)) n)] else [])++(z30 i w sg st m c).filterMap (fitP op c q)
def leftOf (i w:Nat) (sg:List Nat) (n c o q:Int):Int:=if o=c then min n (q + gainOf i (at_ sg c)) else match z101 i w sg c o with
 | none=>-1
 | some k=>q - k
def goOf (op:Int→Int→Bool) (i w:Nat) (sg:List Nat) (st:List Int) (n:Int) (m:Nat) (c q o:Int):Option (List Key × Int):=if op c o=true∧0≤leftOf i w sg n c o q then some (nk (met st m o) o,leftOf i w sg n c o q) else none
def z470 (op:Int→Int→Bool) (i w:Nat) (sg:List Nat) (st:List Int) (n:Int) (m:Nat) (c q:Int):List (List Key × Int):=([c]++v2 w sg c).filterMap (goOf op i w sg st n m c q)
theorem z414 (i c:Nat):0≤gainOf i c:=by
 unfold gainOf
 split
 ·split <;> decide
 ·decide
theorem z336 {w:Nat}{sg:List Nat}{c o:Int}(w0:1≤w) (h:o∈v2 w sg c):o≠c:=by
 have h1:=(List.mem_filter.mp h).1
 unfold nearOf at h1
 simp only [List.mem_append,List.mem_cons,List.not_mem_nil,or_false] at h1
 rcases h1 with ((rfl | h1) | h1) | rfl
 ·omega
 ·split at h1
  ·have:o=c - 1:=by simpa using h1
   omega
  ·cases h1
 ·split at h1
  ·have:o=c + 1:=by simpa using h1
   omega
  ·cases h1
 ·omega
theorem z606 {α β:Type}{f g:α→Option β}{l:List α}(h:∀ x∈l,f x=g x):l.filterMap f=l.filterMap g:=by
 induction l with
 | nil=>rfl
 | cons a r ih=>rw [List.filterMap_cons,List.filterMap_cons,h a (by simp),ih fun x hx=>h x (by simp [hx])]
theorem z398 {α β:Type}{f:α→Option β}{e:α}(h:f e=none):[e].filterMap f=[]:=by simp [h]
theorem z550 {α β:Type}{f:α→Option β}{e:α}{y:β}(h:f e=some y):[e].filterMap f=[y]:=by simp [h]
theorem z432 {op:Int→Int→Bool}{i w h:Nat}{sg:List Nat}{st:List Int}{n:Int}{m:Nat}{c q:Int}(g:Fl.Good w h sg) (hs:stands i (at_ sg c)=true) (n0:0≤n) (q0:0≤q):reachOf op i w sg st n m c q=z470 op i w sg st n m c q:=by
 unfold reachOf z470
 rw [List.filterMap_append]
 have gp:=z414 i (at_ sg c)
 congr 1
 ·rw [List.filterMap_cons,List.filterMap_nil]
  unfold goOf leftOf
  rw [if_pos rfl]
  by_cases z:op c c=true
  ·rw [if_pos z,if_pos ⟨z,by omega⟩,Int.min_comm]
  ·rw [if_neg z,if_neg (fun y=>z y.1)]
 ·unfold z30 z170 pairsOf
  rw [List.filterMap_map,List.filterMap_filterMap]
  refine z606 fun o ho=>?_
  have ne:=z336 g.w0 ho
  unfold goOf leftOf
  rw [if_neg ne,z653 hs]
  cases z101 i w sg c o with
  | none=>exact(if_neg (fun y=>absurd (show (0:Int)≤-1 from y.2) (by decide))).symm
  | some k=>
   show (if k≤q∧op c o=true then _ else none)=if op c o=true∧0≤q - k then some (nk (met st m o) o,q - k) else none
   by_cases z:k≤q∧op c o=true
   ·rw [if_pos z,if_pos ⟨z.2,by omega⟩]
   ·rw [if_neg z,if_neg (fun y=>z ⟨by omega,y.1⟩)]
def overV (f:Nat→Int→Int→List (List Key × Int)):List Key × V→List (List Key × Int)
 | ([.inl m,.inl c],.int q)=>f m.toNat c q
 | _=>[]
def spread (f:Nat→Int→Int→List (List Key × Int)) (lkvs:List (List Key × V)):List (List Key × V):=(lkvs.flatMap (overV f)).foldl addP []
structure LyOk (st:List Int) (sg:List Nat) (lkvs:List (List Key × V)):Prop where
 nd:(lkvs.map (·.1)).Nodup
 ok:∀ x∈lkvs,∃ (m:Nat) (c q:Int),x=(nk m c,.int q)∧m≤st.length∧InF sg c∧0≤q
theorem z367 {f:Nat→Int→Int→List (List Key × Int)}{lkvs:List (List Key × V)}{j m:Nat}{c q:Int}(h:lkvs[j]?=some (nk m c,.int q)):spread f (lkvs.take (j + 1))=(f m c q).foldl addP (spread f (lkvs.take j)):=by
 unfold spread
 rw [List.take_add_one,h,List.flatMap_append,List.foldl_append]
 show ((overV f (nk m c,.int q))++[]).foldl addP _=_
 rw [List.append_nil]
 rfl
def Rows (st:List Int) (sg:List Nat) (ps:List (List Key × Int)):Prop:=∀ x∈ps,0≤x.2∧∃ (m:Nat) (c:Int),x.1=nk m c∧m≤st.length∧InF sg c
structure TabOk (st:List Int) (sg:List Nat) (kvs:List (List Key × V)):Prop where
 nu:Nums kvs
 ni:z202 st.length sg.length kvs
theorem TabOk.add {st:List Int}{sg:List Nat}{kvs:List (List Key × V)}{x:List Key × Int}(t:TabOk st sg kvs) (h:0≤x.2∧∃ (m:Nat) (c:Int),x.1=nk m c∧m≤st.length∧InF sg c):TabOk st sg (addP kvs x):=by
 obtain⟨h0,m,c,e,hm,hc⟩:=h
 refine⟨t.nu.add h0,fun k hk=>?_⟩
 rcases z636 hk with z | z
 ·exact⟨m,c,z.trans e,hm,hc.1,hc.2⟩
 ·exact t.ni k z
theorem TabOk.fold {st:List Int}{sg:List Nat}:∀ {ps:List (List Key × Int)}{kvs:List (List Key × V)},TabOk st sg kvs→Rows st sg ps→TabOk st sg (ps.foldl addP kvs)
 | [],_,t,_=>t
 | x::r,kvs,t,h=>TabOk.fold (ps:=r) (kvs:=addP kvs x) (t.add (h x (by simp))) fun y hy=>h y (by simp [hy])
theorem z417 {st:List Int}{sg:List Nat}:TabOk st sg []:=⟨z586,z348⟩
theorem met_le {xs:List Int}{m:Nat}{c:Int}(h:m≤xs.length):met xs m c≤xs.length:=by
 unfold met
 have h1:=(List.takeWhile_sublist (p:=fun x=>decide (x=c)) (l:=xs.drop m)).length_le
 rw [List.length_drop] at h1
 omega
theorem z287 {i w h:Nat}{sg:List Nat}{st:List Int}{m:Nat}{c:Int}(g:Fl.Good w h sg) (hm:m≤st.length):∀ x∈z30 i w sg st m c,∃ (m':Nat) (o:Int),x.1=nk m' o∧m'≤st.length∧InF sg o∧o∈v2 w sg c:=by
 intro x hx
 obtain⟨⟨o,k⟩,ho,rfl⟩:=List.mem_map.mp hx
 obtain⟨o',ho',e⟩:=List.mem_filterMap.mp ho
 cases hf:costOf i w sg c o' with
 | none=>rw [hf] at e;cases e
 | some k'=>
  rw [hf] at e
  cases e
  exact⟨_,_,rfl,met_le hm,z121 g ho',ho'⟩
theorem z155 {op:Int→Int→Bool}{i w h:Nat}{sg:List Nat}{st:List Int}{n:Int}{m:Nat}{c q:Int}(g:Fl.Good w h sg) (hm:m≤st.length) (hc:InF sg c) (n0:0≤n) (q0:0≤q):Rows st sg (reachOf op i w sg st n m c q):=by
 intro x hx
 have gp:=z414 i (at_ sg c)
 rcases List.mem_append.mp hx with y | y
 ·split at y
  ·have e:x=_:=List.mem_singleton.mp y
   subst e
   exact⟨by show 0≤min (q + gainOf i (at_ sg c)) n;omega,_,c,rfl,met_le hm,hc⟩
  ·cases y
 ·obtain⟨z,hz,e⟩:=List.mem_filterMap.mp y
  unfold fitP at e
  split at e
  ·rename_i hq
   cases e
   obtain⟨m',o,e1,e2,e3,_⟩:=z287 g hm z hz
   exact⟨by show 0≤q - z.2;omega,m',o,e1,e2,e3⟩
  ·cases e
theorem TabOk.ly {st:List Int}{sg:List Nat}{kvs:List (List Key × V)} (t:TabOk st sg kvs):LyOk st sg kvs:=by
 refine⟨t.nu.nd,fun x hx=>?_⟩
 obtain⟨q,hq,q0⟩:=t.nu.nn x.1 x.2 (val_in t.nu.nd hx)
 obtain⟨m,c,e,hm,c0,c1⟩:=t.ni x.1 (List.mem_map.mpr ⟨x,hx,rfl⟩)
 exact⟨m,c,q,Prod.ext e hq,hm,⟨c0,c1⟩,q0⟩
theorem z280 {f:Nat→Int→Int→List (List Key × Int)}{st:List Int}{sg:List Nat}{lkvs:List (List Key × V)} (l:LyOk st sg lkvs) (h:∀ m c q,m≤st.length→InF sg c→0≤q→Rows st sg (f m c q)):TabOk st sg (spread f lkvs):=by
 unfold spread
 refine z417.fold fun x hx=>?_
 obtain⟨y,hy,hx⟩:=List.mem_flatMap.mp hx
 obtain⟨m,c,q,rfl,hm,hc,q0⟩:=l.ok y hy
 exact h m c q hm hc q0 x hx
theorem LyOk.take {st:List Int}{sg:List Nat}{lkvs:List (List Key × V)} (l:LyOk st sg lkvs) (j:Nat):LyOk st sg (lkvs.take j):=
 ⟨by rw [List.map_take];exact l.nd.sublist (List.take_sublist _ _),fun x hx=>l.ok x (List.mem_of_mem_take hx)⟩
theorem z449 {kvs:List (List Key × V)}{p:List Key × Int}(h:qAt kvs p.1 (-1) < p.2):addP kvs p=putK kvs p.1 (.int p.2):=if_pos h
theorem z577 {kvs:List (List Key × V)}{p:List Key × Int}(h:¬ qAt kvs p.1 (-1) < p.2):addP kvs p=kvs:=if_neg h
theorem z548 {kvs:List (List Key × V)}{k:List Key}{d:Int}(h:Nums kvs):(valV kvs k).getD (.int d)=.int (qAt kvs k d):=by
 unfold qAt
 cases e:valV kvs k with
 | none=>rfl
 | some v=>
  obtain⟨q,rfl,_⟩:=h.nn k v e
  rfl
def z33 (i:Nat) (sg:List Nat):List Int:=(places sg).filter fun c=>stands i (at_ sg c)
def z350 (ad:Ad):Sp:=fun vs H Q _=>∃ (p dx fl mv bk sl:Addr) (n:Int),vs=[.ref p,.ref fl,.ref mv,.ref bk,.int n,.ref sl]∧H p=some (.ins ad.C_Spread dx [])∧
 ∀ kn H',H kn=none→SprAt ad H' p ⟨fl,mv,bk,n,sl,kn⟩→H' kn=some (.dT [])→(∀ b o,H b=some o→b≠p→H' b=some o)→Q .non H'
def z319 (ad:Ad) (K:PySem.W.Frag):Sp:=fun vs H Q _=>∃ (p b:Addr) (S:Spr) (m:Nat) (c0 c:Int) (st:List Int),vs=[.ref p,.ref b,.int c]∧SprAt ad H p S∧H b=some (.tup ((nk m c0).map kV))∧SqL K H S.sl (st.map V.int)∧m≤st.length∧st.length≤100∧
 ∀ r,H r=none→Q (.ref r) (upd H r (.tup ((nk (met st m c) c).map kV)))
def z247 (ad:Ad) (K:PySem.W.Frag):Sp:=fun vs H Q _=>∃ (p b:Addr) (S:Spr) (i:Nat) (n:Int) (w h:Nat) (sg:List Nat) (st:List Int) (m:Nat) (c:Int),vs=[.ref p,.ref b]∧SpOk ad K H p S i n w h sg st∧H b=some (.tup ((nk m c).map kV))∧m≤st.length∧InF sg c∧
 ∀ r H',SameB S.kn H H'→z46 H' S.kn i w sg st→(∀ z,z237 H S.kn z→H z≠none→z237 H' S.kn z∧r≠z)→NodesL H' r (z30 i w sg st m c)→Q (.ref r) H'
def z328 (ad:Ad) (K:PySem.W.Frag):Sp:=fun vs H Q _=>∃ (p b cm:Addr) (S:Spr) (i:Nat) (n:Int) (w h:Nat) (sg:List Nat) (st:List Int) (m:Nat) (c q:Int) (kvs:List (Key × V)),vs=[.ref p,.ref cm,.ref b,.int q]∧SpOk ad K H p S i n w h sg st∧H b=some (.tup ((nk m c).map kV))∧m≤st.length∧InF sg c∧
 H cm=some (.dK kvs)∧(∀ (z:Int) v,valV kvs (.inl z)=some v→v=.non∨∃ i,v=.int i)∧∀ r H',SameB S.kn H H'→z46 H' S.kn i w sg st→H r=none→NodesL H' r (reachOf (clr kvs) i w sg st n m c q)→Q (.ref r) H'
def z424 (ad:Ad) (K:PySem.W.Frag):Sp:=fun vs H Q _=>∃ (p ly d:Addr) (S:Spr) (i:Nat) (n t:Int) (w h:Nat) (sg:List Nat) (st:List Int) (es:List Ent) (lkvs:List (List Key × V)),vs=[.ref p,.int t,.ref ly]∧SpOk ad K H p S i n w h sg st∧BkAt ad.C_Book H S.bk d es∧Apt es∧0≤n∧H ly=some (.dT lkvs)∧LyOk st sg lkvs∧ly≠S.kn∧
 ∀ r H',SameB S.kn H H'→z46 H' S.kn i w sg st→H r=none→H' r=some (.dT (spread (reachOf (opn (besd es S.n) t) i w sg st n) lkvs))→Q (.ref r) H'
def spNext (ad:Ad) (K:PySem.W.Frag):Sp:=fun vs H Q _=>∃ (fl mv bk sl ly d:Addr) (i:Nat) (num n t:Int) (w h:Nat) (sg:List Nat) (st:List Int) (es:List Ent) (lkvs:List (List Key × V)),vs=[.ref fl,.ref mv,.ref bk,.int num,.ref sl,.int t,.ref ly]∧CarAt ad H mv i n∧i≤3∧z60 ad.C_Floor H fl w h sg∧Fl.Good w h sg∧SqL K H sl (st.map V.int)∧st.length≤100∧
 BkAt ad.C_Book H bk d es∧Apt es∧0≤n∧H ly=some (.dT lkvs)∧LyOk st sg lkvs∧∀ r H',Same H H'→H r=none→H' r=some (.dT (spread (reachOf (opn (besd es num) t) i w sg st n) lkvs))→Q (.ref r) H'
def spLMix (K:PySem.W.Frag):Sp:=fun vs H Q _=>∃ (a:Addr) (ns:List Int) (k:Int),vs=[.ref a,.int k]∧SqL K H a (ns.map V.int)∧(∀ i∈ns,Bits i)∧0≤k∧k≤100∧∀ r:Int,0≤r→r < 2147483647→Q (.int r) H
def z460 (K:PySem.W.Frag):Sp:=fun vs H Q _=>∃ (a:Addr) (ns:List Int),vs=[.ref a]∧SqL K H a (ns.map V.int)∧(∀ i∈ns,Bits i)∧∀ l H' w h sg,H l=none→Same H H'→z75 H' l w h sg→Fl.Good w h sg→46∈sg→sg.length≤9→Q (.ref l) H'
def spLBes:Sp:=fun vs H Q _=>∃ (l:Addr) (w h:Nat) (sg:List Nat) (c:Int),vs=[.ref l,.int c]∧z75 H l w h sg∧Fl.Good w h sg∧InF sg c∧Gives H Q (v2 w sg c)
def z413:Sp:=fun vs H Q _=>∃ (x:Str) (i:Nat) (l:Addr) (w h:Nat) (sg:List Nat) (cell other:Int),vs=[.ref l,.str x,.int cell,.int other]∧kindsL[i]?=some x∧z75 H l w h sg∧Fl.Good w h sg∧InF sg cell∧InF sg other∧∀ H',Same H H'→Q (optV (z101 i w sg cell other)) H'
def z567:Sp:=fun vs H Q _=>∃ (x:Str) (i:Nat) (l:Addr) (w h:Nat) (sg:List Nat) (n cell q:Int),vs=[.ref l,.str x,.int n,.int cell,.int q]∧kindsL[i]?=some x∧i < 3∧z75 H l w h sg∧Fl.Good w h sg∧InF sg cell∧∀ H',Same H H'→Q (.int (min n (q + gainOf i (at_ sg cell)))) H'
def spLOpn:Sp:=fun vs H Q _=>∃ (e:Addr) (es:List Ent) (num cell other t:Int),vs=[.ref e,.int num,.int cell,.int other,.int t]∧KpAt H e es∧∀ H',Same H H'→Q (.bl (opn (besd es num) t cell other)) H'
def z545 (ad:Ad) (K:PySem.W.Frag):Sp:=fun vs H Q _=>∃ (a l:Addr) (ns:List Int) (f num:Int) (w h:Nat) (sg:List Nat),vs=[.ref a,.int f,.ref l,.int num]∧SqL K H a (ns.map V.int)∧(∀ i∈ns,Bits i)∧0≤f∧f≤50∧z75 H l w h sg∧Fl.Good w h sg∧
 ∀ r p d e es H',Same H H'→H' r=some (.tup [.ref p,.ref e])→Two ad.C_Book H' p d e es→Q (.ref r) H'
def z357:Sp:=fun vs H Q _=>∃ (x:Str) (i:Nat) (l:Addr) (w h:Nat) (sg:List Nat),vs=[.ref l,.str x]∧kindsL[i]?=some x∧z75 H l w h sg∧Fl.Good w h sg∧Gives H Q (z33 i sg)
theorem q35 {c:Nat}:(chr1 c=V.str (Str.ofString "#"))↔c=35:=chr_eq (by decide +kernel)
theorem z487 {i c:Nat}(h:c=35):stands i c=false:=by
 subst h
 unfold stands common
 simp
theorem z515 {i:Nat}{sg:List Nat}{c:Int}(h:c∈z33 i sg):InF sg c∧stands i (at_ sg c)=true:=by
 obtain⟨h1,h2⟩:=List.mem_filter.mp h
 exact⟨z144.mp h1,h2⟩
theorem z508 {i:Nat}{sg:List Nat}(h:46∈sg):z33 i sg≠[]:=by
 obtain⟨j,hj⟩:=List.mem_iff_getElem?.mp h
 have jl:=(List.getElem?_eq_some_iff.mp hj).1
 intro z
 have hm:((j:Nat):Int)∈z33 i sg:=List.mem_filter.mpr ⟨z144.mpr ⟨by omega,by omega⟩,by
  unfold at_
  rw [Int.toNat_natCast,List.getD_eq_getElem?_getD,hj]
  rfl⟩
 rw [z] at hm
 cases hm
theorem z402 {i:Nat}{sg:List Nat}:(z33 i sg).length≤sg.length:=by
 unfold z33 places
 refine Nat.le_trans (List.length_filter_le _ _) ?_
 rw [List.length_map,List.length_range]
 exact Nat.le_refl _
def nearC:List (Int × Int):=[(-1,0),(0,-1),(0,1),(1,0)]
def nearL (w h:Nat) (sg:List Nat) (c:Int) (d:Int × Int):List Int:=if (0≤c / w + d.1∧c / w + d.1 < h)∧(0≤c % w + d.2∧c % w + d.2 < w)∧at_ sg (c + d.1 * w + d.2)≠35 then [c + d.1 * w + d.2] else []
theorem cell_in {w h:Nat}{r q:Int}(r0:0≤r) (r1:r < h) (q0:0≤q) (q1:q < w):0≤(w:Int) * r + q∧(w:Int) * r + q < ((w * h:Nat):Int):=by
 have a:=Int.mul_nonneg (show (0:Int)≤w by omega) r0
 have b:=Int.mul_le_mul_of_nonneg_left (show r + 1≤(h:Int) by omega) (show (0:Int)≤w by omega)
 rw [Int.mul_add,Int.mul_one] at b
 have e:((w * h:Nat):Int)=(w:Int) * h:=by simp
 omega
theorem z560 {w h:Nat}{c dn ac:Int}(w0:1≤w) (h1:0≤c / w + dn∧c / w + dn < h) (h2:0≤c % w + ac∧c % w + ac < w):0≤c + dn * w + ac∧c + dn * w + ac < ((w * h:Nat):Int):=by
 have z:=cell_in h1.1 h1.2 h2.1 h2.2
 have e:=Int.mul_ediv_add_emod c w
 rw [Int.mul_add,Int.mul_comm (w:Int) dn] at z
 omega
theorem z406 {w h:Nat}{sg:List Nat}{c:Int}:∀ l:List (Int × Int),(l.flatMap (nearL w h sg c)).length≤l.length
 | []=>Nat.zero_le _
 | d::l=>by
  have:=z406 (w:=w) (h:=h) (sg:=sg) (c:=c) l
  have one:(nearL w h sg c d).length≤1:=by unfold nearL;split <;> simp
  rw [List.flatMap_cons,List.length_append,List.length_cons]
  omega
theorem z599 {w h:Nat}{sg:List Nat}{c:Int}(g:Fl.Good w h sg) (hc:InF sg c):nearC.flatMap (nearL w h sg c)=v2 w sg c:=by
 have w0:=g.w0
 have len:=g.len
 have q0:=Int.emod_nonneg c (show (w:Int)≠0 by omega)
 have q1:=Int.emod_lt_of_pos c (show (0:Int) < w by omega)
 have qd:=Int.mul_ediv_add_emod c w
 have d0:0≤c / w:=Int.ediv_nonneg hc.1 (by omega)
 have d1:c / w < h:=Int.ediv_lt_of_lt_mul (by omega) (by have:=hc.2;rw [len,Nat.mul_comm] at this;simpa using this)
 have hit:∀ (dn ac:Int),(0≤c / w + dn∧c / w + dn < h)→(0≤c % w + ac∧c % w + ac < w)→nearL w h sg c (dn,ac)=[c + dn * w + ac].filter (hasI sg):=fun dn ac a b=>by
  obtain⟨i0,i1⟩:=z560 w0 a b
  rw [← len] at i1
  unfold nearL
  rw [List.filter_cons,List.filter_nil]
  unfold hasI
  rw [decide_eq_true i0,decide_eq_true i1]
  by_cases z:at_ sg (c + dn * w + ac)=35
  ·rw [if_neg (fun y=>y.2.2 z),if_neg (by rw [decide_eq_true z];decide)]
  ·rw [if_pos ⟨a,b,z⟩,if_pos (by rw [decide_eq_false z];decide)]
 have miss:∀ (dn ac:Int),¬ ((0≤c / w + dn∧c / w + dn < h)∧(0≤c % w + ac∧c % w + ac < w))→nearL w h sg c (dn,ac)=[]:=fun dn ac a=>if_neg fun y=>a ⟨y.1,y.2.1⟩
 have eh:(w:Int) * h=((sg.length:Nat):Int):=by rw [len];simp
 have up:nearL w h sg c (-1,0)=[c - w].filter (hasI sg):=by
  by_cases z:0≤c / w + -1
  ·rw [hit (-1) 0 ⟨z,by omega⟩ ⟨by omega,by omega⟩,show c + -1 * (w:Int) + 0=c - w by omega]
  ·rw [miss (-1) 0 (fun y=>z y.1.1),List.filter_cons,List.filter_nil,if_neg]
   have e:c / (w:Int)=0:=by omega
   rw [e,Int.mul_zero] at qd
   unfold hasI
   rw [decide_eq_false (show ¬ 0≤c - (w:Int) by omega)]
   simp
 have down:nearL w h sg c (1,0)=[c + w].filter (hasI sg):=by
  by_cases z:c / w + 1 < h
  ·rw [hit 1 0 ⟨by omega,z⟩ ⟨by omega,by omega⟩,show c + 1 * (w:Int) + 0=c + w by omega]
  ·rw [miss 1 0 (fun y=>z y.1.2),List.filter_cons,List.filter_nil,if_neg]
   have e:(h:Int)=c / w + 1:=by omega
   rw [e,Int.mul_add,Int.mul_one] at eh
   unfold hasI
   rw [decide_eq_false (show ¬ c + (w:Int) < (sg.length:Nat) by omega)]
   simp
 have left:nearL w h sg c (0,-1)=(if c % w > 0 then [c - 1] else []).filter (hasI sg):=by
  by_cases z:c % w > 0
  ·rw [if_pos z,hit 0 (-1) ⟨by omega,by omega⟩ ⟨by omega,by omega⟩,show c + 0 * (w:Int) + -1=c - 1 by omega]
  ·rw [if_neg z,miss 0 (-1) (fun y=>z (by omega)),List.filter_nil]
 have right:nearL w h sg c (0,1)=(if c % w < (w:Int) - 1 then [c + 1] else []).filter (hasI sg):=by
  by_cases z:c % w < (w:Int) - 1
  ·rw [if_pos z,hit 0 1 ⟨by omega,by omega⟩ ⟨by omega,by omega⟩,show c + 0 * (w:Int) + 1=c + 1 by omega]
  ·rw [if_neg z,miss 0 1 (fun y=>z (by omega)),List.filter_nil]
 unfold v2 nearOf nearC
 rw [List.filter_append,List.filter_append,List.filter_append,← up,← left,← right,← down]
 simp [List.flatMap_cons]
abbrev S3:=Nat × Int × Int
def sk (s:S3):List Key:=[.inl (s.1:Int),.inl s.2.1,.inl s.2.2]
theorem sk_inj {s u:S3}(h:sk s=sk u):s=u:=by
 unfold sk at h
 injection h with h1 h2
 injection h2 with h2 h3
 injection h3 with h3 _
 injection h1 with h1
 injection h2 with h2
 injection h3 with h3
 exact Prod.ext (by omega) (Prod.ext h2 h3)
def sp3 (s:S3):List Key × Int:=(nk s.1 s.2.1,s.2.2)
def StAt (H:Hp) (t:Addr) (s:S3):Prop:=H t=some (.tup ((sk s).map kV))
def StL (H:Hp) (r:Addr) (ss:List S3):Prop:=∃ ts:List Addr,H r=some (.lst (ts.map V.ref))∧Paired (StAt H) ts ss
theorem StL.same {H H':Hp}{r:Addr}{ss:List S3}(s:Same H H') (h:StL H r ss):StL H' r ss:=let ⟨ts,a,b⟩:=h;⟨ts,s _ _ a,Paired.mapP b fun _ _ z=>s _ _ z⟩
def StOk (i:Nat) (st:List Int) (sg:List Nat) (n:Int) (ss:List S3):Prop:=∀ s∈ss,s.1≤st.length∧InF sg s.2.1∧stands i (at_ sg s.2.1)=true∧0≤s.2.2∧s.2.2≤n
def go3 (op:Int→Int→Bool) (i w:Nat) (sg:List Nat) (st:List Int) (n:Int) (s:S3) (o:Int):Option S3:=if 0≤leftOf i w sg n s.2.1 o s.2.2∧op s.2.1 o=true then some (met st s.1 o,o,leftOf i w sg n s.2.1 o s.2.2) else none
def rows3 (op:Int→Int→Bool) (i w:Nat) (sg:List Nat) (st:List Int) (n:Int) (s:S3):List S3:=([s.2.1]++v2 w sg s.2.1).filterMap (go3 op i w sg st n s)
theorem go3_go {op:Int→Int→Bool}{i w:Nat}{sg:List Nat}{st:List Int}{n:Int}{s u:S3}{o:Int}(h:go3 op i w sg st n s o=some u):goOf op i w sg st n s.1 s.2.1 s.2.2 o=some (sp3 u):=by
 unfold go3 at h
 split at h
 ·rename_i z
  cases h
  exact if_pos ⟨z.2,z.1⟩
 ·cases h
theorem go_go3 {op:Int→Int→Bool}{i w:Nat}{sg:List Nat}{st:List Int}{n:Int}{s:S3}{o:Int}{x:List Key × Int}(h:goOf op i w sg st n s.1 s.2.1 s.2.2 o=some x):∃ u,go3 op i w sg st n s o=some u∧sp3 u=x:=by
 unfold goOf at h
 split at h
 ·rename_i z
  cases h
  exact⟨_,if_pos ⟨z.2,z.1⟩,rfl⟩
 ·cases h
theorem z503 {i w:Nat}{sg:List Nat}{n c o q r:Int}(h:q≤r) (h0:0≤leftOf i w sg n c o q):leftOf i w sg n c o q≤leftOf i w sg n c o r:=by
 unfold leftOf at h0 ⊢
 by_cases z:o=c
 ·rw [if_pos z,if_pos z];omega
 ·rw [if_neg z] at h0
  rw [if_neg z,if_neg z]
  cases e:z101 i w sg c o with
  | none=>rw [e] at h0;exact absurd (show (0:Int)≤-1 from h0) (by decide)
  | some k=>show q - k≤r - k;omega
theorem z614 {i w:Nat}{sg:List Nat}{n c o q:Int}(n0:0≤n) (h:q≤n):leftOf i w sg n c o q≤n:=by
 unfold leftOf
 split
 ·omega
 ·cases e:z101 i w sg c o with
  | none=>show (-1:Int)≤n;omega
  | some k=>
   have:0≤k:=by
    unfold z101 fareOf at e
    split at e
    ·split at e
     ·cases e;split <;> decide
     ·split at e
      ·cases e;decide
      ·split at e
       ·cases e;decide
       ·cases e
     ·cases e;decide
    ·cases e
   show q - k≤n
   omega
theorem go3_ok {op:Int→Int→Bool}{i w h:Nat}{sg:List Nat}{st:List Int}{n:Int}{ss:List S3}{s u:S3}{o:Int}(g:Fl.Good w h sg) (n0:0≤n) (ok:StOk i st sg n ss) (hs:s∈ss) (ho:o∈[s.2.1]++v2 w sg s.2.1) (h:go3 op i w sg st n s o=some u):u.1≤st.length∧InF sg u.2.1∧stands i (at_ sg u.2.1)=true∧0≤u.2.2∧u.2.2≤n:=by
 obtain⟨a1,a2,a3,a4,a5⟩:=ok s hs
 unfold go3 at h
 split at h
 ·rename_i z
  cases h
  refine⟨met_le a1,?_,?_,z.1,z614 n0 a5⟩
  ·rcases List.mem_append.mp ho with y | y
   ·rw [List.mem_singleton.mp y];exact a2
   ·exact z121 g y
  ·rcases List.mem_append.mp ho with y | y
   ·rw [List.mem_singleton.mp y];exact a3
   ·have ne:=z336 g.w0 y
    have z1:=z.1
    unfold leftOf at z1
    rw [if_neg ne] at z1
    cases e:z101 i w sg s.2.1 o with
    | none=>rw [e] at z1;exact absurd (show (0:Int)≤-1 from z1) (by decide)
    | some k=>
     unfold z101 at e
     split at e
     ·assumption
     ·cases e
 ·cases h
def all3 (s n:Nat) (m:Nat):List (List Key):=(List.range (s + 1)).flatMap fun a=>(List.range n).flatMap fun c=>(List.range (m + 1)).map fun q=>sk (a,(c:Nat),(q:Nat))
theorem st_len {i:Nat}{st:List Int}{sg:List Nat}{n:Int}{ss:List S3}{kvs:List (List Key × V)} (nd:(kvs.map (·.1)).Nodup) (ok:StOk i st sg n ss) (h:∀ k∈kvs.map (·.1),∃ s∈ss,k=sk s) (h1:st.length≤3) (h2:sg.length≤9) (h3:n≤8):kvs.length≤324:=by
 have:=len_in (m:=all3 3 9 8) nd fun k hk=>by
  obtain⟨s,hs,rfl⟩:=h k hk
  obtain⟨a1,a2,a3,a4,a5⟩:=ok s hs
  obtain⟨m,c,q⟩:=s
  simp only at a1 a2 a4 a5
  obtain⟨c',rfl⟩:=Int.eq_ofNat_of_zero_le a2.1
  obtain⟨q',rfl⟩:=Int.eq_ofNat_of_zero_le a4
  have:=a2.2
  exact List.mem_flatMap.mpr ⟨m,List.mem_range.mpr (by omega),List.mem_flatMap.mpr ⟨c',List.mem_range.mpr (by omega),List.mem_map.mpr ⟨q',List.mem_range.mpr (by omega),rfl⟩⟩⟩
 rw [List.length_map] at this
 have e:(all3 3 9 8).length=324:=by decide +kernel
 omega
structure Fnd (rs:List S3) (kvs:List (List Key × V)):Prop where
 nd:(kvs.map (·.1)).Nodup
 is:∀ k∈kvs.map (·.1),∃ s∈rs,k=sk s
 has:∀ s∈rs,sk s∈kvs.map (·.1)
theorem z563 {kvs:List (List Key × V)}{k j:List Key}{v:V}(h:j=k∨j∈kvs.map (·.1)):j∈(putK kvs k v).map (·.1):=by
 cases q:valV kvs k with
 | none=>
  rw [putK_new v q,List.map_append]
  rcases h with rfl | y
  ·exact List.mem_append_right _ (List.mem_singleton.mpr rfl)
  ·exact List.mem_append_left _ y
 | some x=>
  rw [z265 (by rw [q];rfl)]
  rcases h with rfl | y
  ·exact valV_in q
  ·exact y
theorem Fnd.put {rs:List S3}{kvs:List (List Key × V)}{s:S3}{v:V}(f:Fnd rs kvs):Fnd (rs++[s]) (putK kvs (sk s) v):=by
 refine⟨nd_put f.nd,fun k hk=>?_,fun u hu=>?_⟩
 ·rcases z444 hk with rfl | y
  ·exact⟨s,by simp,rfl⟩
  ·obtain⟨u,h1,h2⟩:=f.is k y
   exact⟨u,by simp [h1],h2⟩
 ·rcases List.mem_append.mp hu with y | y
  ·exact z563 (.inr (f.has u y))
  ·exact z563 (.inl (by rw [List.mem_singleton.mp y]))
theorem Fnd.dec {rs:List S3}{kvs:List (List Key × V)} (f:Fnd rs kvs):∃ su:List S3,su.map sk=kvs.map (·.1):=by
 have key:∀ l:List (List Key),(∀ k∈l,∃ s∈rs,k=sk s)→∃ su:List S3,su.map sk=l:=by
  intro l
  induction l with
  | nil=>exact fun _=>⟨[],rfl⟩
  | cons k l ih=>
   intro h
   obtain⟨s,_,e⟩:=h k (by simp)
   obtain⟨su,e2⟩:=ih fun x hx=>h x (by simp [hx])
   exact⟨s::su,by rw [List.map_cons,e2,e]⟩
 exact key _ f.is
theorem z556 {H H':Hp}(s:Same H H'):∀ {bs:List Addr}{kvs:List (List Key × V)}{su:List S3},Paired (fun b (kv:List Key × V)=>H b=some (.tup (kv.1.map kV))) bs kvs→su.map sk=kvs.map (·.1)→Paired (StAt H') bs su
 | _,_,[],.nil,_=>.nil
 | _,_,u::su,.cons h r,e=>by
  obtain⟨e1,e2⟩:=List.cons.inj (show sk u::su.map sk=_ from e)
  refine .cons ?_ (z556 s r e2)
  show H' _=some (.tup ((sk u).map kV))
  rw [e1]
  exact s _ _ h
theorem z647:Fnd [] []:=⟨List.nodup_nil,fun k hk=>(by cases hk),fun s hs=>(by cases hs)⟩
theorem z602 {ps qs:List (List Key × Int)}{kvs:List (List Key × V)} (h:MaxOf qs kvs) (d:Dom qs ps) (d':Dom ps qs):MaxOf ps kvs:=by
 refine⟨h.nd,fun k v hv=>?_,fun k hv q hq=>?_⟩
 ·obtain⟨q,rfl,t1,t2⟩:=h.to k v hv
  obtain⟨r,r1,r2⟩:=d k q t1
  obtain⟨x,x1,x2⟩:=d' k r r1
  have:=t2 x x1
  obtain rfl:r=q:=by omega
  exact⟨r,rfl,r1,fun y hy=>by obtain⟨z,z1,z2⟩:=d' k y hy;have:=t2 z z1;omega⟩
 ·obtain⟨r,r1,_⟩:=d' k q hq
  exact h.no k hv r r1
theorem z608 {op:Int→Int→Bool}{i w h:Nat}{sg:List Nat}{st:List Int}{n:Int}{ss su:List S3}{lkvs:List (List Key × V)} (g:Fl.Good w h sg) (n0:0≤n) (ok:StOk i st sg n ss) (lo:LyOk st sg lkvs) (mx:MaxOf (ss.map sp3) lkvs)
  (hu:∀ u,u∈su↔u∈ss.flatMap (rows3 op i w sg st n)):MaxOf (su.map sp3) (spread (reachOf op i w sg st n) lkvs):=by
 have of:∀ m c q,(nk m c,V.int q)∈lkvs→(m,c,q)∈ss:=fun m c q hm=>by
  obtain⟨r,e,t1,_⟩:=mx.to _ _ (val_in lo.nd hm)
  cases e
  obtain⟨s,hs,e⟩:=List.mem_map.mp t1
  obtain⟨e1,e2⟩:=Prod.ext_iff.mp e
  obtain⟨e3,e4⟩:=nk_inj e1
  have:s=(m,c,q):=Prod.ext e3 (Prod.ext e4 e2)
  rw [← this]
  exact hs
 have pos:∀ x∈lkvs.flatMap (overV (reachOf op i w sg st n)),0≤x.2:=fun x hx=>by
  obtain⟨y,hy,hx⟩:=List.mem_flatMap.mp hx
  obtain⟨m,c,q,rfl,hm,hc,q0⟩:=lo.ok y hy
  exact(z155 g hm hc n0 q0 x hx).1
 refine z602 (z409 pos) (fun k r hk=>?_) fun k r hk=>?_
 ·obtain⟨y,hy,hx⟩:=List.mem_flatMap.mp hk
  obtain⟨m,c,q,rfl,hm,hc,q0⟩:=lo.ok y hy
  have hs:=of m c q hy
  have hx:(k,r)∈reachOf op i w sg st n m c q:=hx
  rw [z432 g (ok _ hs).2.2.1 n0 q0] at hx
  obtain⟨o,ho,e⟩:=List.mem_filterMap.mp hx
  obtain⟨u,e1,e2⟩:=go_go3 (s:=(m,c,q)) e
  exact⟨r,List.mem_map.mpr ⟨u,(hu u).mpr (List.mem_flatMap.mpr ⟨_,hs,List.mem_filterMap.mpr ⟨o,ho,e1⟩⟩),e2⟩,Int.le_refl _⟩
 ·obtain⟨u,hu',e⟩:=List.mem_map.mp hk
  obtain⟨s,hs,hr⟩:=List.mem_flatMap.mp ((hu u).mp hu')
  obtain⟨o,ho,e1⟩:=List.mem_filterMap.mp hr
  obtain⟨m,c,q⟩:=s
  have e2:=go3_go e1
  cases ev:valV lkvs (nk m c) with
  | none=>exact absurd (List.mem_map.mpr ⟨_,hs,rfl⟩) (mx.no _ ev q)
  | some v=>
   obtain⟨q',rfl,t1,t2⟩:=mx.to _ _ ev
   have hq:q≤q':=t2 q (List.mem_map.mpr ⟨_,hs,rfl⟩)
   obtain⟨x,hx,hx2⟩:∃ x∈lkvs,x=(nk m c,V.int q'):=by
    obtain⟨j,hj⟩:=z399 ev
    exact⟨_,List.mem_of_getElem? hj,rfl⟩
   subst hx2
   have hs':=of m c q' hx
   unfold goOf at e2
   split at e2
   ·rename_i z
    have lm:=z503 (i:=i) (w:=w) (sg:=sg) (n:=n) (c:=c) (o:=o) hq z.2
    have e3:goOf op i w sg st n m c q' o=some (nk (met st m o) o,leftOf i w sg n c o q'):=if_pos ⟨z.1,Int.le_trans z.2 lm⟩
    have e4:=Option.some.inj e2
    rw [e] at e4
    cases e4
    refine⟨_,List.mem_flatMap.mpr ⟨_,hx,?_⟩,lm⟩
    show _∈reachOf op i w sg st n m c q'
    rw [z432 g (ok _ hs').2.2.1 n0 (ok _ hs').2.2.2.1]
    exact List.mem_filterMap.mpr ⟨o,ho,e3⟩
   ·cases e2
theorem z605 {op:Int→Int→Bool}{i w h:Nat}{sg:List Nat}{st:List Int}{n:Int}{ss su:List S3}(g:Fl.Good w h sg) (n0:0≤n) (ok:StOk i st sg n ss) (hu:∀ u,u∈su↔u∈ss.flatMap (rows3 op i w sg st n)):StOk i st sg n su:=fun u hu'=>by
 obtain⟨s,hs,hr⟩:=List.mem_flatMap.mp ((hu u).mp hu')
 obtain⟨o,ho,e⟩:=List.mem_filterMap.mp hr
 exact go3_ok g n0 ok hs ho e
theorem max_st {i:Nat}{st:List Int}{sg:List Nat}{n:Int}{ss:List S3}(ok:StOk i st sg n ss):MaxOf (ss.map sp3) ((ss.map sp3).foldl addP []):=z409 fun x hx=>by
 obtain⟨s,hs,rfl⟩:=List.mem_map.mp hx
 exact(ok s hs).2.2.2.1
theorem z555 {i:Nat}{st:List Int}{sg:List Nat}{n:Int}{ss:List S3}(ok:StOk i st sg n ss):Rows st sg (ss.map sp3):=fun x hx=>by
 obtain⟨s,hs,rfl⟩:=List.mem_map.mp hx
 obtain⟨a1,a2,a3,a4,a5⟩:=ok s hs
 exact⟨a4,s.1,s.2.1,rfl,a1,a2⟩
def spAll (K:PySem.W.Frag):Sp:=fun vs H Q _=>∃ (x:Str) (i:Nat) (l e sl so:Addr) (n num t:Int) (w h:Nat) (sg:List Nat) (st:List Int) (es:List Ent) (ss:List S3),vs=[.ref l,.str x,.int n,.ref e,.int num,.ref sl,.int t,.ref so]∧kindsL[i]?=some x∧i < 3∧z75 H l w h sg∧Fl.Good w h sg∧KpAt H e es∧SqL K H sl (st.map V.int)∧st.length≤3∧sg.length≤9∧0≤n∧n≤8∧StL H so ss∧StOk i st sg n ss∧
 ∀ r su H',Same H H'→StL H' r su→(∀ u,u∈su↔u∈ss.flatMap (rows3 (opn (besd es num) t) i w sg st n))→Q (.ref r) H'
def z566:Sp:=fun vs H Q _=>∃ (so:Addr) (i:Nat) (st:List Int) (sg:List Nat) (n:Int) (ss:List S3),vs=[.ref so]∧StL H so ss∧StOk i st sg n ss∧st.length≤3∧sg.length≤9∧∀ r H',Same H H'→H r=none→H' r=some (.dT ((ss.map sp3).foldl addP []))→Q (.ref r) H'
seal PA PE PS PSs PI PG
section
variable {P:Program}{w:World}{K:PySem.W.Frag}{mg:Str→Option Value}{base:Heap}{ad:Ad}
theorem z557:Db "Meets":=by decide +kernel
theorem z381:Db "NoCarrier":=by decide +kernel
theorem z634:Db "SIGNS":=by decide +kernel
theorem d_WALL:Db "WALL":=by decide +kernel
theorem z321:Db "_law_mixed":=by decide +kernel
theorem z376:Db "_law_sign":=by decide +kernel
theorem d_len:Db "len":=by decide +kernel
theorem n_len:Nn "len":=by decide +kernel
theorem z412:LV s_q32 "self":=by decide +kernel
theorem z366:LV s_q32 "other":=by decide +kernel
theorem z232:LV s_q45 "thing":=by decide +kernel
theorem z248:LV s_q46 "thing":=by decide +kernel
theorem z379:LV s_q46 "least":=by decide +kernel
theorem z434:LV s_q46 "most":=by decide +kernel
theorem z214:LV s_q37 "line":=by decide +kernel
theorem z463:LV s_q37 "wide":=by decide +kernel
theorem z36:LV s_q26 "lines":=by decide +kernel
theorem z270:LV s_q26 "line":=by decide +kernel
theorem z154:LV s_q33 "self":=by decide +kernel
theorem z83:LV s_q33 "lines":=by decide +kernel
theorem z286:LV s_q38 "self":=by decide +kernel
theorem z284:LV s_q38 "cell":=by decide +kernel
theorem z472:LV s_q34 "self":=by decide +kernel
theorem z403:LV s_q34 "cell":=by decide +kernel
theorem z422:LV s_q12 "self":=by decide +kernel
theorem z405:LV s_q12 "cell":=by decide +kernel
theorem z401:LV s_q39 "self":=by decide +kernel
theorem z457:LV s_q39 "cell":=by decide +kernel
theorem z114:LV s_q13 "self":=by decide +kernel
theorem z92:LV s_q13 "cell":=by decide +kernel
theorem z110:LV s_q13 "near":=by decide +kernel
theorem z415:LV s_q14 "self":=by decide +kernel
theorem z446:LV s_q14 "full":=by decide +kernel
theorem z502:LV s_q2 "sign":=by decide +kernel
theorem z423:LV s_q16 "sign":=by decide +kernel
theorem z393:LV s_q18 "self":=by decide +kernel
theorem z234:LV s_q18 "floor":=by decide +kernel
theorem z283:LV s_q18 "cell":=by decide +kernel
theorem z238:LV s_q18 "other":=by decide +kernel
theorem z373:LV s_q10 "floor":=by decide +kernel
theorem z459:LV s_q10 "cell":=by decide +kernel
theorem z382:LV s_q10 "pairs":=by decide +kernel
theorem z377:Lo s_q10 "pairs":=by decide +kernel
theorem z358:LV s_q7 "self":=by decide +kernel
theorem z479:LV s_q7 "sign":=by decide +kernel
theorem z387:LV s_q7 "charge":=by decide +kernel
theorem z255:LV s_q0 "self":=by decide +kernel
theorem z185:LV s_q0 "floor":=by decide +kernel
theorem z326:LV s_q0 "cell":=by decide +kernel
theorem z274:LV s_q0 "other":=by decide +kernel
theorem z351:LV s_q3 "sign":=by decide +kernel
theorem z448:LV s_q20 "sign":=by decide +kernel
theorem z370:LV s_q21 "floor":=by decide +kernel
theorem z384:LV s_q21 "other":=by decide +kernel
theorem z389:LV s_q28 "sign":=by decide +kernel
theorem z119:LV s_q29 "floor":=by decide +kernel
theorem z296:LV s_q29 "cell":=by decide +kernel
theorem z242:LV s_q29 "other":=by decide +kernel
theorem z150:LV s_q35 "kind":=by decide +kernel
theorem z145:LV s_q35 "full":=by decide +kernel
theorem z356:LV s_q41 "way":=by decide +kernel
theorem z338:LV s_q47 "way":=by decide +kernel
theorem z436:LV s_q47 "time":=by decide +kernel
theorem z254:LV s_q48 "way":=by decide +kernel
theorem z276:LV s_q48 "time":=by decide +kernel
theorem z346:LV s_q22 "one":=by decide +kernel
theorem z239:LV s_q22 "other":=by decide +kernel
theorem z153:LV s_q22 "time":=by decide +kernel
theorem z159:LV s_q22 "place":=by decide +kernel
theorem z252:LV s_q22 "far":=by decide +kernel
theorem z257:LV s_q11 "one":=by decide +kernel
theorem z158:LV s_q11 "other":=by decide +kernel
theorem z228:LV s_q11 "begin":=by decide +kernel
theorem z342:LV s_q11 "end":=by decide +kernel
theorem z187:LV s_q11 "time":=by decide +kernel
theorem z192:LV s_q11 "word":=by decide +kernel
theorem z453:LV s_q42 "self":=by decide +kernel
theorem z211:LV s_q49 "self":=by decide +kernel
theorem z207:LV s_q49 "number":=by decide +kernel
theorem z337:LV s_q49 "way":=by decide +kernel
theorem z125:LV s_q49 "other":=by decide +kernel
theorem z458:LV s_q23 "self":=by decide +kernel
theorem z428:LV s_q24 "self":=by decide +kernel
theorem z320:LV s_q24 "number":=by decide +kernel
theorem z297:LV s_q24 "time":=by decide +kernel
theorem z141:LV s_q24 "places":=by decide +kernel
theorem z269:LV s_q24 "way":=by decide +kernel
theorem z167:LV s_q24 "later":=by decide +kernel
theorem z530:LV s_q6 "self":=by decide +kernel
theorem z485:LV s_q4 "self":=by decide +kernel
theorem z233:LV s_q4 "number":=by decide +kernel
theorem z171:LV s_q50 "comings":=by decide +kernel
theorem z421:LV s_q50 "cell":=by decide +kernel
theorem z235:LV s_q50 "other":=by decide +kernel
theorem z245:LV s_q43 "stops":=by decide +kernel
theorem z433:LV s_q43 "many":=by decide +kernel
theorem z396:LV s_q43 "cell":=by decide +kernel
theorem z151:LV s_q43 "met":=by decide +kernel
theorem z369:LV s_q30 "stops":=by decide +kernel
theorem z244:LV s_q30 "start":=by decide +kernel
theorem z312:LV s_q30 "charge":=by decide +kernel
theorem z365:LV s_q36 "floor":=by decide +kernel
theorem z295:LV s_q36 "carrier":=by decide +kernel
theorem z445:LV s_q36 "book":=by decide +kernel
theorem z311:LV s_q36 "number":=by decide +kernel
theorem z374:LV s_q36 "stops":=by decide +kernel
theorem z410:LV s_q36 "time":=by decide +kernel
theorem z380:LV s_q36 "layer":=by decide +kernel
theorem z86:LV s_q31 "self":=by decide +kernel
theorem z378:LV s_q31 "floor":=by decide +kernel
theorem z302:LV s_q31 "carrier":=by decide +kernel
theorem z450:LV s_q31 "book":=by decide +kernel
theorem z313:LV s_q31 "number":=by decide +kernel
theorem z386:LV s_q31 "stops":=by decide +kernel
theorem z251:LV s_q1 "self":=by decide +kernel
theorem z528:LV s_q1 "time":=by decide +kernel
theorem z290:LV s_q1 "layer":=by decide +kernel
theorem z190:LV s_q1 "comings":=by decide +kernel
theorem z129:LV s_q1 "behind":=by decide +kernel
theorem z268:LV s_q1 "node":=by decide +kernel
theorem z201:LV s_q1 "other":=by decide +kernel
theorem z164:LV s_q1 "charge":=by decide +kernel
theorem z182:LV s_q8 "self":=by decide +kernel
theorem z189:LV s_q8 "comings":=by decide +kernel
theorem z259:LV s_q8 "node":=by decide +kernel
theorem z161:LV s_q8 "charge":=by decide +kernel
theorem z122:LV s_q8 "cell":=by decide +kernel
theorem z152:LV s_q8 "pairs":=by decide +kernel
theorem z194:LV s_q8 "other":=by decide +kernel
theorem z260:LV s_q8 "cost":=by decide +kernel
theorem z149:LV s_q5 "self":=by decide +kernel
theorem z180:LV s_q5 "node":=by decide +kernel
theorem z291:LV s_q5 "steps":=by decide +kernel
theorem z500:LV s_q9 "self":=by decide +kernel
theorem z476:LV s_q9 "node":=by decide +kernel
theorem z332:LV s_q9 "cell":=by decide +kernel
theorem z98:LV s_q51 "_law_script":=by decide +kernel
theorem z196:LV s_q51 "_law_k":=by decide +kernel
theorem z174:LV s_q55 "_law_script":=by decide +kernel
theorem z140:LV s_q55 "_law_k":=by decide +kernel
theorem z49:LV s_q55 "_law_number":=by decide +kernel
theorem z103:LV s_q56 "_law_script":=by decide +kernel
theorem z12:LV s_q56 "_law_number":=by decide +kernel
theorem z40:LV s_q56 "_law_wide":=by decide +kernel
theorem z22:LV s_q56 "_law_high":=by decide +kernel
theorem z68:LV s_q56 "_law_signs":=by decide +kernel
theorem z184:LV s_q56 "_law_k":=by decide +kernel
theorem z136:LV s_q56 "_law_draw":=by decide +kernel
theorem z39:LV z210 "_law_lines":=by decide +kernel
theorem z104:LV z210 "_law_cell":=by decide +kernel
theorem z67:LV s_q52 "_law_lines":=by decide +kernel
theorem z137:LV s_q52 "_law_cell":=by decide +kernel
theorem z44:LV s_q52 "_law_wide":=by decide +kernel
theorem z143:LV s_q52 "_law_row":=by decide +kernel
theorem z96:LV s_q52 "_law_column":=by decide +kernel
theorem z61:LV s_q52 "_law_found":=by decide +kernel
theorem z79:LV s_q52 "_law_down":=by decide +kernel
theorem z47:LV s_q52 "_law_across":=by decide +kernel
theorem z66:LV s_q52 "_law_other":=by decide +kernel
theorem z220:LV s_q53 "_law_kind":=by decide +kernel
theorem z69:LV s_q53 "_law_sign_here":=by decide +kernel
theorem z4:LV z118 "_law_lines":=by decide +kernel
theorem z53:LV z118 "_law_kind":=by decide +kernel
theorem z97:LV z118 "_law_cell":=by decide +kernel
theorem z19:LV z118 "_law_other":=by decide +kernel
theorem z208:LV s_q54 "_law_lines":=by decide +kernel
theorem z224:LV s_q54 "_law_kind":=by decide +kernel
theorem z217:LV s_q54 "_law_full":=by decide +kernel
theorem z221:LV s_q54 "_law_cell":=by decide +kernel
theorem z50:LV s_q54 "_law_charge":=by decide +kernel
theorem z135:LV s_q54 "_law_gain":=by decide +kernel
theorem z258:LV s_q57 "_law_way":=by decide +kernel
theorem z133:LV s_q57 "_law_time":=by decide +kernel
theorem z71:LV s_q57 "_law_begin":=by decide +kernel
theorem z70:LV s_q57 "_law_cells":=by decide +kernel
theorem z18:LV z93 "_law_ways_here":=by decide +kernel
theorem z148:LV z93 "_law_number":=by decide +kernel
theorem z177:LV z93 "_law_cell":=by decide +kernel
theorem z85:LV z93 "_law_other":=by decide +kernel
theorem z100:LV z93 "_law_time":=by decide +kernel
theorem z29:LV z93 "_law_one":=by decide +kernel
theorem z90:LV z93 "_law_ahead":=by decide +kernel
theorem z28:LV z93 "_law_behind":=by decide +kernel
theorem z73:LV z9 "_law_script":=by decide +kernel
theorem z88:LV z9 "_law_first":=by decide +kernel
theorem z37:LV z9 "_law_lines":=by decide +kernel
theorem z91:LV z9 "_law_cells":=by decide +kernel
theorem z162:Lo z9 "_law_cells":=by decide +kernel
theorem z55:LV z9 "_law_book":=by decide +kernel
theorem z16:LV z9 "_law_ways_here":=by decide +kernel
theorem z95:LV z9 "_law_k":=by decide +kernel
theorem z7:LV z9 "_law_draw":=by decide +kernel
theorem z11:LV z9 "_law_walk":=by decide +kernel
theorem z102:LV z9 "_law_step":=by decide +kernel
theorem z54:LV z9 "_law_some":=by decide +kernel
theorem z62:LV z9 "_law_one":=by decide +kernel
theorem z64:LV z9 "_law_way":=by decide +kernel
theorem z25:LV s_q25 "_law_lines":=by decide +kernel
theorem z222:LV s_q25 "_law_kind":=by decide +kernel
theorem z65:LV s_q25 "_law_found":=by decide +kernel
theorem z45:LV s_q25 "_law_cell":=by decide +kernel
theorem z178:LV s_Lmet "_law_stops":=by decide +kernel
theorem z35:LV s_Lmet "_law_many":=by decide +kernel
theorem z203:LV s_Lmet "_law_cell":=by decide +kernel
theorem z116:LV s_Lmet "_law_stop":=by decide +kernel
theorem z51:LV s_Lall "_law_lines":=by decide +kernel
theorem z111:LV s_Lall "_law_kind":=by decide +kernel
theorem z200:LV s_Lall "_law_full":=by decide +kernel
theorem z130:LV s_Lall "_law_ways_here":=by decide +kernel
theorem z168:LV s_Lall "_law_number":=by decide +kernel
theorem z176:LV s_Lall "_law_stops":=by decide +kernel
theorem z198:LV s_Lall "_law_time":=by decide +kernel
theorem z163:LV s_Lall "_law_states":=by decide +kernel
theorem z56:LV s_Lall "_law_found":=by decide +kernel
theorem z109:LV s_Lall "_law_many":=by decide +kernel
theorem z5:LV s_Lall "_law_cell":=by decide +kernel
theorem z38:LV s_Lall "_law_charge":=by decide +kernel
theorem z6:LV s_Lall "_law_other":=by decide +kernel
theorem z34:LV s_Lall "_law_left":=by decide +kernel
theorem z20:LV s_Lall "_law_cost_here":=by decide +kernel
theorem z172:LV s_q44 "_law_states":=by decide +kernel
theorem z32:LV s_q44 "_law_found":=by decide +kernel
theorem z80:LV s_q44 "_law_many":=by decide +kernel
theorem z81:LV s_q44 "_law_cell":=by decide +kernel
theorem z99:LV s_q44 "_law_charge":=by decide +kernel
theorem y3:LV s_law "_law_script":=by decide +kernel
theorem z13:LV s_law "_law_lines":=by decide +kernel
theorem z21:LV s_law "_law_draw":=by decide +kernel
theorem z43:LV s_law "_law_kind":=by decide +kernel
theorem z42:LV s_law "_law_full":=by decide +kernel
theorem z24:LV s_law "_law_number":=by decide +kernel
theorem z131:LV s_law "_law_book":=by decide +kernel
theorem z72:LV s_law "_law_ways_here":=by decide +kernel
theorem z17:LV s_law "_law_stands_here":=by decide +kernel
theorem z27:LV s_law "_law_stops":=by decide +kernel
theorem z195:Lo s_law "_law_stops":=by decide +kernel
theorem z63:LV s_law "_law_begin":=by decide +kernel
theorem z31:LV s_law "_law_start":=by decide +kernel
theorem z48:LV s_law "_law_charge":=by decide +kernel
theorem z57:LV s_law "_law_floor_here":=by decide +kernel
theorem z89:LV s_law "_law_carrier":=by decide +kernel
theorem z10:LV s_law "_law_states":=by decide +kernel
theorem z14:LV s_law "_law_layer":=by decide +kernel
theorem z78:LV s_law "_law_tick":=by decide +kernel
theorem z264:Gi s_q4 "NoCarrier":=by decide +kernel
theorem z588:GV s_q4 "is_whole":=by decide +kernel
theorem z355:GV s_q24 "place_at":=by decide +kernel
theorem z323:GV s_q23 "sorted":=by decide +kernel
theorem z383:Gi s_q49 "Meets":=by decide +kernel
theorem z525:GV s_q49 "first_meeting":=by decide +kernel
theorem z300:GV s_q16 "CHARGER":=by decide +kernel
theorem z173:GV s_q2 "COMMON_SIGNS":=by decide +kernel
theorem z610:GV s_q7 "min":=by decide +kernel
theorem z371:GV s_q21 "ROUGH":=by decide +kernel
theorem z303:GV s_q20 "CHARGER":=by decide +kernel
theorem z179:GV s_q3 "COMMON_SIGNS":=by decide +kernel
theorem z467:GV s_q3 "ROUGH":=by decide +kernel
theorem z493:GV s_q33 "check_floor":=by decide +kernel
theorem z353:GV s_q33 "len":=by decide +kernel
theorem z420:GV s_q33 "list":=by decide +kernel
theorem z427:GV s_q38 "WALL":=by decide +kernel
theorem z489:GV s_q38 "is_among":=by decide +kernel
theorem z484:GV s_q38 "len":=by decide +kernel
theorem z447:GV s_q29 "LANE":=by decide +kernel
theorem z299:GV s_q28 "CHARGER":=by decide +kernel
theorem z590:GV s_q9 "stops_met":=by decide +kernel
theorem z397:GV s_q8 "is_clear":=by decide +kernel
theorem z165:GV s_Lall "_law_beside":=by decide +kernel
theorem z191:GV s_Lall "_law_cost":=by decide +kernel
theorem z223:GV s_Lall "_law_met":=by decide +kernel
theorem z193:GV s_Lall "_law_open":=by decide +kernel
theorem z160:GV s_Lall "_law_stayed":=by decide +kernel
theorem z385:GV s_Lall "list":=by decide +kernel
theorem z218:GV s_q52 "_law_sign":=by decide +kernel
theorem z308:GV s_q52 "divmod":=by decide +kernel
theorem z335:GV s_q52 "len":=by decide +kernel
theorem z521:GV s_q51 "len":=by decide +kernel
theorem z23:GV z118 "_law_sign":=by decide +kernel
theorem z146:GV z118 "_law_stands":=by decide +kernel
theorem z230:GV z118 "len":=by decide +kernel
theorem z115:GV s_q56 "_law_mixed":=by decide +kernel
theorem z229:Gi s_q56 "range":=by decide +kernel
theorem z497:GV s_q44 "max":=by decide +kernel
theorem z157:GV s_q55 "_law_cell_at":=by decide +kernel
theorem z87:GV z93 "_law_place":=by decide +kernel
theorem z480:GV s_q57 "len":=by decide +kernel
theorem z490:GV s_q57 "min":=by decide +kernel
theorem z240:GV z210 "len":=by decide +kernel
theorem z138:GV s_q25 "_law_sign":=by decide +kernel
theorem z175:GV s_q25 "_law_stands":=by decide +kernel
theorem z364:GV s_q25 "len":=by decide +kernel
theorem z388:Gi s_q25 "range":=by decide +kernel
theorem z225:GV s_q54 "_law_sign":=by decide +kernel
theorem z492:GV s_q54 "min":=by decide +kernel
theorem z322:GV z9 "Book":=by decide +kernel
theorem z285:Gi z9 "Meets":=by decide +kernel
theorem z156:GV z9 "_law_beside":=by decide +kernel
theorem z84:GV z9 "_law_mixed":=by decide +kernel
theorem z126:GV z9 "len":=by decide +kernel
theorem z105:Gi z9 "range":=by decide +kernel
theorem z278:GV z9 "tuple":=by decide +kernel
theorem z400:GV s_q35 "Cart":=by decide +kernel
theorem z282:GV s_q35 "Crawler":=by decide +kernel
theorem z372:GV s_q35 "KINDS":=by decide +kernel
theorem z216:GV s_q35 "MOST_FULL":=by decide +kernel
theorem z306:GV s_q35 "Runner":=by decide +kernel
theorem z519:GV s_q35 "is_among":=by decide +kernel
theorem z212:GV s_q35 "isinstance":=by decide +kernel
theorem z516:GV s_q35 "str":=by decide +kernel
theorem z227:GV s_q26 "MOST_ROWS":=by decide +kernel
theorem z215:GV s_q26 "MOST_SIGNS":=by decide +kernel
theorem z517:GV s_q26 "all":=by decide +kernel
theorem z513:GV s_q26 "check_row":=by decide +kernel
theorem z340:GV s_q26 "is_among":=by decide +kernel
theorem z108:GV s_q26 "isinstance":=by decide +kernel
theorem z253:GV s_q26 "len":=by decide +kernel
theorem z456:GV s_q26 "list":=by decide +kernel
theorem z514:GV s_q26 "str":=by decide +kernel
theorem z486:GV s_q37 "all":=by decide +kernel
theorem z199:GV s_q37 "isinstance":=by decide +kernel
theorem z507:GV s_q37 "len":=by decide +kernel
theorem z488:GV s_q37 "str":=by decide +kernel
theorem z524:GV s_q30 "stops_met":=by decide +kernel
theorem z329:GV s_q11 "last_time":=by decide +kernel
theorem z354:GV s_q11 "max":=by decide +kernel
theorem z510:GV s_q11 "meeting_word":=by decide +kernel
theorem z368:Gi s_q11 "range":=by decide +kernel
theorem z478:GV s_q47 "len":=by decide +kernel
theorem z477:GV s_q47 "min":=by decide +kernel
theorem z518:GV s_q46 "is_whole":=by decide +kernel
theorem z411:GV s_q45 "bool":=by decide +kernel
theorem z522:GV s_q45 "int":=by decide +kernel
theorem z113:GV s_q45 "isinstance":=by decide +kernel
theorem z511:GV s_q41 "len":=by decide +kernel
theorem z375:GV s_law "Floor":=by decide +kernel
theorem z267:GV s_law "_law_all":=by decide +kernel
theorem z188:GV s_law "_law_floor":=by decide +kernel
theorem z74:GV s_law "_law_greatest":=by decide +kernel
theorem z250:GV s_law "_law_met":=by decide +kernel
theorem z15:GV s_law "_law_mixed":=by decide +kernel
theorem z112:GV s_law "_law_stand_cells":=by decide +kernel
theorem z219:GV s_law "_law_ways":=by decide +kernel
theorem z483:GV s_law "carrier_of":=by decide +kernel
theorem z534:GV s_law "first_layer":=by decide +kernel
theorem z505:GV s_law "len":=by decide +kernel
theorem z466:GV s_law "list":=by decide +kernel
theorem z498:GV s_law "next_layer":=by decide +kernel
theorem z236:Gi s_law "range":=by decide +kernel
theorem z181:GV s_q22 "place_at":=by decide +kernel
theorem z324:GV s_q36 "Spread":=by decide +kernel
theorem z475:GV s_q48 "index_at":=by decide +kernel
theorem z495:GV s_q43 "len":=by decide +kernel
theorem sc_q32:FnScope ["self","other"] ["self","other"] (defScope s_q32):=⟨rfl,rfl,rfl,by decide +kernel,rfl,by decide +kernel,by decide +kernel⟩
set_option maxHeartbeats 4000000 in
local macro_rules | `(tactic| walk_at "RD")=>`(tactic| simp only [tNever,z627,iRng1,iRng2,gTup,gCons,gNil,rCat,rJoin,tMethV,tDisp,tPairs,tYes,tDGet,cxKm,cxKs,cxKt,tDGet1,tAug,ipI,tDNotIn,tDNewK,sDPut,z564,sXFld,tThawK,tThawE,iDictK,Ends.thawK,tTryE,tDGet2,z562,rEqT,tThaw,iDictT,tDNewT,rListT,tVr,tSeq,tMethX,tRaise,tAsg,tOp,tUn,tVar,tC,rI0,rI,rU,tTest,tIfS,tNext,tRet,tDrop,gName,tCB,tCons,tNil,tAndV,tOrV,tNotV,tAnd,tOr,tNot,tB,tIf,tChain,tCall,tBM,tLst,tTup,tNoPart,tPart,tSl,tBreak,tCont,rSlL,rIn,rIxL,rIxT,rIxS,rEq,rNe,scal,rAppend,tFld,sFld,tMeth,tMake,tDNewK,gSub,rSetL,tComp,sComp,capσ,iStr,iList,rEqD,cxK,cxA,cxKc,cxAc,L2.start,List.map_cons,List.map_nil,List.length_cons,List.length_nil,List.replicate_succ,List.replicate_zero,List.cons_append,List.nil_append,List.append_nil,Nat.reduceAdd,Nat.reduceSub,List.set_cons_zero,List.set_cons_succ,List.getElem?_cons_zero,List.getElem?_cons_succ,Option.getD_some,Option.getD_none,Option.some.injEq,V.int.injEq,V.ref.injEq,V.bl.injEq,V.str.injEq,V.ty.injEq,exists_eq_left',exists_eq_left,exists_and_left,and_assoc,List.cons.injEq,and_true,true_and,decide_eq_true_eq,Bool.not_eq_true',decide_eq_false_iff_not,Bool.false_eq_true,if_false,if_true,reduceIte,Bool.not_true,Bool.not_false,beq_self_eq_true])
theorem ok_q32 (F:FB K "__init__" "Meets.__init__" s_q32 ad.q32 ["self","other"]) (T:Txt K mg ad):Zn P w K mg base (CXE P w) 1 ad.q32 ["self","other"] (z546 ad):=by
 obtain⟨fd,F,B⟩:=F
 refine⟨fd,B,?_⟩
 refine F.okR sc_q32 (fun vs H Q E h=>?_) (fun cdv A outer s H vs Q E HR h=>?_)
 ·obtain⟨x,k,fs,sl,rfl,_⟩:=h
  rfl
 ·obtain⟨x,k,fs,sl,rfl,hx,hq⟩:=h
  have ND:=sc_q32.nd
  have HU0:=HR.units0
  have HU:=HR.units
  have hA:=HR.hd
  have hz:(100000:Nat)≤sizeLine:=by rw [sizeLine_eq];decide
  refine⟨_,(pss_one (z632 (pvn 0 z412) (pvn 1 z366) rfl)),?_⟩
  walk_at "RD"
  exact⟨_,_,_,hx,⟨T.xt_sa,T.xt_mro,T.xt_dict⟩,T.xt_no,fun dx n1 n2=>hq dx n1 n2⟩
theorem sc_q45:FnScope ["thing"] ["thing"] (defScope s_q45):=⟨rfl,rfl,rfl,by decide +kernel,rfl,by decide +kernel,by decide +kernel⟩
set_option maxHeartbeats 4000000 in
theorem ok_q45 (F:FB K "is_whole" "is_whole" s_q45 ad.q45 ["thing"]) (T:Txt K mg ad):Zn P w K mg base CX0 1 ad.q45 ["thing"] (z454 K):=by
 obtain⟨fd,F,B⟩:=F
 refine⟨fd,B,?_⟩
 refine F.ok sc_q45 (fun vs H Q E h=>?_) (fun cdv A outer s H vs Q E HR h=>?_)
 ·obtain⟨x,rfl,_⟩:=h
  rfl
 ·obtain⟨x,rfl,ty,hq⟩:=h
  have ND:=sc_q45.nd
  have HU0:=HR.units0
  have HU:=HR.units
  have hA:=HR.hd
  have hz:(100000:Nat)≤sizeLine:=by rw [sizeLine_eq];decide
  refine⟨_,(pss_one (ps_ret (pe_and (pcb z59 z113 T.b_isinstance PyProof.Rows.Boot.«isinstance» (pac (pvn 0 z232) (pac (pbl (v:=.ty "int") z522 T.b_int PyProof.Rows.Boot.«int» rfl) pa_nil))) (pe_one (pe_not (pcb z59 z113 T.b_isinstance PyProof.Rows.Boot.«isinstance» (pac (pvn 0 z232) (pac (pbl (v:=.ty "bool") z411 T.b_bool PyProof.Rows.Boot.«bool» rfl) pa_nil)))))))),?_⟩
  obtain⟨n,ty⟩:=ty
  have e1:=z648 ty
  have e2:=z594 ty
  walk_at "RD"
  refine⟨_,ty,_,e1,?_⟩
  cases hb:isIB x with
  | true=>
   rw [if_pos rfl]
   refine⟨_,ty,_,e2,?_⟩
   cases x <;> simp_all [isI,isB,isIB]
  | false=>
   rw [if_neg (by decide)]
   cases x <;> simp_all [isI,isB,isIB]
theorem sc_q46:FnScope ["thing","least","most"] ["thing","least","most"] (defScope s_q46):=⟨rfl,rfl,rfl,by decide +kernel,rfl,by decide +kernel,by decide +kernel⟩
set_option maxHeartbeats 4000000 in
theorem ok_q46 (F:FB K "is_among" "is_among" s_q46 ad.q46 ["thing","least","most"]) (T:Txt K mg ad) (G_q45:Zn P w K mg base CX0 1 ad.q45 ["thing"] (z454 K)):Zn P w K mg base CX0 2 ad.q46 ["thing","least","most"] (z344 K):=by
 obtain⟨fd,F,B⟩:=F
 refine⟨fd,B,?_⟩
 refine F.ok sc_q46 (fun vs H Q E h=>?_) (fun cdv A outer s H vs Q E HR h=>?_)
 ·obtain⟨x,lo,hi,rfl,_⟩:=h
  rfl
 ·obtain⟨x,lo,hi,rfl,ty,hq⟩:=h
  have ND:=sc_q46.nd
  have HU0:=HR.units0
  have HU:=HR.units
  have hA:=HR.hd
  have hz:(100000:Nat)≤sizeLine:=by rw [sizeLine_eq];decide
  refine⟨_,(pss_one (ps_ret (pe_and (pcl G_q45 HR z518 T.mg_q45 T.k_q45 (pac (pvn 0 z248) pa_nil)) (pe_one (pe_chain op_le op_le (pvn 1 z379) (pvn 0 z248) (pvn 2 z434)))))),?_⟩
  walk_at "RD"
  refine⟨x,rfl,ty,?_⟩
  walk_at "RD"
  cases x <;> simp_all [isI,amg]
  split <;> simp_all
theorem sc_q37:FnScope ["line","wide"] ["line","wide"] (defScope s_q37):=⟨rfl,rfl,rfl,by decide +kernel,rfl,by decide +kernel,by decide +kernel⟩
set_option maxHeartbeats 4000000 in
theorem ok_q37 (F:FB K "check_row" "check_row" s_q37 ad.q37 ["line","wide"]) (T:Txt K mg ad):Zn P w K mg base CX0 1 ad.q37 ["line","wide"] (spRow):=by
 obtain⟨fd,F,B⟩:=F
 refine⟨fd,B,?_⟩
 refine F.ok sc_q37 (fun vs H Q E h=>?_) (fun cdv A outer s H vs Q E HR h=>?_)
 ·obtain⟨x,n,rfl,_⟩:=h
  rfl
 ·obtain⟨x,n,rfl,hn,n10,ok,hq⟩:=h
  have ND:=sc_q37.nd
  have HU0:=HR.units0
  have HU:=HR.units
  have hA:=HR.hd
  have hz:(100000:Nat)≤sizeLine:=by rw [sizeLine_eq];decide
  obtain⟨u_SIGNS,c_SIGNS,r_SIGNS⟩:=T.c_SIGNS
  refine⟨_,(pss_cons (ps_if (PW.pt (pw_or (pt_not (pt_val (pcb z59 z199 T.b_isinstance PyProof.Rows.Boot.«isinstance» (pac (pvn 0 z214) (pac (pbl (v:=.ty "str") z488 T.b_str PyProof.Rows.Boot.«str» rfl) pa_nil))))) (pw_or1 (ptc op_ne (pcb call_len_str z507 T.b_len PyProof.Rows.Boot.«len» (pac (pvn 0 z214) pa_nil)) (pvn 1 z463)))))
 pss_never
 pss_nil)
 (pss_one (ps_if (pt_not (pt_val (pcb z169 z486 T.b_all PyProof.Rows.Boot.«all» (pac (z213 (z8.of (osc:=defScope s_q37) (tn:=["sign"]) (cn:=[]) (caps:=[]) rfl rfl (by decide +kernel) (by decide +kernel) (by decide +kernel) (by decide +kernel) rfl) (calm0 rfl)  (pi_str (pvn 0 z214))
 (fun _ _ _ _ _=>(pg_name (i:=0) (show (["sign"]:List Str).Nodup by decide +kernel) rfl (Or.inl rfl))) (fun _ _ _ _ _=>z246) (fun _ _ _ _ _=>(pec z325 (pv 0) (pe_glob (v:=V.str (Str.ofString ".#+~|")) (by rfl) c_SIGNS r_SIGNS (hd:=z634))))) pa_nil))))
 pss_never
 pss_nil))),?_⟩
  walk_at "RD"
  refine⟨_,.str _,true,rfl,?_⟩
  rw [if_neg (by decide)]
  refine⟨by omega,?_⟩
  rw [if_neg (by omega)]
  refine z123 z536 (fun _=>true) inSg (fun y hy Q h=>h) (fun y hy _ Q h=>?_) (by rw [List.length_map,z197];omega) ?_
  ·obtain⟨c,hc,rfl⟩:=List.mem_map.mp hy
   walk_at "RD"
   exact⟨c,rfl,h⟩
  ·intro D hD
   have ey:((x.cps.toList.map chr1).filter fun _=>true).map inSg=(x.cps.toList.map fun c=>decide (c∈(Str.ofString ".#+~|").cps.toList)).map V.bl:=by
    rw [List.filter_eq_self.mpr (fun _ _=>rfl),List.map_map,List.map_map]
    rfl
   rw [ey]
   refine⟨hA,_,SqL.of upd_same,?_⟩
   have e2:(x.cps.toList.map fun c=>decide (c∈(Str.ofString ".#+~|").cps.toList)).all id=true:=by
    rw [List.all_map,List.all_eq_true]
    intro c hc
    exact decide_eq_true (z619 (ok c hc))
   rw [e2,if_neg (by decide)]
   exact hq _ (zz0 hD)
theorem sc_q26:FnScope ["lines","line"] ["lines"] (defScope s_q26):=⟨rfl,rfl,rfl,by decide +kernel,rfl,by decide +kernel,by decide +kernel⟩
set_option maxHeartbeats 4000000 in
theorem ok_q26 (F:FB K "check_floor" "check_floor" s_q26 ad.q26 ["lines"]) (T:Txt K mg ad) (G_q46:Zn P w K mg base CX0 2 ad.q46 ["thing","least","most"] (z344 K)) (G_q37:Zn P w K mg base CX0 1 ad.q37 ["line","wide"] (spRow)):Zn P w K mg base CX0 3 ad.q26 ["lines"] (z540):=by
 obtain⟨fd,F,B⟩:=F
 refine⟨fd,B,?_⟩
 refine F.ok sc_q26 (fun vs H Q E h=>?_) (fun cdv A outer s H vs Q E HR h=>?_)
 ·obtain⟨l,w,h,sg,rfl,_⟩:=h
  rfl
 ·obtain⟨l,w,h,sg,rfl,hL,g,hq⟩:=h
  have ND:=sc_q26.nd
  have HU0:=HR.units0
  have HU:=HR.units
  have hA:=HR.hd
  have hz:(100000:Nat)≤sizeLine:=by rw [sizeLine_eq];decide
  obtain⟨u_WALL,c_WALL,r_WALL⟩:=T.c_WALL
  obtain⟨u_MOST_ROWS,c_MOST_ROWS,r_MOST_ROWS⟩:=T.c_MOST_ROWS
  obtain⟨u_MOST_SIGNS,c_MOST_SIGNS,r_MOST_SIGNS⟩:=T.c_MOST_SIGNS
  refine⟨_,(pss_cons (ps_if (PW.pt (pw_or (pt_not (pt_val (pcb z59 z108 T.b_isinstance PyProof.Rows.Boot.«isinstance» (pac (pvn 0 z36) (pac (pbl (v:=.ty "list") z456 T.b_list PyProof.Rows.Boot.«list» rfl) pa_nil))))) (pw_or1 (pt_not (pt_val (pcl G_q46 HR z340 T.mg_q46 T.k_q46 (pac (pcb call_len_seq z253 T.b_len PyProof.Rows.Boot.«len» (pac (pvn 0 z36) pa_nil)) (pac pe_int (pac (pgl (v:=V.int 10) z227 c_MOST_ROWS r_MOST_ROWS) pa_nil)))))))))
 pss_never
 pss_nil)
 (pss_cons (ps_if (PW.pt (pw_or (pt_not (pt_val (pcb z59 z108 T.b_isinstance PyProof.Rows.Boot.«isinstance» (pac (pe_ix ix_list (pvn 0 z36) pe_int (fun _ _=>rfl)) (pac (pbl (v:=.ty "str") z514 T.b_str PyProof.Rows.Boot.«str» rfl) pa_nil))))) (pw_or1 (pt_not (pt_val (pcl G_q46 HR z340 T.mg_q46 T.k_q46 (pac (pcb call_len_str z253 T.b_len PyProof.Rows.Boot.«len» (pac (pe_ix ix_list (pvn 0 z36) pe_int (fun _ _=>rfl)) pa_nil)) (pac pe_int (pac (pgl (v:=V.int 10) z215 c_MOST_SIGNS r_MOST_SIGNS) pa_nil)))))))))
 pss_never
 pss_nil)
 (pss_cons (ps_for PassesOwn.never (calm0 rfl) (pi_list (pvn 0 z36)) (pgn 1 ND z270)
 (pss_one (ps_expr (pcl G_q37 HR z513 T.mg_q37 T.k_q37 (pac (pvn 1 z270) (pac (pcb call_len_str z253 T.b_len PyProof.Rows.Boot.«len» (pac (pe_ix ix_list (pvn 0 z36) pe_int (fun _ _=>rfl)) pa_nil)) pa_nil))))))
 (pss_one (ps_if (pt_val (pcb z169 z517 T.b_all PyProof.Rows.Boot.«all» (pac (z213 (z8.of (osc:=defScope s_q26) (tn:=["sign"]) (cn:=[]) (caps:=[]) rfl rfl (by decide +kernel) (by decide +kernel) (by decide +kernel) (by decide +kernel) rfl) (calm0 rfl)  (pi_str (pe_bm PySem.F.plainAttrs_str PySem.F.slot_str_join PySem.F.type_str_join z407 pe_str (pac (pvn 0 z36) pa_nil)))
 (fun _ _ _ _ _=>(pg_name (i:=0) (show (["sign"]:List Str).Nodup by decide +kernel) rfl (Or.inl rfl))) (fun _ _ _ _ _=>z246) (fun _ _ _ _ _=>(pec op_eq (pv 0) (pe_glob (v:=V.str (Str.ofString "#")) (by rfl) c_WALL r_WALL (hd:=d_WALL))))) pa_nil)))
 pss_never
 pss_nil))))),?_⟩
  have w0:=g.w0
  have w1:=g.w1
  have h0:=g.h0
  have h1:=g.h1
  have l100:=len100 g
  have e0:atI ((linesOf w h sg).map V.str) 0=some (V.str (lineOf w sg 0)):=atI_nat (j:=0) (by rw [List.getElem?_map,z41 (by omega)];rfl)
  have eL:=z82 g (show 0 < h by omega)
  refine zz1 (fun σ H'=>H'=H∧σ=[some (V.ref l),none]) (fun nx hk=>?_) ?_
  ·walk_at "RD"
   refine⟨_,.lst hL,true,rfl,?_⟩
   rw [if_neg (by decide)]
   refine⟨_,.inl (SqL.of hL),_,_,_,rfl,⟨_,.int _⟩,_,rfl,?_⟩
   rw [List.length_map,z58]
   have ea:amg (.int (h:Int)) 1 10=true:=by simp only [amg,Bool.and_eq_true,decide_eq_true_eq];omega
   rw [ea,if_neg (by decide)]
   exact hk _ _ ⟨rfl,rfl⟩
  rintro σ H1 ⟨rfl,rfl⟩
  refine zz1 (fun σ H'=>H'=H1∧σ=[some (V.ref l),none]) (fun nx hk=>?_) ?_
  ·walk_at "RD"
   refine⟨_,SqL.of hL,_,e0,_,.str _,true,rfl,?_⟩
   rw [if_neg (by decide)]
   refine⟨_,SqL.of hL,_,e0,_,rfl,by rw [eL];omega,_,_,_,rfl,⟨_,.int _⟩,_,rfl,?_⟩
   rw [eL]
   have ea:amg (.int (w:Int)) 1 10=true:=by simp only [amg,Bool.and_eq_true,decide_eq_true_eq];omega
   rw [ea,if_neg (by decide)]
   exact hk _ _ ⟨rfl,rfl⟩
  rintro σ H2 ⟨rfl,rfl⟩
  refine zz1 (fun σ H'=>∃ y,Same H2 H'∧σ=[some (V.ref l),y]) (fun nx hk=>?_) ?_
  ·walk_at "RD"
   refine⟨⟨_,SqL.of hL⟩,for_list (K:=K) (a:=l) (xs:=(linesOf w h sg).map V.str) (fun i σ H'=>∃ y,Same H2 H'∧σ=[some (V.ref l),y]) ⟨none,Same.refl _,rfl⟩ (fun i σ H' _ ⟨_,sm,_⟩=>SqL.of (sm _ _ hL)) ?_ ?_⟩
   ·rintro i y σ H' hi ⟨y0,sm,rfl⟩
    rw [List.getElem?_map] at hi
    obtain⟨z,hz',rfl⟩:=Option.map_eq_some_iff.mp hi
    have hih:i < h:=by
     have:=(List.getElem?_eq_some_iff.mp hz').1
     rwa [z58] at this
    rw [z41 hih] at hz'
    cases hz'
    walk_at "RD"
    refine⟨_,SqL.of (sm _ _ hL),_,e0,_,rfl,by rw [eL];omega,?_⟩
    rw [eL]
    exact⟨_,w,rfl,z82 g hih,w1,z626 g,fun H3 s3=>⟨sm.trans s3,_,rfl⟩⟩
   ·rintro σ H' ⟨y,sm,rfl⟩
    exact hk _ _ ⟨y,sm,rfl⟩
  rintro σ H3 ⟨y,s3,rfl⟩
  walk_at "RD"
  refine⟨rfl,_,SqL.of (s3 _ _ hL),z330 g,?_⟩
  rw [z272 g]
  refine z123 z536 (fun _=>true) isWall (fun y hy Q h=>h) (fun y hy _ Q hh=>?_) (by rw [List.length_map,z197,z243];omega) ?_
  ·obtain⟨c,hc,rfl⟩:=List.mem_map.mp hy
   walk_at "RD"
   refine⟨rfl,?_⟩
   have e:isWall (chr1 c)=V.bl (decide (chr1 c=V.str (Str.ofString "#"))):=by
    show V.bl _=V.bl _
    congr 1
    exact decide_eq_decide.mpr ⟨fun z=>congrArg V.str z,fun z=>V.str.inj z⟩
   rw [e] at hh
   exact hh
  ·intro D hD
   have ey:(((txt sg).cps.toList.map chr1).filter fun _=>true).map isWall=(sg.map fun c=>decide ((⟨#[c]⟩:Str)=Str.ofString "#")).map V.bl:=by
    rw [List.filter_eq_self.mpr (fun _ _=>rfl),List.map_map,List.map_map,z139]
    rfl
   rw [ey]
   refine⟨hA,_,SqL.of upd_same,?_⟩
   have e2:(sg.map fun c=>decide ((⟨#[c]⟩:Str)=Str.ofString "#")).all id=false:=by
    obtain⟨c,hc,hne⟩:=g.cell
    rw [List.all_map,List.all_eq_false]
    exact⟨c,hc,by
     show ¬ (decide _=true)
     rw [decide_eq_true_eq,z549]
     exact hne⟩
   rw [e2,if_neg (by decide)]
   exact hq _ (s3.trans (zz0 hD))
theorem sc_q33:FnScope ["self","lines"] ["self","lines"] (defScope s_q33):=⟨rfl,rfl,rfl,by decide +kernel,rfl,by decide +kernel,by decide +kernel⟩
set_option maxHeartbeats 4000000 in
theorem ok_q33 (F:FB K "__init__" "Floor.__init__" s_q33 ad.q33 ["self","lines"]) (T:Txt K mg ad) (G_q26:Zn P w K mg base CX0 3 ad.q26 ["lines"] (z540)):Zn P w K mg base CX0 4 ad.q33 ["self","lines"] (spInit ad.C_Floor):=by
 obtain⟨fd,F,B⟩:=F
 refine⟨fd,B,?_⟩
 refine F.ok sc_q33 (fun vs H Q E h=>?_) (fun cdv A outer s H vs Q E HR h=>?_)
 ·obtain⟨p,dx,l,w,h,sg,rfl,_⟩:=h
  rfl
 ·obtain⟨p,dx,l,w,h,sg,rfl,hp,hL,g,hq⟩:=h
  have ND:=sc_q33.nd
  have HU0:=HR.units0
  have HU:=HR.units
  have hA:=HR.hd
  have hz:(100000:Nat)≤sizeLine:=by rw [sizeLine_eq];decide
  refine⟨_,(pss_cons (ps_expr (pcl G_q26 HR z493 T.mg_q26 T.k_q26 (pac (pvn 1 z83) pa_nil)))
 (pss_cons (ps_fld (pvn 0 z154) (pcb call_len_str z353 T.b_len PyProof.Rows.Boot.«len» (pac (pe_ix ix_list (pvn 1 z83) pe_int (fun _ _=>rfl)) pa_nil)) rfl)
 (pss_cons (ps_fld (pvn 0 z154) (pcb call_len_seq z353 T.b_len PyProof.Rows.Boot.«len» (pac (pvn 1 z83) pa_nil)) rfl)
 (pss_cons (ps_fld (pvn 0 z154) (pct call_list_of z420 T.b_list PyProof.Rows.Boot.«list» (pac (pvn 1 z83) pa_nil)) rfl)
 (pss_one (ps_fld (pvn 0 z154) (pe_bm PySem.F.plainAttrs_str PySem.F.slot_str_join PySem.F.type_str_join z407 pe_str (pac (pvn 1 z83) pa_nil)) rfl)))))),?_⟩
  have w0:=g.w0
  have h0:=g.h0
  have l100:=len100 g
  have e0:atI ((linesOf w h sg).map V.str) 0=some (V.str (lineOf w sg 0)):=atI_nat (j:=0) (by rw [List.getElem?_map,z41 (by omega)];rfl)
  have eL:=z82 g (show 0 < h by omega)
  have w1:=g.w1
  have npl:l≠p:=ne_of hL hp (by intro z;cases z)
  walk_at "RD"
  refine⟨l,w,h,sg,rfl,hL,g,fun H1 s1=>?_⟩
  have hL1:=s1 _ _ hL
  have hp1:=s1 _ _ hp
  dsimp only
  refine⟨_,SqL.of hL1,_,e0,_,rfl,by rw [eL];omega,_,_,_,hp1,T.cl_Floor,T.n_Floor_wide,by show 0 < 1000;decide,?_⟩
  rw [eL]
  refine⟨_,.inl (SqL.of (by rw [upd_ne npl];exact hL1)),_,_,_,upd_same,T.cl_Floor,T.n_Floor_high,by show 1 < 1000;decide,?_⟩
  rw [List.length_map,z58]
  refine⟨_,.inl (SqL.of (by rw [upd_ne npl,upd_ne npl];exact hL1)),fun l2 n2=>?_⟩
  have np2:l2≠p:=fun z=>by rw [z,upd_same] at n2;cases n2
  have n20:H1 l2=none:=by rw [upd_ne np2,upd_ne np2] at n2;exact n2
  have nl2:l≠l2:=ne_of_none hL1 n20
  refine⟨_,_,_,by rw [upd_ne np2.symm,upd_same],T.cl_Floor,T.n_Floor_lines,by show 2 < 1000;decide,rfl,_,SqL.of (by rw [upd_ne npl,upd_ne nl2,upd_ne npl,upd_ne npl];exact hL1),z330 g,_,_,_,upd_same,T.cl_Floor,T.n_Floor_signs,by show 3 < 1000;decide,?_⟩
  rw [z272 g]
  refine hq _ dx l2 (s1.free n20) upd_same ?_ fun b o hb nb=>?_
  ·unfold z75
   rw [upd_ne np2,upd_ne np2,upd_same]
  ·have hb1:=s1 _ _ hb
   rw [upd_ne nb,upd_ne nb,upd_ne (ne_of_none hb1 n20),upd_ne nb,upd_ne nb]
   exact hb1
theorem sc_q38:FnScope ["self","cell"] ["self","cell"] (defScope s_q38):=⟨rfl,rfl,rfl,by decide +kernel,rfl,by decide +kernel,by decide +kernel⟩
set_option maxHeartbeats 4000000 in
theorem ok_q38 (F:FB K "has" "Floor.has" s_q38 ad.q38 ["self","cell"]) (T:Txt K mg ad) (G_q46:Zn P w K mg base CX0 2 ad.q46 ["thing","least","most"] (z344 K)):Zn P w K mg base CX0 3 ad.q38 ["self","cell"] (spHas K ad.C_Floor):=by
 obtain⟨fd,F,B⟩:=F
 refine⟨fd,B,?_⟩
 refine F.ok sc_q38 (fun vs H Q E h=>?_) (fun cdv A outer s H vs Q E HR h=>?_)
 ·obtain⟨p,w,h,sg,x,rfl,_⟩:=h
  rfl
 ·obtain⟨p,w,h,sg,x,rfl,F0,g,ty,hq⟩:=h
  have ND:=sc_q38.nd
  have HU0:=HR.units0
  have HU:=HR.units
  have hA:=HR.hd
  have hz:(100000:Nat)≤sizeLine:=by rw [sizeLine_eq];decide
  obtain⟨u_WALL,c_WALL,r_WALL⟩:=T.c_WALL
  refine⟨_,(pss_one (ps_ret (pe_and (pcl G_q46 HR z489 T.mg_q46 T.k_q46 (pac (pvn 1 z284) (pac pe_int (pac (pe_op op_sub (pcb call_len_str z484 T.b_len PyProof.Rows.Boot.«len» (pac (pe_fld (pvn 0 z286) (by rfl)) pa_nil)) pe_int) pa_nil)))) (pe_one (pec op_ne (pe_ix ix_str (pe_fld (pvn 0 z286) (by rfl)) (pvn 1 z284) (fun _ _=>rfl)) (pgl (v:=V.str (Str.ofString "#")) z427 c_WALL r_WALL)))))),?_⟩
  obtain⟨dx,l,h1,h2⟩:=F0.ob
  have l100:=len100 g
  walk_at "RD"
  refine⟨_,_,_,h1,T.cl_Floor,T.n_Floor_signs,_,z443 _ _ _ _,_,rfl,by rw [z243];omega,x,_,_,rfl,ty,_,rfl,?_⟩
  rw [z243]
  cases x with
  | int i=>
   by_cases hi:0≤i∧i < sg.length
   ·have ea:amg (.int i) 0 ((sg.length:Int) - 1)=true:=by
     simp only [amg,Bool.and_eq_true,decide_eq_true_eq];omega
    rw [ea,if_pos rfl]
    refine⟨_,_,_,h1,T.cl_Floor,T.n_Floor_signs,_,z443 _ _ _ _,_,rfl,_,rfl,by rw [z243];omega,_,at_txt hi.1 hi.2,?_⟩
    have e:hasV sg (.int i)=!decide ((⟨#[at_ sg i]⟩:Str)=Str.ofString "#"):=by
     show hasI sg i=_
     unfold hasI
     rw [decide_eq_true hi.1,decide_eq_true hi.2]
     simp only [Bool.true_and]
     congr 1
     exact decide_eq_decide.mpr (z549 _).symm
    rw [e] at hq
    exact hq
   ·have ea:amg (.int i) 0 ((sg.length:Int) - 1)=false:=by
     rw [← Bool.not_eq_true]
     simp only [amg,Bool.and_eq_true,decide_eq_true_eq];omega
    rw [ea,if_neg (by decide)]
    have e:hasV sg (.int i)=false:=by
     rw [← Bool.not_eq_true]
     show ¬ (hasI sg i=true)
     unfold hasI
     simp only [Bool.and_eq_true,decide_eq_true_eq]
     intro z
     exact hi ⟨z.1.1,z.1.2⟩
    rw [e] at hq
    exact hq
  | _=>
   rw [show amg _ 0 ((sg.length:Int) - 1)=false from rfl,if_neg (by decide)]
   exact hq
theorem sc_q34:FnScope ["self","cell"] ["self","cell"] (defScope s_q34):=⟨rfl,rfl,rfl,by decide +kernel,rfl,by decide +kernel,by decide +kernel⟩
set_option maxHeartbeats 4000000 in
theorem ok_q34 (F:FB K "sign" "Floor.sign" s_q34 ad.q34 ["self","cell"]) (T:Txt K mg ad):Zn P w K mg base CX0 1 ad.q34 ["self","cell"] (spSign ad.C_Floor):=by
 obtain⟨fd,F,B⟩:=F
 refine⟨fd,B,?_⟩
 refine F.ok sc_q34 (fun vs H Q E h=>?_) (fun cdv A outer s H vs Q E HR h=>?_)
 ·obtain⟨p,w,h,sg,c,rfl,_⟩:=h
  rfl
 ·obtain⟨p,w,h,sg,c,rfl,F0,g,c0,c1,hq⟩:=h
  have ND:=sc_q34.nd
  have HU0:=HR.units0
  have HU:=HR.units
  have hA:=HR.hd
  have hz:(100000:Nat)≤sizeLine:=by rw [sizeLine_eq];decide
  refine⟨_,(pss_one (ps_ret (pe_ix ix_str (pe_fld (pvn 0 z472) (by rfl)) (pvn 1 z403) (fun _ _=>rfl)))),?_⟩
  obtain⟨dx,l,h1,h2⟩:=F0.ob
  have l100:=len100 g
  walk_at "RD"
  exact⟨_,_,_,h1,T.cl_Floor,T.n_Floor_signs,_,z443 _ _ _ _,_,rfl,by rw [z243];omega,_,at_txt c0 c1,hq⟩
theorem sc_q12:FnScope ["self","cell"] ["self","cell"] (defScope s_q12):=⟨rfl,rfl,rfl,by decide +kernel,rfl,by decide +kernel,by decide +kernel⟩
set_option maxHeartbeats 4000000 in
theorem ok_q12 (F:FB K "column" "Floor.column" s_q12 ad.q12 ["self","cell"]) (T:Txt K mg ad):Zn P w K mg base CX0 1 ad.q12 ["self","cell"] (spCol ad.C_Floor):=by
 obtain⟨fd,F,B⟩:=F
 refine⟨fd,B,?_⟩
 refine F.ok sc_q12 (fun vs H Q E h=>?_) (fun cdv A outer s H vs Q E HR h=>?_)
 ·obtain⟨p,w,h,sg,c,rfl,_⟩:=h
  rfl
 ·obtain⟨p,w,h,sg,c,rfl,F0,g,hq⟩:=h
  have ND:=sc_q12.nd
  have HU0:=HR.units0
  have HU:=HR.units
  have hA:=HR.hd
  have hz:(100000:Nat)≤sizeLine:=by rw [sizeLine_eq];decide
  refine⟨_,(pss_one (ps_ret (pe_op op_mod (pvn 1 z405) (pe_fld (pvn 0 z422) (by rfl))))),?_⟩
  obtain⟨dx,l,h1,h2⟩:=F0.ob
  have w0:=g.w0
  walk_at "RD"
  exact⟨_,_,_,h1,T.cl_Floor,T.n_Floor_wide,_,f_wide _ _ _ _,_,rfl,by omega,hq⟩
theorem sc_q39:FnScope ["self","cell"] ["self","cell"] (defScope s_q39):=⟨rfl,rfl,rfl,by decide +kernel,rfl,by decide +kernel,by decide +kernel⟩
set_option maxHeartbeats 4000000 in
theorem ok_q39 (F:FB K "row" "Floor.row" s_q39 ad.q39 ["self","cell"]) (T:Txt K mg ad):Zn P w K mg base CX0 1 ad.q39 ["self","cell"] (z554 ad.C_Floor):=by
 obtain⟨fd,F,B⟩:=F
 refine⟨fd,B,?_⟩
 refine F.ok sc_q39 (fun vs H Q E h=>?_) (fun cdv A outer s H vs Q E HR h=>?_)
 ·obtain⟨p,w,h,sg,c,rfl,_⟩:=h
  rfl
 ·obtain⟨p,w,h,sg,c,rfl,F0,g,hq⟩:=h
  have ND:=sc_q39.nd
  have HU0:=HR.units0
  have HU:=HR.units
  have hA:=HR.hd
  have hz:(100000:Nat)≤sizeLine:=by rw [sizeLine_eq];decide
  refine⟨_,(pss_one (ps_ret (pe_op op_fdiv (pvn 1 z457) (pe_fld (pvn 0 z401) (by rfl))))),?_⟩
  obtain⟨dx,l,h1,h2⟩:=F0.ob
  have w0:=g.w0
  have w1:=g.w1
  walk_at "RD"
  exact⟨_,_,_,h1,T.cl_Floor,T.n_Floor_wide,_,f_wide _ _ _ _,_,rfl,⟨by omega,by omega⟩,hq⟩
theorem sc_q13:FnScope ["self","cell","near"] ["self","cell"] (defScope s_q13):=⟨rfl,rfl,rfl,by decide +kernel,rfl,by decide +kernel,by decide +kernel⟩
set_option maxHeartbeats 4000000 in
theorem ok_q13 (F:FB K "beside" "Floor.beside" s_q13 ad.q13 ["self","cell"]) (T:Txt K mg ad) (G_q12:Zn P w K mg base CX0 1 ad.q12 ["self","cell"] (spCol ad.C_Floor)) (G_q38:Zn P w K mg base CX0 3 ad.q38 ["self","cell"] (spHas K ad.C_Floor)):Zn P w K mg base CX0 4 ad.q13 ["self","cell"] (z316 ad.C_Floor):=by
 obtain⟨fd,F,B⟩:=F
 refine⟨fd,B,?_⟩
 refine F.ok sc_q13 (fun vs H Q E h=>?_) (fun cdv A outer s H vs Q E HR h=>?_)
 ·obtain⟨p,w,h,sg,c,rfl,_⟩:=h
  rfl
 ·obtain⟨p,w,h,sg,c,rfl,F0,g,hq⟩:=h
  have ND:=sc_q13.nd
  have HU0:=HR.units0
  have HU:=HR.units
  have hA:=HR.hd
  have hz:(100000:Nat)≤sizeLine:=by rw [sizeLine_eq];decide
  refine⟨_,(pss_cons (pst 2 ND z110 (pe_lst (pac (pe_op op_sub (pvn 1 z92) (pe_fld (pvn 0 z114) (by rfl))) pa_nil)))
 (pss_cons (ps_if (ptc op_gt (pmt (pvn 0 z114) T.cl_Floor T.m_q12 G_q12 HR (pac (pvn 1 z92) pa_nil)) pe_int)
 (pss_one (ps_expr (pe_bm PySem.F.plainAttrs_list PySem.F.slot_list_append PySem.F.type_list_append mt_append (pvn 2 z110) (pac (pe_op op_sub (pvn 1 z92) pe_int) pa_nil))))
 pss_nil)
 (pss_cons (ps_if (ptc op_lt (pmt (pvn 0 z114) T.cl_Floor T.m_q12 G_q12 HR (pac (pvn 1 z92) pa_nil)) (pe_op op_sub (pe_fld (pvn 0 z114) (by rfl)) pe_int))
 (pss_one (ps_expr (pe_bm PySem.F.plainAttrs_list PySem.F.slot_list_append PySem.F.type_list_append mt_append (pvn 2 z110) (pac (pe_op op_add (pvn 1 z92) pe_int) pa_nil))))
 pss_nil)
 (pss_cons (ps_expr (pe_bm PySem.F.plainAttrs_list PySem.F.slot_list_append PySem.F.type_list_append mt_append (pvn 2 z110) (pac (pe_op op_add (pvn 1 z92) (pe_fld (pvn 0 z114) (by rfl))) pa_nil)))
 (pss_one (ps_ret (z213 (z8.of (osc:=defScope s_q13) (tn:=["place"]) (cn:=["self"]) (caps:=[0]) rfl rfl (by decide +kernel) (by decide +kernel) (by decide +kernel) (by decide +kernel) rfl) (calm0 rfl)  (pi_list (pvn 2 z110))
 (fun _ _ _ _ _=>(pg_name (i:=0) (show (["place","self"]:List Str).Nodup by decide +kernel) rfl (Or.inl rfl))) (fun _ _ _ _ _=>(z331 (pt_val (pmt (pv 1) T.cl_Floor T.m_q38 G_q38 HR (pac (pv 0) pa_nil))))) (fun _ _ _ _ _=>(pv 0))))))))),?_⟩
  obtain⟨dx,l,h1,h2⟩:=F0.ob
  have w0:=g.w0
  have w1:=g.w1
  have nocol:(flds w h l sg).lookup ("column":Str)=none:=f_no _ _ _ _ (by decide +kernel) (by decide +kernel) (by decide +kernel) (by decide +kernel)
  have nohas:(flds w h l sg).lookup ("has":Str)=none:=f_no _ _ _ _ (by decide +kernel) (by decide +kernel) (by decide +kernel) (by decide +kernel)
  refine zz1 (fun σ H'=>∃ n,H n=none∧Same H H'∧H' n=some (.lst ([c - (w:Int)].map V.int))∧σ=[some (V.ref p),some (V.int c),some (V.ref n)]) (fun nx hk=>?_) ?_
  ·walk_at "RD"
   exact⟨_,_,_,h1,T.cl_Floor,T.n_Floor_wide,_,f_wide _ _ _ _,_,rfl,by omega,fun n nn=>hk _ _ ⟨n,nn,zz0 nn,upd_same,rfl⟩⟩
  rintro σ H1 ⟨n,nn,s1,hn,rfl⟩
  refine zz1 (fun σ H'=>Same H H'∧H' n=some (.lst (([c - (w:Int)]++(if c % w > 0 then [c - 1] else [])).map V.int))∧σ=[some (V.ref p),some (V.int c),some (V.ref n)]) (fun nx hk=>?_) ?_
  ·walk_at "RD"
   refine⟨_,_,s1 _ _ h1,nocol,p,w,h,sg,c,rfl,F0.same s1,g,_,rfl,?_⟩
   split
   ·rename_i hc
    refine⟨.inl ⟨rfl,_,SqL.of hn⟩,_,hn,by simp only [List.map_cons,List.map_nil,List.length_cons,List.length_nil];omega,hk _ _ ⟨z52 s1 nn,?_,rfl⟩⟩
    rw [upd_same,if_pos hc]
    rfl
   ·rename_i hc
    refine hk _ _ ⟨s1,?_,rfl⟩
    rw [hn,if_neg hc]
    rfl
  rintro σ H2 ⟨s2,hn2,rfl⟩
  refine zz1 (fun σ H'=>Same H H'∧H' n=some (.lst (([c - (w:Int)]++(if c % w > 0 then [c - 1] else [])++(if c % w < (w:Int) - 1 then [c + 1] else [])).map V.int))∧σ=[some (V.ref p),some (V.int c),some (V.ref n)]) (fun nx hk=>?_) ?_
  ·walk_at "RD"
   refine⟨_,_,s2 _ _ h1,nocol,p,w,h,sg,c,rfl,F0.same s2,g,_,_,_,s2 _ _ h1,T.cl_Floor,T.n_Floor_wide,_,f_wide _ _ _ _,_,rfl,_,rfl,?_⟩
   split
   ·rename_i hc
    refine⟨.inl ⟨rfl,_,SqL.of hn2⟩,_,hn2,?_,hk _ _ ⟨z52 s2 nn,?_,rfl⟩⟩
    ·rw [List.length_map,List.length_append]
     split <;> simp only [List.length_cons,List.length_nil] <;> omega
    ·rw [upd_same,if_pos hc]
     simp only [List.map_append,List.map_cons,List.map_nil]
   ·rename_i hc
    refine hk _ _ ⟨s2,?_,rfl⟩
    rw [hn2,if_neg hc,List.append_nil]
  rintro σ H3 ⟨s3,hn3,rfl⟩
  refine zz1 (fun σ H'=>Same H H'∧H' n=some (.lst ((nearOf w c).map V.int))∧σ=[some (V.ref p),some (V.int c),some (V.ref n)]) (fun nx hk=>?_) ?_
  ·walk_at "RD"
   refine⟨.inl ⟨rfl,_,SqL.of hn3⟩,_,_,_,s3 _ _ h1,T.cl_Floor,T.n_Floor_wide,_,f_wide _ _ _ _,_,rfl,_,hn3,?_,hk _ _ ⟨z52 s3 nn,?_,rfl⟩⟩
   ·rw [List.length_map,List.length_append,List.length_append]
    split <;> split <;> simp only [List.length_cons,List.length_nil] <;> omega
   ·rw [upd_same]
    unfold nearOf
    simp only [List.map_append,List.map_cons,List.map_nil]
  rintro σ H4 ⟨s4,hn4,rfl⟩
  have F4:=F0.same s4
  walk_at "RD"
  refine⟨⟨_,SqL.of hn4⟩,z123 (src_list (SqL.of hn4)) (hasV sg) (fun v=>v) (fun y hy Q hh=>?_) (fun y hy _ Q hh=>?_) ?_ ?_⟩
  ·obtain⟨z,_,rfl⟩:=List.mem_map.mp hy
   walk_at "RD"
   exact⟨_,_,s4 _ _ h1,nohas,p,w,h,sg,_,rfl,F4,g,⟨_,.int _⟩,_,rfl,hh⟩
  ·walk_at "RD"
   exact hh
  ·unfold nearOf
   rw [List.length_map,List.length_append,List.length_append,List.length_append]
   split <;> split <;> simp only [List.length_cons,List.length_nil] <;> omega
  ·intro D hD
   have e:((((nearOf w c).map V.int).filter (hasV sg)).map fun v=>v)=(v2 w sg c).map V.int:=by
    rw [List.map_id',v2,List.filter_map]
    rfl
   rw [e]
   exact hq D _ (s4.free hD) (s4.trans (zz0 hD)) upd_same
theorem sc_q14:FnScope ["self","full"] ["self","full"] (defScope s_q14):=⟨rfl,rfl,rfl,by decide +kernel,rfl,by decide +kernel,by decide +kernel⟩
set_option maxHeartbeats 4000000 in
theorem ok_q14 (F:FB K "__init__" "Carrier.__init__" s_q14 ad.q14 ["self","full"]) (T:Txt K mg ad):Zn P w K mg base CX0 1 ad.q14 ["self","full"] (z437 ad):=by
 obtain⟨fd,F,B⟩:=F
 refine⟨fd,B,?_⟩
 refine F.ok sc_q14 (fun vs H Q E h=>?_) (fun cdv A outer s H vs Q E HR h=>?_)
 ·obtain⟨p,dx,n,i,rfl,_⟩:=h
  rfl
 ·obtain⟨p,dx,n,i,rfl,hp,hq⟩:=h
  have ND:=sc_q14.nd
  have HU0:=HR.units0
  have HU:=HR.units
  have hA:=HR.hd
  have hz:(100000:Nat)≤sizeLine:=by rw [sizeLine_eq];decide
  refine⟨_,(pss_one (ps_fld (pvn 0 z415) (pvn 1 z446) rfl)),?_⟩
  walk_at "RD"
  exact⟨_,_,_,hp,cls_of T i,nof_of T i,by simp,hq⟩
theorem sc_q15:FnScope ["self"] ["self"] (defScope s_q15):=⟨rfl,rfl,rfl,by decide +kernel,rfl,by decide +kernel,by decide +kernel⟩
set_option maxHeartbeats 4000000 in
theorem ok_q15 (F:FB K "kind" "Carrier.kind" s_q15 ad.q15 ["self"]) (T:Txt K mg ad):Zn P w K mg base CX0 1 ad.q15 ["self"] (spKind "carrier"):=by
 obtain⟨fd,F,B⟩:=F
 refine⟨fd,B,?_⟩
 refine F.ok sc_q15 (fun vs H Q E h=>?_) (fun cdv A outer s H vs Q E HR h=>?_)
 ·obtain⟨x,rfl,_⟩:=h
  rfl
 ·obtain⟨x,rfl,hq⟩:=h
  have ND:=sc_q15.nd
  have HU0:=HR.units0
  have HU:=HR.units
  have hA:=HR.hd
  have hz:(100000:Nat)≤sizeLine:=by rw [sizeLine_eq];decide
  refine⟨_,(pss_one (ps_ret pe_str)),?_⟩
  walk_at "RD"
  exact hq
theorem sc_q2:FnScope ["self","sign"] ["self","sign"] (defScope s_q2):=⟨rfl,rfl,rfl,by decide +kernel,rfl,by decide +kernel,by decide +kernel⟩
set_option maxHeartbeats 4000000 in
theorem ok_q2 (F:FB K "may_stand" "Carrier.may_stand" s_q2 ad.q2 ["self","sign"]) (T:Txt K mg ad):Zn P w K mg base CX0 1 ad.q2 ["self","sign"] (spMay 0):=by
 obtain⟨fd,F,B⟩:=F
 refine⟨fd,B,?_⟩
 refine F.ok sc_q2 (fun vs H Q E h=>?_) (fun cdv A outer s H vs Q E HR h=>?_)
 ·obtain⟨x,c,rfl,_⟩:=h
  rfl
 ·obtain⟨x,c,rfl,hq⟩:=h
  have ND:=sc_q2.nd
  have HU0:=HR.units0
  have HU:=HR.units
  have hA:=HR.hd
  have hz:(100000:Nat)≤sizeLine:=by rw [sizeLine_eq];decide
  obtain⟨u_COMMON_SIGNS,c_COMMON_SIGNS,r_COMMON_SIGNS⟩:=T.c_COMMON_SIGNS
  refine⟨_,(pss_one (ps_ret (pec op_in_seq (pvn 1 z502) (pgl (v:=.ref ad.K_COMMON_SIGNS) z173 c_COMMON_SIGNS r_COMMON_SIGNS)))),?_⟩
  walk_at "RD"
  refine⟨_,.inr (T.kt_COMMON_SIGNS H),rfl,rfl,?_⟩
  rw [z352]
  have e:stands 0 c=common c:=by simp [stands]
  rw [← e]
  exact hq
theorem sc_q16:FnScope ["self","sign"] ["self","sign"] (defScope s_q16):=⟨rfl,rfl,rfl,by decide +kernel,rfl,by decide +kernel,by decide +kernel⟩
set_option maxHeartbeats 4000000 in
theorem ok_q16 (F:FB K "gain" "Carrier.gain" s_q16 ad.q16 ["self","sign"]) (T:Txt K mg ad):Zn P w K mg base CX0 1 ad.q16 ["self","sign"] (spGain 0):=by
 obtain⟨fd,F,B⟩:=F
 refine⟨fd,B,?_⟩
 refine F.ok sc_q16 (fun vs H Q E h=>?_) (fun cdv A outer s H vs Q E HR h=>?_)
 ·obtain⟨x,c,rfl,_⟩:=h
  rfl
 ·obtain⟨x,c,rfl,hq⟩:=h
  have ND:=sc_q16.nd
  have HU0:=HR.units0
  have HU:=HR.units
  have hA:=HR.hd
  have hz:(100000:Nat)≤sizeLine:=by rw [sizeLine_eq];decide
  obtain⟨u_CHARGER,c_CHARGER,r_CHARGER⟩:=T.c_CHARGER
  refine⟨_,(pss_one (ps_ret (pe_ifExp (ptc op_eq (pvn 1 z423) (pgl (v:=V.str (Str.ofString "+")) z300 c_CHARGER r_CHARGER)) pe_int pe_int))),?_⟩
  walk_at "RD"
  refine⟨rfl,?_⟩
  unfold gainOf at hq
  by_cases e:c=43
  ·rw [if_pos (q43.mpr e)]
   rw [if_pos e] at hq
   exact hq
  ·rw [if_neg (fun z=>e (q43.mp z))]
   rw [if_neg e] at hq
   exact hq
theorem sc_q17:FnScope ["self","floor","cell","other"] ["self","floor","cell","other"] (defScope s_q17):=⟨rfl,rfl,rfl,by decide +kernel,rfl,by decide +kernel,by decide +kernel⟩
set_option maxHeartbeats 4000000 in
theorem ok_q17 (F:FB K "fare" "Carrier.fare" s_q17 ad.q17 ["self","floor","cell","other"]) (T:Txt K mg ad):Zn P w K mg base CX0 1 ad.q17 ["self","floor","cell","other"] (spFare ad.C_Floor 0):=by
 obtain⟨fd,F,B⟩:=F
 refine⟨fd,B,?_⟩
 refine F.ok sc_q17 (fun vs H Q E h=>?_) (fun cdv A outer s H vs Q E HR h=>?_)
 ·obtain⟨x,fl,w,h,sg,cell,other,rfl,_⟩:=h
  rfl
 ·obtain⟨x,fl,w,h,sg,cell,other,rfl,F0,g,c01,o01,hq⟩:=h
  have ND:=sc_q17.nd
  have HU0:=HR.units0
  have HU:=HR.units
  have hA:=HR.hd
  have hz:(100000:Nat)≤sizeLine:=by rw [sizeLine_eq];decide
  refine⟨_,(pss_one (ps_ret pe_int)),?_⟩
  walk_at "RD"
  exact hq _ (Same.refl _)
theorem sc_q18:FnScope ["self","floor","cell","other"] ["self","floor","cell","other"] (defScope s_q18):=⟨rfl,rfl,rfl,by decide +kernel,rfl,by decide +kernel,by decide +kernel⟩
set_option maxHeartbeats 4000000 in
theorem ok_q18 (F:FB K "cost" "Carrier.cost" s_q18 ad.q18 ["self","floor","cell","other"]) (T:Txt K mg ad) (G_q13:Zn P w K mg base CX0 4 ad.q13 ["self","cell"] (z316 ad.C_Floor)) (G_q0:Zn P w K mg base CX0 3 ad.q0 ["self","floor","cell","other"] (z209 ad)):Zn P w K mg base CX0 5 ad.q18 ["self","floor","cell","other"] (spCost ad):=by
 obtain⟨fd,F,B⟩:=F
 refine⟨fd,B,?_⟩
 refine F.ok sc_q18 (fun vs H Q E h=>?_) (fun cdv A outer s H vs Q E HR h=>?_)
 ·obtain⟨p,fl,i,n,w,h,sg,cell,other,rfl,_⟩:=h
  rfl
 ·obtain⟨p,fl,i,n,w,h,sg,cell,other,rfl,hc,hi,F0,g,c01,ho,hq⟩:=h
  have ND:=sc_q18.nd
  have HU0:=HR.units0
  have HU:=HR.units
  have hA:=HR.hd
  have hz:(100000:Nat)≤sizeLine:=by rw [sizeLine_eq];decide
  refine⟨_,(pss_cons (ps_if (ptc op_notIn_seq (pvn 3 z238) (pmt (pvn 1 z234) T.cl_Floor T.m_q13 G_q13 HR (pac (pvn 2 z283) pa_nil)))
 (pss_one (ps_ret pe_non))
 pss_nil)
 (pss_one (ps_ret (z106 (k:=3) (pvn 0 z393) (dcn T.cl_Cart T.m_Cart_fare_if_standing G_q0 (dcn T.cl_Crawler T.m_q21_if_standing G_q0 (dcn T.cl_Runner T.m_q29_if_standing G_q0 (dcn T.cl_Carrier T.m_q0 G_q0 z117)))) (HR.mono (by decide)) (pac (pvn 1 z234) (pac (pvn 2 z283) (pac (pvn 3 z238) pa_nil))) (hst:=stp rfl) (hpl:=anp rfl))))),?_⟩
  obtain⟨dx,l,h1,h2⟩:=id F0.ob
  obtain⟨dp,hp⟩:=id hc
  have nb:(flds w h l sg).lookup ("beside":Str)=none:=nofl (by decide +kernel) (by decide +kernel) (by decide +kernel) (by decide +kernel)
  have nf:(putF "full" (V.int n) []).lookup ("fare_if_standing":Str)=none:=l_no n (by decide +kernel)
  have oF:InF sg other:=z121 g ho
  walk_at "RD"
  refine⟨_,_,h1,nb,fl,w,h,sg,cell,rfl,F0,g,fun r H1 hr s1 h3=>⟨r,rfl,_,.inl (SqL.of h3),rfl,by simp [flatV],?_⟩⟩
  have e:inV (V.int other) ((v2 w sg cell).map V.int)=true:=by
   simp only [inV,List.any_map,List.any_eq_true]
   exact⟨other,ho,by simp [eqV]⟩
  rw [if_neg (by rw [e];decide)]
  exact⟨p,dp,_,(clsOf ad i,z209 ad),e_al4 i hi,rfl,s1 _ _ hp,nf,p,fl,i,n,w,h,sg,cell,other,rfl,⟨dp,s1 _ _ hp⟩,hi,F0.same s1,g,c01,oF,fun H2 s2=>hq _ (s1.trans s2)⟩
theorem sc_q10:FnScope ["self","floor","cell","pairs"] ["self","floor","cell"] (defScope s_q10):=⟨rfl,rfl,rfl,by decide +kernel,rfl,by decide +kernel,by decide +kernel⟩
set_option maxHeartbeats 4000000 in
theorem ok_q10 (F:FB K "steps" "Carrier.steps" s_q10 ad.q10 ["self","floor","cell"]) (T:Txt K mg ad) (G_q13:Zn P w K mg base CX0 4 ad.q13 ["self","cell"] (z316 ad.C_Floor)) (G_q0:Zn P w K mg base CX0 3 ad.q0 ["self","floor","cell","other"] (z209 ad)):Zn P w K mg base CX0 5 ad.q10 ["self","floor","cell"] (z404 ad):=by
 obtain⟨fd,F,B⟩:=F
 refine⟨fd,B,?_⟩
 refine F.ok sc_q10 (fun vs H Q E h=>?_) (fun cdv A outer s H vs Q E HR h=>?_)
 ·obtain⟨p,fl,i,n,w,h,sg,cell,rfl,_⟩:=h
  rfl
 ·obtain⟨p,fl,i,n,w,h,sg,cell,rfl,hc,hi,F0,g,c01,hq⟩:=h
  have ND:=sc_q10.nd
  have HU0:=HR.units0
  have HU:=HR.units
  have hA:=HR.hd
  have hz:(100000:Nat)≤sizeLine:=by rw [sizeLine_eq];decide
  refine⟨_,(pss_cons (z465 (i:=3) (z8.of (osc:=defScope s_q10) (tn:=["other"]) (cn:=["floor","cell","self"]) (caps:=[1,2,0]) rfl rfl (by decide +kernel) (by decide +kernel) (by decide +kernel) (by decide +kernel) rfl) (calm0 rfl) ND rfl z377 (pi_list (pmt (pvn 1 z373) T.cl_Floor T.m_q13 G_q13 HR (pac (pvn 2 z459) pa_nil)))
 (fun _ _ _ _ _=>(pg_name (i:=0) (show (["other","floor","cell","self"]:List Str).Nodup by decide +kernel) rfl (Or.inl rfl))) (fun _ _ _ _ _=>z246) (fun _ _ _ _ _=>(pe_tup (pac (pv 0) (pac (z106 (k:=3) (pv 3) (dcn T.cl_Cart T.m_Cart_fare_if_standing G_q0 (dcn T.cl_Crawler T.m_q21_if_standing G_q0 (dcn T.cl_Runner T.m_q29_if_standing G_q0 (dcn T.cl_Carrier T.m_q0 G_q0 z117)))) (HR.mono (by decide)) (pac (pv 1) (pac (pv 2) (pac (pv 0) pa_nil))) (hst:=stp rfl) (hpl:=anp rfl)) pa_nil)))) (hsw:=by rfl))
 (pss_one (ps_ret (z213 (z8.of (osc:=defScope s_q10) (tn:=["pair"]) (cn:=[]) (caps:=[]) rfl rfl (by decide +kernel) (by decide +kernel) (by decide +kernel) (by decide +kernel) rfl) (calm0 rfl)  (pi_list (pvn 3 z382))
 (fun _ _ _ _ _=>(pg_name (i:=0) (show (["pair"]:List Str).Nodup by decide +kernel) rfl (Or.inl rfl))) (fun _ _ _ _ _=>(z331 (ptc op_notN (pe_ix (z654 (K:=K) rfl) (pv 0) pe_int (fun _ _=>rfl)) pe_non))) (fun _ _ _ _ _=>(pv 0)))))),?_⟩
  obtain⟨dx,l,h1,h2⟩:=id F0.ob
  obtain⟨dp,hp⟩:=id hc
  have nb:(flds w h l sg).lookup ("beside":Str)=none:=nofl (by decide +kernel) (by decide +kernel) (by decide +kernel) (by decide +kernel)
  have nf:(putF "full" (V.int n) []).lookup ("fare_if_standing":Str)=none:=l_no n (by decide +kernel)
  have bl:=z107 (w:=w) (sg:=sg) (c:=cell)
  walk_at "RD"
  refine⟨_,_,h1,nb,fl,w,h,sg,cell,rfl,F0,g,fun r H1 hr s1 h3=>⟨r,rfl,⟨_,SqL.of h3⟩,z494 (K:=K) (a:=r) (xs:=(v2 w sg cell).map V.int) (fun j ys H'=>Same H1 H'∧∃ ts:List Addr,ys=ts.map V.ref∧Paired (PO (costOf i w sg cell) H') ts ((v2 w sg cell).take j)) ⟨Same.refl _,[],rfl,.nil⟩ ?_ ?_ ?_⟩⟩
  ·rintro j ys H' _ ⟨s2,_⟩
   exact SqL.of (s2 _ _ h3)
  ·rintro j x ys H' hx ⟨s2,ts,rfl,pr⟩
   rw [List.getElem?_map] at hx
   obtain⟨o,ho,rfl⟩:=Option.map_eq_some_iff.mp hx
   have hm:o∈v2 w sg cell:=List.mem_of_getElem? ho
   have lt:ts.length≤4:=by
    have:=Paired.length pr
    rw [List.length_take] at this
    omega
   walk_at "RD"
   refine⟨p,dp,_,(clsOf ad i,z209 ad),e_al4 i hi,rfl,s2 _ _ (s1 _ _ hp),nf,p,fl,i,n,w,h,sg,cell,o,rfl,⟨dp,s2 _ _ (s1 _ _ hp)⟩,hi,F0.same (s1.trans s2),g,c01,z121 g hm,fun H3 s3=>⟨by omega,fun t ht=>⟨by simp;omega,(s2.trans s3).trans (zz0 ht),ts++[t],by simp,?_⟩⟩⟩
   rw [List.take_add_one,ho]
   exact Paired.snoc (Paired.mapP pr fun _ _ z=>(zz0 ht) _ _ (s3 _ _ z)) upd_same
  ·rintro ys H' ⟨s2,ts,rfl,pr⟩
   rw [List.length_map,List.take_length] at pr
   have lt:ts.length≤4:=by
    have:=Paired.length pr
    omega
   refine⟨by simp;omega,fun q hq'=>⟨⟨_,SqL.of upd_same⟩,z123 (src_list (SqL.of upd_same)) (pvv (upd H' q (HO.lst (ts.map V.ref)))) (fun v=>v) (fun y hy Q h=>?_) (fun y hy _ Q h=>?_) (by simp;omega) (fun D hD=>?_)⟩⟩
   ·obtain⟨t,ht,rfl⟩:=List.mem_map.mp hy
    obtain⟨o,e⟩:=z462 pr ht
    have e:upd H' q (HO.lst (ts.map V.ref)) t=some (.tup [.int o,optV (costOf i w sg cell o)]):=(zz0 hq') _ _ e
    walk_at "RD"
    refine⟨_,SqT.of e,_,rfl,?_⟩
    simp only [pvv,e] at h
    exact h
   ·walk_at "RD"
    exact h
   ·obtain⟨us,e1,e2⟩:=z281 (Paired.mapP pr fun _ _ z=>(zz0 (o:=HO.lst (ts.map V.ref)) hq') _ _ z)
    rw [List.map_id',e1]
    exact hq D _ ((s1.trans s2).free ((zz0 hq').free hD)) ((s1.trans s2).trans ((zz0 hq').trans (zz0 hD))) ⟨us,upd_same,Paired.mapP e2 fun _ _ z=>(zz0 hD) _ _ z⟩
theorem sc_q7:FnScope ["self","sign","charge"] ["self","sign","charge"] (defScope s_q7):=⟨rfl,rfl,rfl,by decide +kernel,rfl,by decide +kernel,by decide +kernel⟩
set_option maxHeartbeats 4000000 in
theorem ok_q7 (F:FB K "stayed" "Carrier.stayed" s_q7 ad.q7 ["self","sign","charge"]) (T:Txt K mg ad) (G_q16:Zn P w K mg base CX0 1 ad.q16 ["self","sign"] (spGain 0)) (G_q20:Zn P w K mg base CX0 1 ad.q20 ["self","sign"] (spGain 1)) (G_q28:Zn P w K mg base CX0 1 ad.q28 ["self","sign"] (spGain 2)):Zn P w K mg base CX0 2 ad.q7 ["self","sign","charge"] (z304 ad):=by
 obtain⟨fd,F,B⟩:=F
 refine⟨fd,B,?_⟩
 refine F.ok sc_q7 (fun vs H Q E h=>?_) (fun cdv A outer s H vs Q E HR h=>?_)
 ·obtain⟨p,i,n,c,k,rfl,_⟩:=h
  rfl
 ·obtain⟨p,i,n,c,k,rfl,hc,hi,hq⟩:=h
  have ND:=sc_q7.nd
  have HU0:=HR.units0
  have HU:=HR.units
  have hA:=HR.hd
  have hz:(100000:Nat)≤sizeLine:=by rw [sizeLine_eq];decide
  refine⟨_,(pss_one (ps_ret (pcb (call_min2 rfl) z610 T.b_min PyProof.Rows.Boot.«min» (pac (pe_op op_add (pvn 2 z387) (z106 (k:=1) (pvn 0 z358) (dcn T.cl_Cart T.m_Cart_gain G_q16 (dcn T.cl_Crawler T.m_q20 G_q20 (dcn T.cl_Runner T.m_q28 G_q28 (dcn T.cl_Carrier T.m_q16 G_q16 z117)))) (HR.mono (by decide)) (pac (pvn 1 z479) pa_nil) (hst:=stp rfl) (hpl:=anp rfl))) (pac (pe_fld (pvn 0 z358) (by rfl)) pa_nil))))),?_⟩
  obtain⟨dp,hp⟩:=id hc
  obtain⟨j,hj,ej⟩:=e_gain (ad:=ad) i hi
  have ng:(putF "full" (V.int n) []).lookup ("gain":Str)=none:=l_no n (by decide +kernel)
  walk_at "RD"
  refine⟨p,dp,_,(clsOf ad i,spGain j),hj,rfl,hp,ng,_,c,rfl,_,rfl,_,_,_,hp,cls_of T i,nof_of T i,_,l_full n,_,rfl,?_⟩
  rw [ej]
  have e:(if n < k + gainOf i c then n else k + gainOf i c)=min (k + gainOf i c) n:=by split <;> omega
  rw [e]
  exact hq
theorem sc_q0:FnScope ["self","floor","cell","other"] ["self","floor","cell","other"] (defScope s_q0):=⟨rfl,rfl,rfl,by decide +kernel,rfl,by decide +kernel,by decide +kernel⟩
set_option maxHeartbeats 4000000 in
theorem ok_q0 (F:FB K "fare_if_standing" "Carrier.fare_if_standing" s_q0 ad.q0 ["self","floor","cell","other"]) (T:Txt K mg ad) (G_q2:Zn P w K mg base CX0 1 ad.q2 ["self","sign"] (spMay 0)) (G_q3:Zn P w K mg base CX0 1 ad.q3 ["self","sign"] (spMay 1)) (G_q34:Zn P w K mg base CX0 1 ad.q34 ["self","cell"] (spSign ad.C_Floor)) (G_q17:Zn P w K mg base CX0 1 ad.q17 ["self","floor","cell","other"] (spFare ad.C_Floor 0)) (G_q21:Zn P w K mg base CX0 2 ad.q21 ["self","floor","cell","other"] (spFare ad.C_Floor 1)) (G_q29:Zn P w K mg base CX0 2 ad.q29 ["self","floor","cell","other"] (spFare ad.C_Floor 2)):Zn P w K mg base CX0 3 ad.q0 ["self","floor","cell","other"] (z209 ad):=by
 obtain⟨fd,F,B⟩:=F
 refine⟨fd,B,?_⟩
 refine F.ok sc_q0 (fun vs H Q E h=>?_) (fun cdv A outer s H vs Q E HR h=>?_)
 ·obtain⟨p,fl,i,n,w,h,sg,cell,other,rfl,_⟩:=h
  rfl
 ·obtain⟨p,fl,i,n,w,h,sg,cell,other,rfl,hc,hi,F0,g,c01,o01,hq⟩:=h
  have ND:=sc_q0.nd
  have HU0:=HR.units0
  have HU:=HR.units
  have hA:=HR.hd
  have hz:(100000:Nat)≤sizeLine:=by rw [sizeLine_eq];decide
  refine⟨_,(pss_cons (ps_if (PW.pt (pw_and (pt_val (z106 (k:=1) (pvn 0 z255) (dcn T.cl_Cart T.m_Cart_may_stand G_q2 (dcn T.cl_Crawler T.m_q3 G_q3 (dcn T.cl_Runner T.m_Runner_may_stand G_q2 (dcn T.cl_Carrier T.m_q2 G_q2 z117)))) (HR.mono (by decide)) (pac (pmt (pvn 1 z185) T.cl_Floor T.m_q34 G_q34 HR (pac (pvn 2 z326) pa_nil)) pa_nil) (hst:=stp rfl) (hpl:=anp rfl))) (pw_and1 (pt_val (z106 (k:=1) (pvn 0 z255) (dcn T.cl_Cart T.m_Cart_may_stand G_q2 (dcn T.cl_Crawler T.m_q3 G_q3 (dcn T.cl_Runner T.m_Runner_may_stand G_q2 (dcn T.cl_Carrier T.m_q2 G_q2 z117)))) (HR.mono (by decide)) (pac (pmt (pvn 1 z185) T.cl_Floor T.m_q34 G_q34 HR (pac (pvn 3 z274) pa_nil)) pa_nil) (hst:=stp rfl) (hpl:=anp rfl))))))
 (pss_one (ps_ret (z106 (k:=2) (pvn 0 z255) (dcn T.cl_Cart T.m_Cart_fare G_q17 (dcn T.cl_Crawler T.m_q21 G_q21 (dcn T.cl_Runner T.m_q29 G_q29 (dcn T.cl_Carrier T.m_q17 G_q17 z117)))) (HR.mono (by decide)) (pac (pvn 1 z185) (pac (pvn 2 z326) (pac (pvn 3 z274) pa_nil))) (hst:=stp rfl) (hpl:=anp rfl))))
 pss_nil)
 (pss_one (ps_ret pe_non))),?_⟩
  obtain⟨dx,l,h1,h2⟩:=id F0.ob
  obtain⟨dp,hp⟩:=id hc
  have ns:(flds w h l sg).lookup ("sign":Str)=none:=nofl (by decide +kernel) (by decide +kernel) (by decide +kernel) (by decide +kernel)
  obtain⟨j,hj,ej⟩:=e_may (ad:=ad) i hi
  obtain⟨k,hk,ek⟩:=e_fare (ad:=ad) (C:=ad.C_Floor) i hi
  have nm:(putF "full" (V.int n) []).lookup ("may_stand":Str)=none:=l_no n (by decide +kernel)
  have nf:(putF "full" (V.int n) []).lookup ("fare":Str)=none:=l_no n (by decide +kernel)
  have may:∀ (o:Int) (Q':VK),InF sg o→Q' (.bl (stands i (at_ sg o))) H→∃ a dx fs e,e∈[(ad.C_Cart,spMay 0),(ad.C_Crawler,spMay 1),(ad.C_Runner,spMay 0),(ad.C_Carrier,spMay 0)]∧p=a∧H a=some (HO.ins e.fst dx fs)∧List.lookup ("may_stand":Str) fs=none∧
    ∃ x x_1,H fl=some (HO.ins ad.C_Floor x x_1)∧List.lookup ("sign":Str) x_1=none∧spSign ad.C_Floor [V.ref fl,V.int o] H (fun x H1=>e.snd [V.ref p,x] H1 Q' E0) E0:=fun o Q' ho q=>
   ⟨p,dp,_,(clsOf ad i,spMay j),hj,rfl,hp,nm,_,_,h1,ns,fl,w,h,sg,o,rfl,F0,g,ho.1,ho.2,_,_,rfl,by rw [ej];exact q⟩
  unfold costOf at hq
  walk_at "RD"
  refine may cell _ c01 ⟨_,rfl,?_⟩
  by_cases e1:stands i (at_ sg cell)=true
  ·rw [if_pos e1]
   refine may other _ o01 ⟨_,rfl,?_⟩
   by_cases e2:stands i (at_ sg other)=true
   ·rw [if_pos e2]
    simp only [e1,e2,Bool.and_self,if_true] at hq
    refine⟨p,dp,_,(clsOf ad i,spFare ad.C_Floor k),hk,rfl,hp,nf,.ref p,fl,w,h,sg,cell,other,rfl,F0,g,c01,o01,?_⟩
    rw [ek]
    exact hq
   ·rw [if_neg e2]
    rw [Bool.not_eq_true] at e2
    rw [e2,Bool.and_false,if_neg (by decide)] at hq
    exact hq _ (Same.refl _)
  ·rw [if_neg e1]
   rw [Bool.not_eq_true] at e1
   rw [e1,Bool.false_and,if_neg (by decide)] at hq
   exact hq _ (Same.refl _)
theorem sc_q40:FnScope ["self"] ["self"] (defScope s_q40):=⟨rfl,rfl,rfl,by decide +kernel,rfl,by decide +kernel,by decide +kernel⟩
set_option maxHeartbeats 4000000 in
theorem ok_q40 (F:FB K "kind" "Cart.kind" s_q40 ad.q40 ["self"]) (T:Txt K mg ad):Zn P w K mg base CX0 1 ad.q40 ["self"] (spKind "cart"):=by
 obtain⟨fd,F,B⟩:=F
 refine⟨fd,B,?_⟩
 refine F.ok sc_q40 (fun vs H Q E h=>?_) (fun cdv A outer s H vs Q E HR h=>?_)
 ·obtain⟨x,rfl,_⟩:=h
  rfl
 ·obtain⟨x,rfl,hq⟩:=h
  have ND:=sc_q40.nd
  have HU0:=HR.units0
  have HU:=HR.units
  have hA:=HR.hd
  have hz:(100000:Nat)≤sizeLine:=by rw [sizeLine_eq];decide
  refine⟨_,(pss_one (ps_ret pe_str)),?_⟩
  walk_at "RD"
  exact hq
theorem sc_q19:FnScope ["self"] ["self"] (defScope s_q19):=⟨rfl,rfl,rfl,by decide +kernel,rfl,by decide +kernel,by decide +kernel⟩
set_option maxHeartbeats 4000000 in
theorem ok_q19 (F:FB K "kind" "Crawler.kind" s_q19 ad.q19 ["self"]) (T:Txt K mg ad):Zn P w K mg base CX0 1 ad.q19 ["self"] (spKind "crawler"):=by
 obtain⟨fd,F,B⟩:=F
 refine⟨fd,B,?_⟩
 refine F.ok sc_q19 (fun vs H Q E h=>?_) (fun cdv A outer s H vs Q E HR h=>?_)
 ·obtain⟨x,rfl,_⟩:=h
  rfl
 ·obtain⟨x,rfl,hq⟩:=h
  have ND:=sc_q19.nd
  have HU0:=HR.units0
  have HU:=HR.units
  have hA:=HR.hd
  have hz:(100000:Nat)≤sizeLine:=by rw [sizeLine_eq];decide
  refine⟨_,(pss_one (ps_ret pe_str)),?_⟩
  walk_at "RD"
  exact hq
theorem sc_q3:FnScope ["self","sign"] ["self","sign"] (defScope s_q3):=⟨rfl,rfl,rfl,by decide +kernel,rfl,by decide +kernel,by decide +kernel⟩
set_option maxHeartbeats 4000000 in
theorem ok_q3 (F:FB K "may_stand" "Crawler.may_stand" s_q3 ad.q3 ["self","sign"]) (T:Txt K mg ad):Zn P w K mg base CX0 1 ad.q3 ["self","sign"] (spMay 1):=by
 obtain⟨fd,F,B⟩:=F
 refine⟨fd,B,?_⟩
 refine F.ok sc_q3 (fun vs H Q E h=>?_) (fun cdv A outer s H vs Q E HR h=>?_)
 ·obtain⟨x,c,rfl,_⟩:=h
  rfl
 ·obtain⟨x,c,rfl,hq⟩:=h
  have ND:=sc_q3.nd
  have HU0:=HR.units0
  have HU:=HR.units
  have hA:=HR.hd
  have hz:(100000:Nat)≤sizeLine:=by rw [sizeLine_eq];decide
  obtain⟨u_ROUGH,c_ROUGH,r_ROUGH⟩:=T.c_ROUGH
  obtain⟨u_COMMON_SIGNS,c_COMMON_SIGNS,r_COMMON_SIGNS⟩:=T.c_COMMON_SIGNS
  refine⟨_,(pss_one (ps_ret (pe_or (pec op_eq (pvn 1 z351) (pgl (v:=V.str (Str.ofString "~")) z467 c_ROUGH r_ROUGH)) (pe_one (pec op_in_seq (pvn 1 z351) (pgl (v:=.ref ad.K_COMMON_SIGNS) z179 c_COMMON_SIGNS r_COMMON_SIGNS)))))),?_⟩
  walk_at "RD"
  refine⟨rfl,?_⟩
  by_cases e:c=126
  ·rw [if_pos (q126.mpr e)]
   have e2:stands 1 c=true:=by simp [stands,e]
   rw [← e2]
   exact hq
  ·rw [if_neg (fun z=>e (q126.mp z))]
   refine⟨_,.inr (T.kt_COMMON_SIGNS H),rfl,rfl,?_⟩
   rw [z352]
   have e2:stands 1 c=common c:=by simp [stands,e]
   rw [← e2]
   exact hq
theorem sc_q20:FnScope ["self","sign"] ["self","sign"] (defScope s_q20):=⟨rfl,rfl,rfl,by decide +kernel,rfl,by decide +kernel,by decide +kernel⟩
set_option maxHeartbeats 4000000 in
theorem ok_q20 (F:FB K "gain" "Crawler.gain" s_q20 ad.q20 ["self","sign"]) (T:Txt K mg ad):Zn P w K mg base CX0 1 ad.q20 ["self","sign"] (spGain 1):=by
 obtain⟨fd,F,B⟩:=F
 refine⟨fd,B,?_⟩
 refine F.ok sc_q20 (fun vs H Q E h=>?_) (fun cdv A outer s H vs Q E HR h=>?_)
 ·obtain⟨x,c,rfl,_⟩:=h
  rfl
 ·obtain⟨x,c,rfl,hq⟩:=h
  have ND:=sc_q20.nd
  have HU0:=HR.units0
  have HU:=HR.units
  have hA:=HR.hd
  have hz:(100000:Nat)≤sizeLine:=by rw [sizeLine_eq];decide
  obtain⟨u_CHARGER,c_CHARGER,r_CHARGER⟩:=T.c_CHARGER
  refine⟨_,(pss_one (ps_ret (pe_ifExp (ptc op_eq (pvn 1 z448) (pgl (v:=V.str (Str.ofString "+")) z303 c_CHARGER r_CHARGER)) pe_int pe_int))),?_⟩
  walk_at "RD"
  refine⟨rfl,?_⟩
  unfold gainOf at hq
  by_cases e:c=43
  ·rw [if_pos (q43.mpr e)]
   rw [if_pos e] at hq
   exact hq
  ·rw [if_neg (fun z=>e (q43.mp z))]
   rw [if_neg e] at hq
   exact hq
theorem sc_q21:FnScope ["self","floor","cell","other"] ["self","floor","cell","other"] (defScope s_q21):=⟨rfl,rfl,rfl,by decide +kernel,rfl,by decide +kernel,by decide +kernel⟩
set_option maxHeartbeats 4000000 in
theorem ok_q21 (F:FB K "fare" "Crawler.fare" s_q21 ad.q21 ["self","floor","cell","other"]) (T:Txt K mg ad) (G_q34:Zn P w K mg base CX0 1 ad.q34 ["self","cell"] (spSign ad.C_Floor)):Zn P w K mg base CX0 2 ad.q21 ["self","floor","cell","other"] (spFare ad.C_Floor 1):=by
 obtain⟨fd,F,B⟩:=F
 refine⟨fd,B,?_⟩
 refine F.ok sc_q21 (fun vs H Q E h=>?_) (fun cdv A outer s H vs Q E HR h=>?_)
 ·obtain⟨x,fl,w,h,sg,cell,other,rfl,_⟩:=h
  rfl
 ·obtain⟨x,fl,w,h,sg,cell,other,rfl,F0,g,c01,o01,hq⟩:=h
  have ND:=sc_q21.nd
  have HU0:=HR.units0
  have HU:=HR.units
  have hA:=HR.hd
  have hz:(100000:Nat)≤sizeLine:=by rw [sizeLine_eq];decide
  obtain⟨u_ROUGH,c_ROUGH,r_ROUGH⟩:=T.c_ROUGH
  refine⟨_,(pss_one (ps_ret (pe_ifExp (ptc op_eq (pmt (pvn 1 z370) T.cl_Floor T.m_q34 G_q34 HR (pac (pvn 3 z384) pa_nil)) (pgl (v:=V.str (Str.ofString "~")) z371 c_ROUGH r_ROUGH)) pe_int pe_int))),?_⟩
  obtain⟨dx,l,h1,h2⟩:=id F0.ob
  walk_at "RD"
  refine⟨_,_,h1,nofl (by decide +kernel) (by decide +kernel) (by decide +kernel) (by decide +kernel),fl,w,h,sg,other,rfl,F0,g,o01.1,o01.2,rfl,?_⟩
  simp only [fareOf] at hq
  by_cases e:at_ sg other=126
  ·rw [if_pos (q126.mpr e)]
   rw [if_pos e] at hq
   exact hq _ (Same.refl _)
  ·rw [if_neg (fun z=>e (q126.mp z))]
   rw [if_neg e] at hq
   exact hq _ (Same.refl _)
theorem sc_q27:FnScope ["self"] ["self"] (defScope s_q27):=⟨rfl,rfl,rfl,by decide +kernel,rfl,by decide +kernel,by decide +kernel⟩
set_option maxHeartbeats 4000000 in
theorem ok_q27 (F:FB K "kind" "Runner.kind" s_q27 ad.q27 ["self"]) (T:Txt K mg ad):Zn P w K mg base CX0 1 ad.q27 ["self"] (spKind "runner"):=by
 obtain⟨fd,F,B⟩:=F
 refine⟨fd,B,?_⟩
 refine F.ok sc_q27 (fun vs H Q E h=>?_) (fun cdv A outer s H vs Q E HR h=>?_)
 ·obtain⟨x,rfl,_⟩:=h
  rfl
 ·obtain⟨x,rfl,hq⟩:=h
  have ND:=sc_q27.nd
  have HU0:=HR.units0
  have HU:=HR.units
  have hA:=HR.hd
  have hz:(100000:Nat)≤sizeLine:=by rw [sizeLine_eq];decide
  refine⟨_,(pss_one (ps_ret pe_str)),?_⟩
  walk_at "RD"
  exact hq
theorem sc_q28:FnScope ["self","sign"] ["self","sign"] (defScope s_q28):=⟨rfl,rfl,rfl,by decide +kernel,rfl,by decide +kernel,by decide +kernel⟩
set_option maxHeartbeats 4000000 in
theorem ok_q28 (F:FB K "gain" "Runner.gain" s_q28 ad.q28 ["self","sign"]) (T:Txt K mg ad):Zn P w K mg base CX0 1 ad.q28 ["self","sign"] (spGain 2):=by
 obtain⟨fd,F,B⟩:=F
 refine⟨fd,B,?_⟩
 refine F.ok sc_q28 (fun vs H Q E h=>?_) (fun cdv A outer s H vs Q E HR h=>?_)
 ·obtain⟨x,c,rfl,_⟩:=h
  rfl
 ·obtain⟨x,c,rfl,hq⟩:=h
  have ND:=sc_q28.nd
  have HU0:=HR.units0
  have HU:=HR.units
  have hA:=HR.hd
  have hz:(100000:Nat)≤sizeLine:=by rw [sizeLine_eq];decide
  obtain⟨u_CHARGER,c_CHARGER,r_CHARGER⟩:=T.c_CHARGER
  refine⟨_,(pss_one (ps_ret (pe_ifExp (ptc op_eq (pvn 1 z389) (pgl (v:=V.str (Str.ofString "+")) z299 c_CHARGER r_CHARGER)) pe_int pe_int))),?_⟩
  walk_at "RD"
  refine⟨rfl,?_⟩
  unfold gainOf at hq
  by_cases e:c=43
  ·rw [if_pos (q43.mpr e)]
   rw [if_pos e] at hq
   exact hq
  ·rw [if_neg (fun z=>e (q43.mp z))]
   rw [if_neg e] at hq
   exact hq
theorem sc_q29:FnScope ["self","floor","cell","other"] ["self","floor","cell","other"] (defScope s_q29):=⟨rfl,rfl,rfl,by decide +kernel,rfl,by decide +kernel,by decide +kernel⟩
set_option maxHeartbeats 4000000 in
theorem ok_q29 (F:FB K "fare" "Runner.fare" s_q29 ad.q29 ["self","floor","cell","other"]) (T:Txt K mg ad) (G_q39:Zn P w K mg base CX0 1 ad.q39 ["self","cell"] (z554 ad.C_Floor)) (G_q34:Zn P w K mg base CX0 1 ad.q34 ["self","cell"] (spSign ad.C_Floor)):Zn P w K mg base CX0 2 ad.q29 ["self","floor","cell","other"] (spFare ad.C_Floor 2):=by
 obtain⟨fd,F,B⟩:=F
 refine⟨fd,B,?_⟩
 refine F.ok sc_q29 (fun vs H Q E h=>?_) (fun cdv A outer s H vs Q E HR h=>?_)
 ·obtain⟨x,fl,w,h,sg,cell,other,rfl,_⟩:=h
  rfl
 ·obtain⟨x,fl,w,h,sg,cell,other,rfl,F0,g,c01,o01,hq⟩:=h
  have ND:=sc_q29.nd
  have HU0:=HR.units0
  have HU:=HR.units
  have hA:=HR.hd
  have hz:(100000:Nat)≤sizeLine:=by rw [sizeLine_eq];decide
  obtain⟨u_LANE,c_LANE,r_LANE⟩:=T.c_LANE
  refine⟨_,(pss_cons (ps_if (ptc op_eq (pmt (pvn 1 z119) T.cl_Floor T.m_q39 G_q39 HR (pac (pvn 2 z296) pa_nil)) (pmt (pvn 1 z119) T.cl_Floor T.m_q39 G_q39 HR (pac (pvn 3 z242) pa_nil)))
 (pss_one (ps_ret pe_int))
 pss_nil)
 (pss_cons (ps_if (ptc op_in_seq (pgl (v:=V.str (Str.ofString "|")) z447 c_LANE r_LANE) (pe_tup (pac (pmt (pvn 1 z119) T.cl_Floor T.m_q34 G_q34 HR (pac (pvn 2 z296) pa_nil)) (pac (pmt (pvn 1 z119) T.cl_Floor T.m_q34 G_q34 HR (pac (pvn 3 z242) pa_nil)) pa_nil))))
 (pss_one (ps_ret pe_int))
 pss_nil)
 (pss_one (ps_ret pe_non)))),?_⟩
  obtain⟨dx,l,h1,h2⟩:=id F0.ob
  have nr:(flds w h l sg).lookup ("row":Str)=none:=nofl (by decide +kernel) (by decide +kernel) (by decide +kernel) (by decide +kernel)
  have ns:(flds w h l sg).lookup ("sign":Str)=none:=nofl (by decide +kernel) (by decide +kernel) (by decide +kernel) (by decide +kernel)
  walk_at "RD"
  refine⟨_,_,h1,nr,fl,w,h,sg,cell,rfl,F0,g,_,_,h1,nr,fl,w,h,sg,other,rfl,F0,g,rfl,?_⟩
  simp only [fareOf] at hq
  by_cases e:cell / (w:Int)=other / (w:Int)
  ·rw [if_pos (congrArg V.int e)]
   rw [if_pos e] at hq
   exact hq _ (Same.refl _)
  ·rw [if_neg (fun z=>e (V.int.inj z))]
   rw [if_neg e] at hq
   refine⟨_,_,h1,ns,fl,w,h,sg,cell,rfl,F0,g,c01.1,c01.2,_,_,h1,ns,fl,w,h,sg,other,rfl,F0,g,o01.1,o01.2,?_⟩
   show 2≤sizeLine∧_
   refine⟨by omega,fun p hp=>⟨_,.inr (SqT.of upd_same),rfl,rfl,?_⟩⟩
   have e2:inV (V.str (Str.ofString "|")) [chr1 (at_ sg cell),chr1 (at_ sg other)]=decide (at_ sg cell=124∨at_ sg other=124):=by
    have q:∀ c:Nat,eqV (chr1 c) (V.str (Str.ofString "|"))=decide (c=124):=fun c=>by
     have e:eqV (chr1 c) (V.str (Str.ofString "|"))=((⟨#[c]⟩:Str) == Str.ofString "|"):=rfl
     rw [e,Bool.eq_iff_iff,beq_iff_eq,decide_eq_true_iff]
     exact⟨fun z=>q124.mp (congrArg V.str z),fun z=>V.str.inj (q124.mpr z)⟩
    simp only [inV,List.any_cons,List.any_nil,Bool.or_false]
    rw [q,q,Bool.decide_or]
   rw [e2]
   by_cases e3:at_ sg cell=124∨at_ sg other=124
   ·rw [if_pos (decide_eq_true e3)]
    rw [if_pos e3] at hq
    exact hq _ (zz0 hp)
   ·rw [if_neg (fun z=>e3 (of_decide_eq_true z))]
    rw [if_neg e3] at hq
    exact hq _ (zz0 hp)
theorem sc_q35:FnScope ["kind","full"] ["kind","full"] (defScope s_q35):=⟨rfl,rfl,rfl,by decide +kernel,rfl,by decide +kernel,by decide +kernel⟩
set_option maxHeartbeats 4000000 in
theorem ok_q35 {its:Array Value}(F:FBD K "carrier_of" "carrier_of" s_q35 ad.q35 its ["kind","full"]) (T:Txt K mg ad) (G_q46:Zn P w K mg base CX0 2 ad.q46 ["thing","least","most"] (z344 K)) (G_q14:Zn P w K mg base CX0 1 ad.q14 ["self","full"] (z437 ad)):Zn P w K mg base CX0 3 ad.q35 ["kind","full"] (spMake ad):=by
 obtain⟨fd,F,B⟩:=F
 refine⟨fd,B,?_⟩
 refine F.ok sc_q35 (fun vs H Q E h=>?_) (fun cdv A outer s H vs Q E HR h=>?_)
 ·obtain⟨i,x,n,rfl,_⟩:=h
  rfl
 ·obtain⟨i,x,n,rfl,i3,hi,n0,n1,hq⟩:=h
  have ND:=sc_q35.nd
  have HU0:=HR.units0
  have HU:=HR.units
  have hA:=HR.hd
  have hz:(100000:Nat)≤sizeLine:=by rw [sizeLine_eq];decide
  obtain⟨u_KINDS,c_KINDS,r_KINDS⟩:=T.c_KINDS
  obtain⟨u_MOST_FULL,c_MOST_FULL,r_MOST_FULL⟩:=T.c_MOST_FULL
  refine⟨_,(pss_cons (ps_if (PW.pt (pw_or (pt_not (pt_val (pcb z59 z212 T.b_isinstance PyProof.Rows.Boot.«isinstance» (pac (pvn 0 z150) (pac (pbl (v:=.ty "str") z516 T.b_str PyProof.Rows.Boot.«str» rfl) pa_nil))))) (pw_or1 (ptc op_notIn_seq (pvn 0 z150) (pgl (v:=.ref ad.K_KINDS) z372 c_KINDS r_KINDS)))))
 pss_never
 pss_nil)
 (pss_cons (ps_if (pt_not (pt_val (pcl G_q46 HR z519 T.mg_q46 T.k_q46 (pac (pvn 1 z145) (pac pe_int (pac (pgl (v:=V.int 60) z216 c_MOST_FULL r_MOST_FULL) pa_nil))))))
 pss_never
 pss_nil)
 (pss_cons (ps_if (ptc op_eq (pvn 0 z150) pe_str)
 (pss_one (ps_ret (pmk T.mk_Cart G_q14 HR z400 T.mg_Cart (pac (pvn 1 z145) pa_nil))))
 pss_nil)
 (pss_cons (ps_if (ptc op_eq (pvn 0 z150) pe_str)
 (pss_one (ps_ret (pmk T.mk_Crawler G_q14 HR z282 T.mg_Crawler (pac (pvn 1 z145) pa_nil))))
 pss_nil)
 (pss_one (ps_ret (pmk T.mk_Runner G_q14 HR z306 T.mg_Runner (pac (pvn 1 z145) pa_nil)))))))),?_⟩
  walk_at "RD"
  have hx:x∈kinds3:=by
   match i,hi,i3 with
   | 0,hi,_=>cases hi;decide +kernel
   | 1,hi,_=>cases hi;decide +kernel
   | 2,hi,_=>cases hi;decide +kernel
   | (i + 3),hi,i3=>omega
  refine⟨_,.str x,_,rfl,?_⟩
  rw [if_neg (by decide)]
  refine⟨_,.inr (T.kt_KINDS H),rfl,rfl,?_⟩
  rw [z611,decide_eq_true hx,if_neg (by decide)]
  refine⟨.int n,1,60,rfl,⟨_,.int n⟩,true,by simp [amg,n0,n1],?_⟩
  rw [if_neg (by decide)]
  have mk:∀ (p dx:Addr),H p=none→H dx=none→dx≠p→z437 ad [V.ref p,V.int n] (upd (upd H dx (HO.own p)) p (HO.ins (clsOf ad i) dx [])) (fun v H2=>v=V.non∧Q (V.ref p) H2) E0:=fun p dx np nd nn=>
   ⟨p,dx,n,i,rfl,upd_same,rfl,hq p _ (fun b o e=>by rw [upd_ne (ne_of_none e np),upd_ne (ne_of_none e np),upd_ne (ne_of_none e nd)];exact e) np ⟨dx,upd_same⟩⟩
  match i,hi,i3,mk with
  | 0,hi,_,mk=>cases hi;rw [if_pos rfl];exact mk
  | 1,hi,_,mk=>cases hi;rw [if_neg (by decide +kernel),if_pos rfl];exact mk
  | 2,hi,_,mk=>cases hi;rw [if_neg (by decide +kernel),if_neg (by decide +kernel)];exact mk
  | (i + 3),hi,i3,mk=>omega
theorem sc_q41:FnScope ["way"] ["way"] (defScope s_q41):=⟨rfl,rfl,rfl,by decide +kernel,rfl,by decide +kernel,by decide +kernel⟩
set_option maxHeartbeats 4000000 in
theorem ok_q41 (F:FB K "last_time" "last_time" s_q41 ad.q41 ["way"]) (T:Txt K mg ad):Zn P w K mg base CX0 1 ad.q41 ["way"] (spLast):=by
 obtain⟨fd,F,B⟩:=F
 refine⟨fd,B,?_⟩
 refine F.ok sc_q41 (fun vs H Q E h=>?_) (fun cdv A outer s H vs Q E HR h=>?_)
 ·obtain⟨v,b,cs,rfl,_⟩:=h
  rfl
 ·obtain⟨v,b,cs,rfl,hw,hq⟩:=h
  have ND:=sc_q41.nd
  have HU0:=HR.units0
  have HU:=HR.units
  have hA:=HR.hd
  have hz:(100000:Nat)≤sizeLine:=by rw [sizeLine_eq];decide
  refine⟨_,(pss_one (ps_ret (pe_op op_sub (pe_op op_add (pe_ix ix_tup (pvn 0 z356) pe_int (fun _ _=>rfl)) (pcb call_len_seq z511 T.b_len PyProof.Rows.Boot.«len» (pac (pe_ix ix_tup (pvn 0 z356) pe_int (fun _ _=>rfl)) pa_nil))) pe_int))),?_⟩
  obtain⟨p,q,rfl,h1,h2⟩:=hw
  walk_at "RD"
  exact⟨_,SqT.of h1,_,rfl,_,SqT.of h1,_,rfl,_,rfl,_,.inr (SqT.of h2),_,rfl,by rw [List.length_map];exact hq⟩
theorem sc_q47:FnScope ["way","time"] ["way","time"] (defScope s_q47):=⟨rfl,rfl,rfl,by decide +kernel,rfl,by decide +kernel,by decide +kernel⟩
set_option maxHeartbeats 4000000 in
theorem ok_q47 (F:FB K "index_at" "index_at" s_q47 ad.q47 ["way","time"]) (T:Txt K mg ad):Zn P w K mg base CX0 1 ad.q47 ["way","time"] (spIdx):=by
 obtain⟨fd,F,B⟩:=F
 refine⟨fd,B,?_⟩
 refine F.ok sc_q47 (fun vs H Q E h=>?_) (fun cdv A outer s H vs Q E HR h=>?_)
 ·obtain⟨v,b,cs,t,rfl,_⟩:=h
  rfl
 ·obtain⟨v,b,cs,t,rfl,hw,hq⟩:=h
  have ND:=sc_q47.nd
  have HU0:=HR.units0
  have HU:=HR.units
  have hA:=HR.hd
  have hz:(100000:Nat)≤sizeLine:=by rw [sizeLine_eq];decide
  refine⟨_,(pss_one (ps_ret (pcb (call_min2 rfl) z477 T.b_min PyProof.Rows.Boot.«min» (pac (pe_op op_sub (pvn 1 z436) (pe_ix ix_tup (pvn 0 z338) pe_int (fun _ _=>rfl))) (pac (pe_op op_sub (pcb call_len_seq z478 T.b_len PyProof.Rows.Boot.«len» (pac (pe_ix ix_tup (pvn 0 z338) pe_int (fun _ _=>rfl)) pa_nil)) pe_int) pa_nil))))),?_⟩
  obtain⟨p,q,rfl,h1,h2⟩:=hw
  walk_at "RD"
  exact⟨_,SqT.of h1,_,rfl,_,rfl,_,SqT.of h1,_,rfl,_,rfl,_,.inr (SqT.of h2),by rw [List.length_map];exact hq⟩
theorem sc_q48:FnScope ["way","time"] ["way","time"] (defScope s_q48):=⟨rfl,rfl,rfl,by decide +kernel,rfl,by decide +kernel,by decide +kernel⟩
set_option maxHeartbeats 4000000 in
theorem ok_q48 (F:FB K "place_at" "place_at" s_q48 ad.q48 ["way","time"]) (T:Txt K mg ad) (G_q47:Zn P w K mg base CX0 1 ad.q47 ["way","time"] (spIdx)):Zn P w K mg base CX0 2 ad.q48 ["way","time"] (z273):=by
 obtain⟨fd,F,B⟩:=F
 refine⟨fd,B,?_⟩
 refine F.ok sc_q48 (fun vs H Q E h=>?_) (fun cdv A outer s H vs Q E HR h=>?_)
 ·obtain⟨v,b,cs,t,rfl,_⟩:=h
  rfl
 ·obtain⟨v,b,cs,t,rfl,hw,hc,hq⟩:=h
  have ND:=sc_q48.nd
  have HU0:=HR.units0
  have HU:=HR.units
  have hA:=HR.hd
  have hz:(100000:Nat)≤sizeLine:=by rw [sizeLine_eq];decide
  refine⟨_,(pss_cons (ps_if (ptc op_lt (pvn 1 z276) (pe_ix ix_tup (pvn 0 z254) pe_int (fun _ _=>rfl)))
 (pss_one (ps_ret pe_non))
 pss_nil)
 (pss_one (ps_ret (pe_ix ix_tup (pe_ix ix_tup (pvn 0 z254) pe_int (fun _ _=>rfl)) (pcl G_q47 HR z475 T.mg_q47 T.k_q47 (pac (pvn 0 z254) (pac (pvn 1 z276) pa_nil))) (fun _ _=>rfl))))),?_⟩
  obtain⟨p,q,rfl,h1,h2⟩:=id hw
  walk_at "RD"
  refine⟨_,SqT.of h1,_,rfl,_,rfl,?_⟩
  unfold plc at hq
  split
  ·rename_i h
   rw [if_pos h] at hq
   exact hq
  ·rename_i h
   rw [if_neg h] at hq
   obtain⟨i0,i1⟩:=idx_in (b:=b) (cs:=cs) (t:=t) (by omega) hc
   exact⟨_,SqT.of h1,_,rfl,_,b,cs,t,rfl,hw,_,rfl,_,_,rfl,SqT.of h2,_,z442 i0 i1,hq⟩
theorem sc_q22:FnScope ["one","other","time","place","far"] ["one","other","time"] (defScope s_q22):=⟨rfl,rfl,rfl,by decide +kernel,rfl,by decide +kernel,by decide +kernel⟩
set_option maxHeartbeats 4000000 in
theorem ok_q22 (F:FB K "meeting_word" "meeting_word" s_q22 ad.q22 ["one","other","time"]) (T:Txt K mg ad) (G_q48:Zn P w K mg base CX0 2 ad.q48 ["way","time"] (z273)):Zn P w K mg base CX0 3 ad.q22 ["one","other","time"] (spWord):=by
 obtain⟨fd,F,B⟩:=F
 refine⟨fd,B,?_⟩
 refine F.ok sc_q22 (fun vs H Q E h=>?_) (fun cdv A outer s H vs Q E HR h=>?_)
 ·obtain⟨v,b,c,v',b',c',t,rfl,_⟩:=h
  rfl
 ·obtain⟨v,b,c,v',b',c',t,rfl,hw,hw',hc,hc',hq⟩:=h
  have ND:=sc_q22.nd
  have HU0:=HR.units0
  have HU:=HR.units
  have hA:=HR.hd
  have hz:(100000:Nat)≤sizeLine:=by rw [sizeLine_eq];decide
  refine⟨_,(pss_cons (pst 3 ND z159 (pcl G_q48 HR z181 T.mg_q48 T.k_q48 (pac (pvn 0 z346) (pac (pvn 2 z153) pa_nil))))
 (pss_cons (pst 4 ND z252 (pcl G_q48 HR z181 T.mg_q48 T.k_q48 (pac (pvn 1 z239) (pac (pvn 2 z153) pa_nil))))
 (pss_cons (ps_if (ptc op_eq (pvn 3 z159) (pvn 4 z252))
 (pss_one (ps_ret pe_str))
 pss_nil)
 (pss_cons (ps_if (PW.pt (pw_and (ptc op_eq (pcl G_q48 HR z181 T.mg_q48 T.k_q48 (pac (pvn 0 z346) (pac (pe_op op_add (pvn 2 z153) pe_int) pa_nil))) (pvn 4 z252)) (pw_and1 (ptc op_eq (pcl G_q48 HR z181 T.mg_q48 T.k_q48 (pac (pvn 1 z239) (pac (pe_op op_add (pvn 2 z153) pe_int) pa_nil))) (pvn 3 z159)))))
 (pss_one (ps_ret pe_str))
 pss_nil)
 (pss_one (ps_ret pe_non)))))),?_⟩
  have o1:=plc_or b c t
  have o2:=plc_or b' c' t
  have o3:=plc_or b c (t + 1)
  have o4:=plc_or b' c' (t + 1)
  unfold mtAt mw at hq
  walk_at "RD"
  refine⟨v,b,c,t,rfl,hw,hc,v',b',c',t,rfl,hw',hc',sc_plc o1 o2,?_⟩
  by_cases h:plc b c t=plc b' c' t
  ·rw [if_pos h] at hq ⊢
   exact hq
  ·rw [if_neg h] at hq ⊢
   refine⟨v,b,c,t + 1,rfl,hw,hc,sc_plc o3 o2,?_⟩
   by_cases h2:plc b c (t + 1)=plc b' c' t
   ·rw [if_pos h2]
    refine⟨v',b',c',t + 1,rfl,hw',hc',sc_plc o4 o1,?_⟩
    by_cases h3:plc b' c' (t + 1)=plc b c t
    ·rw [if_pos ⟨h2,h3⟩] at hq
     rw [if_pos h3]
     exact hq
    ·rw [if_neg (fun z=>h3 z.2)] at hq
     rw [if_neg h3]
     exact hq
   ·rw [if_neg (fun z=>h2 z.1)] at hq
    rw [if_neg h2]
    exact hq
theorem sc_q11:FnScope ["one","other","begin","end","time","word"] ["one","other"] (defScope s_q11):=⟨rfl,rfl,rfl,by decide +kernel,rfl,by decide +kernel,by decide +kernel⟩
set_option maxHeartbeats 4000000 in
theorem ok_q11 (F:FB K "first_meeting" "first_meeting" s_q11 ad.q11 ["one","other"]) (T:Txt K mg ad) (G_q41:Zn P w K mg base CX0 1 ad.q41 ["way"] (spLast)) (G_q22:Zn P w K mg base CX0 3 ad.q22 ["one","other","time"] (spWord)):Zn P w K mg base CX0 4 ad.q11 ["one","other"] (z551):=by
 obtain⟨fd,F,B⟩:=F
 refine⟨fd,B,?_⟩
 refine F.ok sc_q11 (fun vs H Q E h=>?_) (fun cdv A outer s H vs Q E HR h=>?_)
 ·obtain⟨v,b,c,v',b',c',rfl,_⟩:=h
  rfl
 ·obtain⟨v,b,c,v',b',c',rfl,hw,hw',g,g',hq⟩:=h
  have ND:=sc_q11.nd
  have HU0:=HR.units0
  have HU:=HR.units
  have hA:=HR.hd
  have hz:(100000:Nat)≤sizeLine:=by rw [sizeLine_eq];decide
  refine⟨_,(pss_cons (pst 2 ND z228 (pcb (call_max2 rfl) z354 T.b_max PyProof.Rows.Boot.«max» (pac (pe_ix ix_tup (pvn 0 z257) pe_int (fun _ _=>rfl)) (pac (pe_ix ix_tup (pvn 1 z158) pe_int (fun _ _=>rfl)) pa_nil))))
 (pss_cons (pst 3 ND z342 (pcb (call_max2 rfl) z354 T.b_max PyProof.Rows.Boot.«max» (pac (pcl G_q41 HR z329 T.mg_q41 T.k_q41 (pac (pvn 0 z257) pa_nil)) (pac (pcl G_q41 HR z329 T.mg_q41 T.k_q41 (pac (pvn 1 z158) pa_nil)) pa_nil))))
 (pss_cons (ps_for PassesOwn.never (calm0 rfl) (pi_range2 (gl_of z368) T.b_range (pac (pvn 2 z228) (pac (pe_op op_add (pvn 3 z342) pe_int) pa_nil)) (st2 rfl rfl) (st1 rfl)) (pgn 4 ND z187)
 (pss_cons (pst 5 ND z192 (pcl G_q22 HR z510 T.mg_q22 T.k_q22 (pac (pvn 0 z257) (pac (pvn 1 z158) (pac (pvn 4 z187) pa_nil)))))
 (pss_one (ps_if (ptc op_notN (pvn 5 z192) pe_non)
 (pss_one (ps_ret (pe_tup (pac (pvn 4 z187) (pac (pvn 5 z192) pa_nil)))))
 pss_nil))))
 (pss_one (ps_ret pe_non))))),?_⟩
  obtain⟨p,q,rfl,h1,h2⟩:=id hw
  obtain⟨p',q',rfl,h1',h2'⟩:=id hw'
  obtain⟨hc,hl,b0,b1⟩:=g
  obtain⟨hc',hl',b0',b1'⟩:=g'
  have lp:0 < c.length:=List.length_pos_iff.mpr hc
  have lp':0 < c'.length:=List.length_pos_iff.mpr hc'
  walk_at "RD"
  refine⟨_,SqT.of h1,_,rfl,_,SqT.of h1',_,rfl,_,rfl,_,rfl,_,b,c,rfl,hw,_,b',c',rfl,hw',_,rfl,_,rfl,?_⟩
  obtain⟨B,hB⟩:∃ B,B=(if b' > b then b' else b):=⟨_,rfl⟩
  obtain⟨e,he⟩:∃ e,e=(if b' + (c'.length:Int) - 1 > b + (c.length:Int) - 1 then b' + (c'.length:Int) - 1 else b + (c.length:Int) - 1):=⟨_,rfl⟩
  rw [← hB,← he]
  have B1:b≤B∧b'≤B∧B≤10 ^ 15∧(B=b∨B=b'):=by rw [hB];split <;> omega
  have e1:b + (c.length:Int) - 1≤e∧b' + (c'.length:Int) - 1≤e∧e≤10 ^ 15 + 1000:=by rw [he];split <;> omega
  refine⟨by omega,by omega,by omega,by omega,for_range (fun i σ H'=>∃ x y,H'=H∧σ=[some (V.ref p),some (V.ref p'),some (V.int B),some (V.int e),x,y]∧∀ j:Nat,j < i→mtAt b c b' c' (B + (j:Int))=none) ⟨none,none,rfl,rfl,fun j hj=>absurd hj (Nat.not_lt_zero j)⟩ ?_ ?_⟩
  ·rintro i σ H' hi ⟨x,y,rfl,rfl,hn⟩
   walk_at "RD"
   refine⟨_,b,c,_,b',c',B + (i:Int),rfl,hw,hw',hc,hc',?_⟩
   dsimp only
   cases hm:mtAt b c b' c' (B + (i:Int)) with
   | none=>
    rw [if_neg (by simp [wordV])]
    refine⟨rfl,fun j hj=>?_⟩
    rcases Nat.lt_succ_iff_lt_or_eq.mp hj with z | z
    ·exact hn j z
    ·rw [z];exact hm
   | some w=>
    rw [if_pos (by simp [wordV])]
    refine⟨by omega,fun r nr=>hq _ _ (some (B + (i:Int),w)) (zz0 nr) ⟨r,rfl,upd_same⟩ ⟨by omega,by omega,hm,fun t' g1 g2 g3=>?_⟩⟩
    have:=hn (t' - B).toNat (by omega)
    rw [show B + ((t' - B).toNat:Int)=t' by omega] at this
    exact this
  ·rintro σ H' ⟨x,y,rfl,rfl,hn⟩
   walk_at "RD"
   refine hq _ _ none (Same.refl _) rfl (First.none_of hc hc' (e:=e) e1.1 e1.2.1 fun t' g1 g2 g3=>?_)
   have:=hn (t' - B).toNat (by omega)
   rw [show B + ((t' - B).toNat:Int)=t' by omega] at this
   exact this
theorem sc_q42:FnScope ["self"] ["self"] (defScope s_q42):=⟨rfl,rfl,rfl,by decide +kernel,rfl,by decide +kernel,by decide +kernel⟩
set_option maxHeartbeats 4000000 in
theorem ok_q42 (F:FB K "__init__" "Book.__init__" s_q42 ad.q42 ["self"]) (T:Txt K mg ad):Zn P w K mg base CX0 1 ad.q42 ["self"] (z568 ad):=by
 obtain⟨fd,F,B⟩:=F
 refine⟨fd,B,?_⟩
 refine F.ok sc_q42 (fun vs H Q E h=>?_) (fun cdv A outer s H vs Q E HR h=>?_)
 ·obtain⟨p,dx,rfl,_⟩:=h
  rfl
 ·obtain⟨p,dx,rfl,hp,hq⟩:=h
  have ND:=sc_q42.nd
  have HU0:=HR.units0
  have HU:=HR.units
  have hA:=HR.hd
  have hz:(100000:Nat)≤sizeLine:=by rw [sizeLine_eq];decide
  refine⟨_,(pss_one (ps_fld (pvn 0 z453) pe_dnewK rfl)),?_⟩
  walk_at "RD"
  exact fun d nd=>⟨_,_,_,(zz0 nd) _ _ hp,T.cl_Book,T.n_Book_ways,by show 0 < 1000;decide,hq d nd⟩
theorem sc_q49:FnScope ["self","number","way","other"] ["self","number","way"] (defScope s_q49):=⟨rfl,rfl,rfl,by decide +kernel,rfl,by decide +kernel,by decide +kernel⟩
set_option maxHeartbeats 4000000 in
theorem ok_q49 (F:FB K "put" "Book.put" s_q49 ad.q49 ["self","number","way"]) (T:Txt K mg ad) (G_q23:Zn P w K mg base CX0 1 ad.q23 ["self"] (z333 ad)) (G_q11:Zn P w K mg base CX0 4 ad.q11 ["one","other"] (z551)) (G_q32:Zn P w K mg base (CXE P w) 1 ad.q32 ["self","other"] (z546 ad)):Zn P w K mg base (CXE P w) 5 ad.q49 ["self","number","way"] (spPut ad):=by
 obtain⟨fd,F,B⟩:=F
 refine⟨fd,B,?_⟩
 obtain⟨fd_q32,B_q32,GO_q32⟩:=G_q32
 refine F.okR sc_q49 (fun vs H Q E h=>?_) (fun cdv A outer s H vs Q E HR h=>?_)
 ·obtain⟨p,d,es,n,v,b,c,rfl,_⟩:=h
  rfl
 ·obtain⟨p,d,es,n,v,b,c,rfl,hb,en,hw,ty,hq⟩:=h
  have ND:=sc_q49.nd
  have HU0:=HR.units0
  have HU:=HR.units
  have hA:=HR.hd
  have hz:(100000:Nat)≤sizeLine:=by rw [sizeLine_eq];decide
  refine⟨_,(pss_cons (ps_for PassesOwn.leaving (calm0 rfl) (pi_list (pm0 (pvn 0 z211) T.cl_Book T.m_q23 G_q23 HR)) (pgn 3 ND z125)
 (pss_one (ps_if (PW.pt (pw_and (ptc op_ne (pvn 3 z125) (pvn 1 z207)) (pw_and1 (ptc op_notN (pcl G_q11 HR z525 T.mg_q11 T.k_q11 (pac (pvn 2 z337) (pac (pe_dget (hu1 HU) (pe_fld (pvn 0 z211) (by rfl)) (pvn 3 z125) (fun _ _=>rfl)) pa_nil))) pe_non))))
 (pss_one (z506 xd_fn rfl (gl_of z383) T.mg_Meets T.xi_Meets T.xf_Meets GO_q32 (HR.mono (by decide)) B_q32 .nil (pac (pvn 3 z125) pa_nil) (hdb:=z557) (he:=stp rfl) (hpl:=anp rfl)))
 pss_nil)))
 (pss_one (ps_dput (hu1 HU) (pe_fld (pvn 0 z211) (by rfl)) (pvn 1 z207) (pvn 2 z337) rfl))),?_⟩
  obtain⟨⟨dx,h1⟩,h2⟩:=id hb
  have el:=en.len
  have good:∀ {b:Int}{c:List Int},Tiny b c→Good b c:=fun h=>⟨h.1,by have:=h.2.1;omega,h.2.2.1,by have:=h.2.2.2;omega⟩
  walk_at "RD"
  refine⟨_,_,h1,w_no d (by decide +kernel),p,d,es,rfl,hb,by omega,fun l ms nl hp hs=>⟨l,rfl,⟨_,SqL.of upd_same⟩,for_list (xs:=ms.map V.int) (fun i σ H'=>∃ x,Same (upd H l (.lst (ms.map V.int))) H'∧σ=[some (V.ref p),some (V.int n),some v,x]∧∀ e∈es,e.k∈ms.take i→e.k≠n→¬ Mt b c e.b e.c) ⟨none,Same.refl _,rfl,fun e _ h=>by simp at h⟩ ?_ ?_ ?_⟩⟩
  ·rintro i σ H' hi ⟨x,s1,rfl,hn⟩
   exact SqL.of (s1 _ _ upd_same)
  ·rintro i x σ H' hi ⟨x0,s1,rfl,hn⟩
   obtain⟨k,hk,rfl⟩:∃ k,ms[i]?=some k∧V.int k=x:=by rw [List.getElem?_map] at hi;exact Option.map_eq_some_iff.mp hi
   obtain⟨e,he,ek⟩:=List.mem_map.mp (hp.mem_iff.mp (List.mem_iff_getElem?.mpr ⟨i,hk⟩))
   subst ek
   have s2:Same H H':=(zz0 nl).trans s1
   obtain⟨we,te,_⟩:=en.ok e he
   walk_at "RD"
   by_cases z:e.k=n
   ·rw [if_neg (by simp [z])]
    exact⟨s1,z359 hk hn fun e' _ y1 y2=>absurd (y1.trans z) y2⟩
   ·rw [if_pos z]
    refine⟨_,_,_,s2 _ _ h1,T.cl_Book,T.n_Book_ways,_,w_ways d,d,rfl,e.v,by rw [← z277 en.nd he];exact DGet.k (k:=.inl e.k) (s2 _ _ h2),v,b,c,e.v,e.b,e.c,rfl,hw.same s2,we.same s2,good ty,good te,fun r H2 o s3 hr hf=>?_⟩
    have s4:=s2.trans s3
    show (if ¬ r=V.non then _ else _)
    have uq:∀ e'∈es,e'.k=e.k→e'=e:=fun e' he' y=>z565 en.nd he he' y
    cases o with
    | none=>
     rw [if_neg (by simp [show r=V.non from hr])]
     refine⟨s1.trans s3,z359 hk hn fun e' he' y _ hm=>?_⟩
     rw [uq e' he' y] at hm
     exact absurd ((mt_iff hf).mp hm) (by simp)
    | some w=>
     obtain⟨t,w⟩:=w
     obtain⟨r',rfl,hr'⟩:=hr
     rw [if_pos (by simp)]
     have PI:=z622 hp hs hk he z ((mt_iff hf).mpr rfl) hn
     refine⟨by show 1≤sizeLine;omega,fun a fs sl na=>⟨a,e.k,fs,sl,rfl,upd_same,fun dx n1 n2=>⟨rfl,dx,upd_same,?_⟩⟩⟩
     have sd:Same H (del (upd (upd (upd H2 a (HO.ext (XObj a ad.C_Meets none fs sl))) dx (HO.xd (putF "other" (V.int e.k) []))) a (HO.ext (XObj a ad.C_Meets (some dx) fs sl))) a):=fun b' o' hb'=>by
      have q1:=s4 _ _ hb'
      have na':b'≠a:=ne_of_none q1 na
      have nd':b'≠dx:=fun y=>by rw [← y,upd_ne na',q1] at n1;cases n1
      rw [del_ne na',upd_ne na',upd_ne nd',upd_ne na']
      exact q1
     exact(hq _ sd).2 e.k dx PI (by rw [del_ne n2,upd_ne n2];exact upd_same)
  ·rintro σ H' ⟨x,s1,rfl,hn⟩
   have s2:Same H H':=(zz0 nl).trans s1
   rw [List.length_map] at hn
   walk_at "RD"
   refine⟨_,_,_,s2 _ _ h1,T.cl_Book,T.n_Book_ways,_,w_ways d,d,rfl,_,DPut.k (k:=.inl n) (s2 _ _ h2) (by rw [dw_len];omega),?_⟩
   rw [dw_put es ⟨n,v,b,c⟩]
   exact(hq H' s2).1 (z639 hp hn)
theorem sc_q23:FnScope ["self"] ["self"] (defScope s_q23):=⟨rfl,rfl,rfl,by decide +kernel,rfl,by decide +kernel,by decide +kernel⟩
set_option maxHeartbeats 4000000 in
theorem ok_q23 (F:FB K "numbers" "Book.numbers" s_q23 ad.q23 ["self"]) (T:Txt K mg ad):Zn P w K mg base CX0 1 ad.q23 ["self"] (z333 ad):=by
 obtain⟨fd,F,B⟩:=F
 refine⟨fd,B,?_⟩
 refine F.ok sc_q23 (fun vs H Q E h=>?_) (fun cdv A outer s H vs Q E HR h=>?_)
 ·obtain⟨p,d,es,rfl,_⟩:=h
  rfl
 ·obtain⟨p,d,es,rfl,hb,hl,hq⟩:=h
  have ND:=sc_q23.nd
  have HU0:=HR.units0
  have HU:=HR.units
  have hA:=HR.hd
  have hz:(100000:Nat)≤sizeLine:=by rw [sizeLine_eq];decide
  refine⟨_,(pss_one (ps_ret (pcb (z305 rfl) z323 T.b_sorted PyProof.Rows.Boot.«sorted» (pac (pe_fld (pvn 0 z458) (by rfl)) pa_nil)))),?_⟩
  obtain⟨⟨dx,h1⟩,h2⟩:=id hb
  walk_at "RD"
  exact⟨_,_,_,h1,T.cl_Book,T.n_Book_ways,_,w_ways d,d,rfl,kv es,.inl h2,by rw [kv_len];exact hl,fun ms hp hs l nl=>hq l ms nl (by rw [z650] at hp;exact hp) hs⟩
theorem sc_q24:FnScope ["self","number","time","places","way","later"] ["self","number","time"] (defScope s_q24):=⟨rfl,rfl,rfl,by decide +kernel,rfl,by decide +kernel,by decide +kernel⟩
set_option maxHeartbeats 4000000 in
theorem ok_q24 (F:FB K "comings" "Book.comings" s_q24 ad.q24 ["self","number","time"]) (T:Txt K mg ad) (G_q6:Zn P w K mg base CX0 1 ad.q6 ["self","number"] (z343 ad)) (G_q48:Zn P w K mg base CX0 2 ad.q48 ["way","time"] (z273)):Zn P w K mg base CX0 3 ad.q24 ["self","number","time"] (z341 ad):=by
 obtain⟨fd,F,B⟩:=F
 refine⟨fd,B,?_⟩
 refine F.ok sc_q24 (fun vs H Q E h=>?_) (fun cdv A outer s H vs Q E HR h=>?_)
 ·obtain⟨p,d,es,n,t,rfl,_⟩:=h
  rfl
 ·obtain⟨p,d,es,n,t,rfl,hb,hq⟩:=h
  have ND:=sc_q24.nd
  have HU0:=HR.units0
  have HU:=HR.units
  have hA:=HR.hd
  have hz:(100000:Nat)≤sizeLine:=by rw [sizeLine_eq];decide
  refine⟨_,(pss_cons (pst 3 ND z141 pe_dnewK)
 (pss_cons (ps_for PassesOwn.never (calm0 rfl) (pi_list (pmt (pvn 0 z428) T.cl_Book T.m_q6 G_q6 HR (pac (pvn 1 z320) pa_nil))) (pgn 4 ND z269)
 (pss_cons (pst 5 ND z167 (pcl G_q48 HR z355 T.mg_q48 T.k_q48 (pac (pvn 4 z269) (pac (pe_op op_add (pvn 2 z297) pe_int) pa_nil))))
 (pss_one (ps_if (ptc op_notN (pvn 5 z167) pe_non)
 (pss_one (ps_dput (hu1 HU) (pvn 3 z141) (pvn 5 z167) (pcl G_q48 HR z355 T.mg_q48 T.k_q48 (pac (pvn 4 z269) (pac (pvn 2 z297) pa_nil))) rfl))
 pss_nil))))
 (pss_one (ps_ret (pvn 3 z141))))),?_⟩
  obtain⟨⟨⟨dx,h1⟩,h2⟩,en⟩:=id hb
  have nt:∀ xs,H d≠some (.tup xs):=fun xs z=>by rw [h2] at z;cases z
  walk_at "RD"
  intro q nq
  have s1:=zz0 (o:=HO.dK []) nq
  have qd:q≠d:=(ne_of_none h2 nq).symm
  refine⟨_,_,s1 _ _ h1,w_no d (by decide +kernel),p,d,es,n,rfl,hb.same s1,fun l H1 nl s2 hl=>⟨l,rfl,⟨_,SqL.of hl⟩,for_list (xs:=(besd es n).map (·.v)) (fun i σ H'=>∃ (x y:Option V) (kvs:List (Key × V)),SameB q H1 H'∧H' q=some (.dK kvs)∧ComIs ((besd es n).take i) t kvs∧σ=[some (V.ref p),some (V.int n),some (V.int t),some (V.ref q),x,y]) ⟨none,none,[],same_b (Same.refl _),s2 _ _ upd_same,z630,rfl⟩ ?_ ?_ ?_⟩⟩
  ·rintro i σ H' _ ⟨x,y,kvs,sB,hq',hc,rfl⟩
   exact SqL.of (sB _ _ hl (ne_of hl (s2 _ _ upd_same) (by intro z;cases z)))
  ·rintro i x σ H' hx ⟨x0,y0,kvs,sB,hq',hc,rfl⟩
   rw [List.getElem?_map] at hx
   obtain⟨e,he,rfl⟩:=Option.map_eq_some_iff.mp hx
   have hm:=(z461.mp (List.mem_of_getElem? he)).1
   have wy:=WayAt.tups (sB.tups (fun xs z=>by rw [s2 _ _ upd_same] at z;cases z)) ((en.ok e hm).1.same (s1.trans s2))
   have cn:=(en.ok e hm).2.1.1
   have tk:(besd es n).take (i + 1)=(besd es n).take i++[e]:=by rw [List.take_add_one,he];rfl
   have kl:kvs.length≤50:=by
    have a1:=hc.len
    have a2:=(en.drop n).len
    rw [List.length_take] at a1
    unfold besd at a1
    omega
   rw [tk]
   walk_at "RD"
   refine⟨e.v,e.b,e.c,t + 1,rfl,wy,cn,?_⟩
   rcases plc_or e.b e.c (t + 1) with z | ⟨z0,z⟩
   ·rw [z,if_neg (by simp)]
    exact⟨sB,_,_,kvs,hq',z609 hc z,rfl,rfl⟩
   ·rw [z,if_pos (by simp)]
    exact⟨e.v,e.b,e.c,t,rfl,wy,cn,_,DPut.k (k:=.inl z0) hq' (by omega),z76 sB,_,_,_,upd_same,z640 hc z (fun j=>valV_put _ _ _ _) (by unfold putK;split <;> simp),rfl,rfl⟩
  ·rintro σ H' ⟨x,y,kvs,sB,hq',hc,rfl⟩
   rw [List.length_map,List.take_length] at hc
   walk_at "RD"
   exact hq q kvs H' nq (fun b o hb'=>sB _ _ ((s1.trans s2) b o hb') (ne_of_none hb' nq)) hq' hc
theorem sc_q6:FnScope ["self","number"] ["self","number"] (defScope s_q6):=⟨rfl,rfl,rfl,by decide +kernel,rfl,by decide +kernel,by decide +kernel⟩
set_option maxHeartbeats 4000000 in
theorem ok_q6 (F:FB K "ways_beside" "Book.ways_beside" s_q6 ad.q6 ["self","number"]) (T:Txt K mg ad):Zn P w K mg base CX0 1 ad.q6 ["self","number"] (z343 ad):=by
 obtain⟨fd,F,B⟩:=F
 refine⟨fd,B,?_⟩
 refine F.ok sc_q6 (fun vs H Q E h=>?_) (fun cdv A outer s H vs Q E HR h=>?_)
 ·obtain⟨p,d,es,n,rfl,_⟩:=h
  rfl
 ·obtain⟨p,d,es,n,rfl,hb,hq⟩:=h
  have ND:=sc_q6.nd
  have HU0:=HR.units0
  have HU:=HR.units
  have hA:=HR.hd
  have hz:(100000:Nat)≤sizeLine:=by rw [sizeLine_eq];decide
  refine⟨_,(pss_one (ps_ret (z579 (z213 (z8.of (osc:=defScope s_q6) (tn:=["other"]) (cn:=["self","number"]) (caps:=[0,1]) rfl rfl (by decide +kernel) (by decide +kernel) (by decide +kernel) (by decide +kernel) rfl) (calm0 rfl)  (z408 (pe_fld (pvn 0 z530) (by rfl)))
 (fun _ _ _ _ _=>(pg_name (i:=0) (show (["other","self","number"]:List Str).Nodup by decide +kernel) rfl (Or.inl rfl))) (fun _ _ _ _ _=>(z331 (ptc op_ne (pv 0) (pv 2)))) (fun _ _ _ _ _=>(pe_dget (hu1 HU) (z651 (K:=K) rfl (pv 1) (by rfl)) (pv 0) (fun _ _=>rfl))))))),?_⟩
  obtain⟨⟨⟨dx,h1⟩,h2⟩,en⟩:=id hb
  have nt:∀ xs,H d≠some (.tup xs):=fun xs z=>by rw [h2] at z;cases z
  have el:=en.len
  walk_at "RD"
  refine .inl ⟨d,dw es,h2,_,_,_,h1,T.cl_Book,T.n_Book_ways,_,w_ways d,d,rfl,dw es,.inl ⟨h2,fun o=>z123 (z482 upd_same) (neV n) (atV es) (fun y hy Q' hh=>?_) (fun y hy hn Q' hh=>?_) (by rw [List.length_map,dw_len];omega) (fun D nD=>?_)⟩⟩
  ·rw [z419] at hy
   obtain⟨e,he,rfl⟩:=List.mem_map.mp hy
   walk_at "RD"
   rw [show (!decide (e.k=n))=neV n (V.int e.k) by simp [neV]]
   exact hh
  ·rw [z419] at hy
   obtain⟨e,he,rfl⟩:=List.mem_map.mp hy
   walk_at "RD"
   rw [show atV es (.int e.k)=e.v by show (valV (dw es) (Sum.inl e.k)).getD .non=_;rw [z277 en.nd he];rfl] at hh
   exact⟨_,_,_,by rw [upd_ne (ne_of h1 h2 (by intro z;cases z))];exact h1,T.cl_Book,T.n_Book_ways,_,w_ways d,d,rfl,e.v,fz_get upd_same en.nd he,hh⟩
  ·have Dd:D≠d:=fun z=>by rw [z,upd_same] at nD;cases nD
   have nD0:H D=none:=by rw [upd_ne Dd] at nD;exact nD
   rw [z426 es n (atV es) (·.v) (fun e he=>by show (valV (dw es) (Sum.inl e.k)).getD .non=_;rw [z277 en.nd he];rfl)]
   refine⟨⟨o,by rw [upd_ne Dd.symm,upd_same]⟩,hq D _ nD0 (z263 h2 ((z76 (same_b (Same.refl _))).new nD)) (by rw [upd_ne Dd,upd_same])⟩
theorem sc_q4:FnScope ["self","number"] ["self","number"] (defScope s_q4):=⟨rfl,rfl,rfl,by decide +kernel,rfl,by decide +kernel,by decide +kernel⟩
set_option maxHeartbeats 4000000 in
theorem ok_q4 (F:FB K "check_number" "Book.check_number" s_q4 ad.q4 ["self","number"]) (T:Txt K mg ad) (G_q45:Zn P w K mg base CX0 1 ad.q45 ["thing"] (z454 K)):Zn P w K mg base (CXE P w) 2 ad.q4 ["self","number"] (z581 ad):=by
 obtain⟨fd,F,B⟩:=F
 refine⟨fd,B,?_⟩
 refine F.okR sc_q4 (fun vs H Q E h=>?_) (fun cdv A outer s H vs Q E HR h=>?_)
 ·obtain⟨p,d,es,n,rfl,_⟩:=h
  rfl
 ·obtain⟨p,d,es,n,rfl,hb,hq,he⟩:=h
  have ND:=sc_q4.nd
  have HU0:=HR.units0
  have HU:=HR.units
  have hA:=HR.hd
  have hz:(100000:Nat)≤sizeLine:=by rw [sizeLine_eq];decide
  refine⟨_,(pss_one (ps_if (PW.pt (pw_or (pt_not (pt_val (pcl G_q45 HR z588 T.mg_q45 T.k_q45 (pac (pvn 1 z233) pa_nil)))) (pw_or1 (pt_cmp (pc_dnotin (hu1 HU) (pvn 1 z233) (pe_fld (pvn 0 z485) (by rfl))) (by with_unfolding_all rfl)))))
 (pss_one (z572 xw_fn rfl (gl_of z264) T.mg_NoCarrier T.er_NoCarrier (pac pe_str pa_nil) (hdb:=z381) (he:=stp rfl) (hpl:=anp rfl)))
 pss_nil)),?_⟩
  obtain⟨⟨dx,h1⟩,h2⟩:=id hb
  walk_at "RD"
  refine⟨_,rfl,⟨_,.int n⟩,_,rfl,?_⟩
  rw [if_neg (by simp [isI])]
  refine⟨_,_,_,h1,T.cl_Book,T.n_Book_ways,_,w_ways d,d,rfl,_,DGet.k (k:=.inl n) h2,?_⟩
  by_cases z:∃ e∈es,e.k=n
  ·cases q:valV (dw es) (.inl n) with
   | none=>exact absurd (List.mem_map.mpr ⟨_,List.mem_map.mpr ⟨_,List.mem_map.mpr ⟨z.choose,z.choose_spec.1,rfl⟩,rfl⟩,by rw [z.choose_spec.2]⟩) (valV_not q)
   | some v=>
    rw [if_neg (by simp)]
    exact hq z
  ·have z':∀ e∈es,e.k≠n:=fun e he y=>z ⟨e,he,y⟩
   rw [z416 z',if_pos (by rfl)]
   exact⟨by omega,he z'⟩
theorem sc_q50:FnScope ["comings","cell","other"] ["comings","cell","other"] (defScope s_q50):=⟨rfl,rfl,rfl,by decide +kernel,rfl,by decide +kernel,by decide +kernel⟩
set_option maxHeartbeats 4000000 in
theorem ok_q50 (F:FB K "is_clear" "is_clear" s_q50 ad.q50 ["comings","cell","other"]) (T:Txt K mg ad):Zn P w K mg base CX0 1 ad.q50 ["comings","cell","other"] (z561):=by
 obtain⟨fd,F,B⟩:=F
 refine⟨fd,B,?_⟩
 refine F.ok sc_q50 (fun vs H Q E h=>?_) (fun cdv A outer s H vs Q E HR h=>?_)
 ·obtain⟨l,kvs,cell,other,rfl,_⟩:=h
  rfl
 ·obtain⟨l,kvs,cell,other,rfl,hl,hv,hq⟩:=h
  have ND:=sc_q50.nd
  have HU0:=HR.units0
  have HU:=HR.units
  have hA:=HR.hd
  have hz:(100000:Nat)≤sizeLine:=by rw [sizeLine_eq];decide
  refine⟨_,(pss_one (ps_ret (pe_and (pe_cmp (pc_dnotin (hu1 HU) (pvn 2 z235) (pvn 0 z171)) (by with_unfolding_all rfl)) (pe_one (pec (op_neD HU) (pe_dget1 (hu1 HU) (pvn 0 z171) (pvn 1 z421) ⟨rfl,rfl,rfl,rfl⟩) (pvn 2 z235)))))),?_⟩
  have dg:∀ z:Int,DGet H l (.int z) (valV kvs (.inl z)):=fun z=>DGet.k (k:=.inl z) hl
  walk_at "RD"
  refine⟨_,dg other,?_⟩
  cases h1:valV kvs (.inl other) with
  | some x=>
   rw [if_neg (by simp)]
   exact hq false (by rw [h1];simp)
  | none=>
   rw [if_pos (by rfl)]
   refine⟨.inl ⟨_,.inl hl⟩,_,dg cell,?_⟩
   have oi:(valV kvs (.inl cell)).getD .non=.non∨∃ i,(valV kvs (.inl cell)).getD .non=.int i:=by
    cases h2:valV kvs (.inl cell) with
    | none=>exact .inl rfl
    | some v=>exact hv cell v h2
   rcases oi with e | ⟨i,e⟩ <;> rw [e]
   ·refine⟨_,.non,_,.int other,rfl,rfl,?_⟩
    exact hq true (by rw [h1,e];simp)
   ·refine⟨_,.int i,_,.int other,rfl,rfl,?_⟩
    have:(!PyData.eqv (.int i) (.int other))=decide (i≠other):=by show (!(i == other))=_;by_cases z:i=other <;> simp [z]
    rw [this]
    exact hq _ (by rw [h1,e];simp)
theorem sc_q43:FnScope ["stops","many","cell","met"] ["stops","many","cell"] (defScope s_q43):=⟨rfl,rfl,rfl,by decide +kernel,rfl,by decide +kernel,by decide +kernel⟩
set_option maxHeartbeats 4000000 in
theorem ok_q43 (F:FB K "stops_met" "stops_met" s_q43 ad.q43 ["stops","many","cell"]) (T:Txt K mg ad):Zn P w K mg base CX0 1 ad.q43 ["stops","many","cell"] (spMet K):=by
 obtain⟨fd,F,B⟩:=F
 refine⟨fd,B,?_⟩
 refine F.ok sc_q43 (fun vs H Q E h=>?_) (fun cdv A outer s H vs Q E HR h=>?_)
 ·obtain⟨a,xs,m,c,rfl,_⟩:=h
  rfl
 ·obtain⟨a,xs,m,c,rfl,hS,hm,hx,hq⟩:=h
  have ND:=sc_q43.nd
  have HU0:=HR.units0
  have HU:=HR.units
  have hA:=HR.hd
  have hz:(100000:Nat)≤sizeLine:=by rw [sizeLine_eq];decide
  refine⟨_,(pss_cons (pst 3 ND z151 (pvn 1 z433))
 (pss_cons (ps_while PassesOwn.never (PW.pt (pw_and (ptc op_lt (pvn 3 z151) (pcb call_len_seq z495 T.b_len PyProof.Rows.Boot.«len» (pac (pvn 0 z245) pa_nil))) (pw_and1 (ptc op_eq (pe_ix ix_list (pvn 0 z245) (pvn 3 z151) (fun _ _=>rfl)) (pvn 2 z396)))))
 (pss_one (pag 3 ND z151 pe_int ip_add)))
 (pss_one (ps_ret (pvn 3 z151))))),?_⟩
  walk_at "RD"
  refine⟨fun k σ H'=>∃ j:Nat,k=xs.length - j∧j≤xs.length∧met xs j c=met xs m c∧H'=H∧σ=[some (V.ref a),some (V.int (m:Int)),some (V.int c),some (V.int (j:Int))],⟨_,m,rfl,hm,rfl,rfl,rfl⟩,?_⟩
  rintro k σ H' ⟨j,rfl,hj,e,rfl,rfl⟩
  walk_at "RD"
  refine⟨_,.inl hS,?_⟩
  rw [List.length_map]
  by_cases h:(j:Int) < (xs.length:Int)
  ·rw [if_pos h]
   obtain⟨x,hx'⟩:∃ x,xs[j]?=some x:=⟨_,List.getElem?_eq_getElem (by omega)⟩
   refine⟨_,hS,V.int x,atI_nat (by rw [List.getElem?_map,hx'];rfl),rfl,?_⟩
   by_cases hc:x=c
   ·subst hc
    rw [if_pos rfl]
    refine⟨fun σ' H1=>H1=H'∧σ'=[some (V.ref a),some (V.int (m:Int)),some (V.int x),some (V.int ((j:Int) + 1))],fun σ' H1 ⟨e1,e2⟩=>⟨xs.length - (j + 1),by omega,j + 1,rfl,by omega,(z441 hx').symm.trans e,e1,e2⟩,rfl,rfl⟩
   ·rw [if_neg (fun z=>hc (V.int.inj z))]
    rw [← e,z431 hx' hc] at hq
    exact hq
  ·rw [if_neg h]
   rw [← e,z558 (by omega)] at hq
   exact hq
theorem sc_q30:FnScope ["stops","start","charge"] ["stops","start","charge"] (defScope s_q30):=⟨rfl,rfl,rfl,by decide +kernel,rfl,by decide +kernel,by decide +kernel⟩
set_option maxHeartbeats 4000000 in
theorem ok_q30 (F:FB K "first_layer" "first_layer" s_q30 ad.q30 ["stops","start","charge"]) (T:Txt K mg ad) (G_q43:Zn P w K mg base CX0 1 ad.q43 ["stops","many","cell"] (spMet K)):Zn P w K mg base CX0 2 ad.q30 ["stops","start","charge"] (z473 K):=by
 obtain⟨fd,F,B⟩:=F
 refine⟨fd,B,?_⟩
 refine F.ok sc_q30 (fun vs H Q E h=>?_) (fun cdv A outer s H vs Q E HR h=>?_)
 ·obtain⟨a,xs,st,ch,rfl,_⟩:=h
  rfl
 ·obtain⟨a,xs,st,ch,rfl,hS,hx,hq⟩:=h
  have ND:=sc_q30.nd
  have HU0:=HR.units0
  have HU:=HR.units
  have hA:=HR.hd
  have hz:(100000:Nat)≤sizeLine:=by rw [sizeLine_eq];decide
  refine⟨_,(pss_one (ps_ret (z509 (hu1 HU) (pe_tup (pac (pcl G_q43 HR z524 T.mg_q43 T.k_q43 (pac (pvn 0 z369) (pac pe_int (pac (pvn 1 z244) pa_nil)))) (pac (pvn 1 z244) pa_nil))) (pvn 2 z312)))),?_⟩
  walk_at "RD"
  intro p hp
  refine⟨a,xs,0,st,rfl,Same.seq (zz0 hp) hS,Nat.zero_le _,hx,by omega,fun t ht=>?_⟩
  have npt:p≠t:=fun z=>by rw [← z,upd_same] at ht;cases ht
  refine⟨by rw [upd_ne npt,upd_same],[.inl (met xs 0 st:Nat),.inl st],upd_same,hq p _ (fun b o e=>?_) hp upd_same⟩
  rw [upd_ne (ne_of_none e hp)]
  exact(zz0 ht) _ _ ((zz0 hp) _ _ e)
theorem sc_q36:FnScope ["floor","carrier","book","number","stops","time","layer"] ["floor","carrier","book","number","stops","time","layer"] (defScope s_q36):=⟨rfl,rfl,rfl,by decide +kernel,rfl,by decide +kernel,by decide +kernel⟩
set_option maxHeartbeats 4000000 in
theorem ok_q36 (F:FB K "next_layer" "next_layer" s_q36 ad.q36 ["floor","carrier","book","number","stops","time","layer"]) (T:Txt K mg ad) (G_q31:Zn P w K mg base CX0 1 ad.q31 ["self","floor","carrier","book","number","stops"] (z350 ad)) (G_q1:Zn P w K mg base CX0 8 ad.q1 ["self","time","layer"] (z424 ad K)):Zn P w K mg base CX0 10 ad.q36 ["floor","carrier","book","number","stops","time","layer"] (spNext ad K):=by
 obtain⟨fd,F,B⟩:=F
 refine⟨fd,B,?_⟩
 refine F.ok sc_q36 (fun vs H Q E h=>?_) (fun cdv A outer s H vs Q E HR h=>?_)
 ·obtain⟨fl,mv,bk,sl,ly,d,i,num,n,t,w,h,sg,st,es,lkvs,rfl,_⟩:=h
  rfl
 ·obtain⟨fl,mv,bk,sl,ly,d,i,num,n,t,w,h,sg,st,es,lkvs,rfl,hc,i3,F0,g,hS,sl1,bka,ap,n0,hly,lo,hq⟩:=h
  have ND:=sc_q36.nd
  have HU0:=HR.units0
  have HU:=HR.units
  have hA:=HR.hd
  have hz:(100000:Nat)≤sizeLine:=by rw [sizeLine_eq];decide
  refine⟨_,(pss_one (ps_ret (pmt (pmk T.mk_Spread G_q31 HR z324 T.mg_Spread (pac (pvn 0 z365) (pac (pvn 1 z295) (pac (pvn 2 z445) (pac (pvn 3 z311) (pac (pvn 4 z374) pa_nil)))))) T.cl_Spread T.m_q1 G_q1 HR (pac (pvn 5 z410) (pac (pvn 6 z380) pa_nil))))),?_⟩
  walk_at "RD"
  intro x dx nx nd nn
  have s0:Same H (upd (upd H dx (HO.own x)) x (HO.ins ad.C_Spread dx [])):=fun b o e=>by rw [upd_ne (ne_of_none e nx),upd_ne (ne_of_none e nd)];exact e
  refine⟨x,dx,fl,mv,bk,sl,num,rfl,upd_same,fun kn H1 nk0 sp hk so=>⟨rfl,?_⟩⟩
  have s1:Same H H1:=fun b o e=>so b o (s0 _ _ e) (ne_of_none e nx)
  obtain⟨dz,h3⟩:=id sp
  have nkn:H kn=none:=s0.free nk0
  have lyk:ly≠kn:=ne_of_none hly nkn
  refine⟨_,_,h3,p_no _ (by decide +kernel),x,ly,d,⟨fl,mv,bk,num,sl,kn⟩,i,n,t,w,h,sg,st,es,lkvs,rfl,⟨sp,hc.same s1,i3,F0.same s1,g,s1.seq hS,sl1,⟨[],hk,List.nodup_nil,z348,fun m c v z=>(by cases z)⟩⟩,bka.same s1,ap,n0,s1 _ _ hly,lo,lyk,fun r H2 sB kn2 nr hr=>?_⟩
  exact hq r H2 (fun b o e=>sB _ _ (s1 _ _ e) (ne_of_none e nkn)) (s1.free nr) hr
theorem sc_q31:FnScope ["self","floor","carrier","book","number","stops"] ["self","floor","carrier","book","number","stops"] (defScope s_q31):=⟨rfl,rfl,rfl,by decide +kernel,rfl,by decide +kernel,by decide +kernel⟩
set_option maxHeartbeats 4000000 in
theorem ok_q31 (F:FB K "__init__" "Spread.__init__" s_q31 ad.q31 ["self","floor","carrier","book","number","stops"]) (T:Txt K mg ad):Zn P w K mg base CX0 1 ad.q31 ["self","floor","carrier","book","number","stops"] (z350 ad):=by
 obtain⟨fd,F,B⟩:=F
 refine⟨fd,B,?_⟩
 refine F.ok sc_q31 (fun vs H Q E h=>?_) (fun cdv A outer s H vs Q E HR h=>?_)
 ·obtain⟨p,dx,fl,mv,bk,sl,n,rfl,_⟩:=h
  rfl
 ·obtain⟨p,dx,fl,mv,bk,sl,n,rfl,hp,hq⟩:=h
  have ND:=sc_q31.nd
  have HU0:=HR.units0
  have HU:=HR.units
  have hA:=HR.hd
  have hz:(100000:Nat)≤sizeLine:=by rw [sizeLine_eq];decide
  refine⟨_,(pss_cons (ps_fld (pvn 0 z86) (pvn 1 z378) rfl)
 (pss_cons (ps_fld (pvn 0 z86) (pvn 2 z302) rfl)
 (pss_cons (ps_fld (pvn 0 z86) (pvn 3 z450) rfl)
 (pss_cons (ps_fld (pvn 0 z86) (pvn 4 z313) rfl)
 (pss_cons (ps_fld (pvn 0 z86) (pvn 5 z386) rfl)
 (pss_one (ps_fld (pvn 0 z86) pe_dnewT rfl))))))),?_⟩
  walk_at "RD"
  refine⟨_,_,_,hp,T.cl_Spread,T.n_Spread_floor,by show 0 < 1000;decide,_,_,_,upd_same,T.cl_Spread,T.n_Spread_mover,by show 1 < 1000;decide,_,_,_,upd_same,T.cl_Spread,T.n_Spread_booked,by show 2 < 1000;decide,_,_,_,upd_same,T.cl_Spread,T.n_Spread_number,by show 3 < 1000;decide,_,_,_,upd_same,T.cl_Spread,T.n_Spread_stops,by show 4 < 1000;decide,fun kn nn=>?_⟩
  have np:kn≠p:=fun z=>by rw [z,upd_same] at nn;cases nn
  refine⟨_,_,_,by rw [upd_ne np.symm,upd_same],T.cl_Spread,T.n_Spread_known,by show 5 < 1000;decide,?_⟩
  rw [upd_ne np,upd_ne np,upd_ne np,upd_ne np,upd_ne np] at nn
  refine hq kn _ nn ⟨dx,upd_same⟩ (by rw [upd_ne np,upd_same]) fun b o hb nb=>?_
  rw [upd_ne nb,upd_ne (ne_of_none hb nn),upd_ne nb,upd_ne nb,upd_ne nb,upd_ne nb,upd_ne nb]
  exact hb
theorem sc_q1:FnScope ["self","time","layer","comings","behind","node","other","charge"] ["self","time","layer"] (defScope s_q1):=⟨rfl,rfl,rfl,by decide +kernel,rfl,by decide +kernel,by decide +kernel⟩
set_option maxHeartbeats 4000000 in
theorem ok_q1 (F:FB K "layer_behind" "Spread.layer_behind" s_q1 ad.q1 ["self","time","layer"]) (T:Txt K mg ad) (G_q24:Zn P w K mg base CX0 3 ad.q24 ["self","number","time"] (z341 ad)) (G_q8:Zn P w K mg base CX0 7 ad.q8 ["self","comings","node","charge"] (z328 ad K)):Zn P w K mg base CX0 8 ad.q1 ["self","time","layer"] (z424 ad K):=by
 obtain⟨fd,F,B⟩:=F
 refine⟨fd,B,?_⟩
 refine F.ok sc_q1 (fun vs H Q E h=>?_) (fun cdv A outer s H vs Q E HR h=>?_)
 ·obtain⟨p,ly,d,S,i,n,t,w,h,sg,st,es,lkvs,rfl,_⟩:=h
  rfl
 ·obtain⟨p,ly,d,S,i,n,t,w,h,sg,st,es,lkvs,rfl,o,bk,ap,n0,hly,lo,nkn,hq⟩:=h
  have ND:=sc_q1.nd
  have HU0:=HR.units0
  have HU:=HR.units
  have hA:=HR.hd
  have hz:(100000:Nat)≤sizeLine:=by rw [sizeLine_eq];decide
  refine⟨_,(pss_cons (pst 3 ND z190 (pmt (pe_fld (pvn 0 z251) (by rfl)) T.cl_Book T.m_q24 G_q24 HR (pac (pe_fld (pvn 0 z251) (by rfl)) (pac (pvn 1 z528) pa_nil))))
 (pss_cons (pst 4 ND z129 pe_dnewT)
 (pss_cons (z644 (ps_for PassesOwn.never (calm0 rfl) (z589 (pvn 2 z290)) (pgn 5 ND z268)
 (pss_one (ps_for PassesOwn.never (calm0 rfl) (pi_list (pmt (pvn 0 z251) T.cl_Spread T.m_q8 G_q8 HR (pac (pvn 3 z190) (pac (pvn 5 z268) (pac (pe_dget (hu1 HU) (pvn 2 z290) (pvn 5 z268) (fun _ _=>rfl)) pa_nil))))) (pg_tup (n:=2) (calm0 rfl) (pgs_cons (pgn 6 ND z201) (pgs_cons (pgn 7 ND z164) pgs_nil)))
 (pss_one (ps_if (ptc op_gt (pvn 7 z164) (pe_dget2 (hu1 HU) (pvn 4 z129) (pvn 6 z201) (pe_un un_neg pe_int) ⟨rfl,rfl,rfl,rfl⟩))
 (pss_one (ps_dput (hu1 HU) (pvn 4 z129) (pvn 6 z201) (pvn 7 z164) rfl))
 pss_nil))))))
 (pss_one (ps_ret (pvn 4 z129)))))),?_⟩
  obtain⟨dx,h1⟩:=id o.sp
  obtain⟨kvs0,k1,_⟩:=id o.kno
  obtain⟨⟨⟨db,hbk⟩,hdb⟩,en⟩:=id bk
  have l100:=len100 o.g
  have st1:=o.st1
  refine zz1 (fun σ H'=>∃ (cm:Addr) (kvs:List (Key × V)),H cm=none∧Same H H'∧H' cm=some (.dK kvs)∧ComIs (besd es S.n) t kvs∧σ=[some (V.ref p),some (V.int t),some (V.ref ly),some (V.ref cm),none,none,none,none]) (fun nx hk=>?_) ?_
  ·walk_at "RD"
   exact⟨_,_,_,h1,T.cl_Spread,T.n_Spread_booked,_,z570 S,S.bk,rfl,_,_,hbk,w_no d (by decide +kernel),_,_,_,h1,T.cl_Spread,T.n_Spread_number,_,z592 S,S.bk,d,es,S.n,t,rfl,bk,fun l kvs H' nl s hl hc=>hk _ _ ⟨l,kvs,nl,s,hl,hc,rfl⟩⟩
  rintro σ H1 ⟨cm,kvs,ncm,s1,hcm,hcom,rfl⟩
  have opq:∀ cell other,clr kvs cell other=opn (besd es S.n) t cell other:=fun cell other=>clr_eq hcom (ap.sub fun x hx=>(z461.mp hx).1) (en.drop S.n).nd
  have opq':clr kvs=opn (besd es S.n) t:=funext fun c=>funext fun o=>opq c o
  have hvk:∀ (z:Int) v,valV kvs (.inl z)=some v→v=.non∨∃ i,v=.int i:=fun z v hz=>by
   obtain⟨e,_,_,he⟩:=hcom.from' z v hz
   rw [← he]
   exact plc_or _ _ _
  refine zz1 (fun σ H'=>∃ bh,H bh=none∧bh≠cm∧Same H H'∧H' cm=some (.dK kvs)∧H' bh=some (.dT [])∧σ=[some (V.ref p),some (V.int t),some (V.ref ly),some (V.ref cm),some (V.ref bh),none,none,none]) (fun nx hk=>?_) ?_
  ·walk_at "RD"
   exact fun bh nbh=>hk _ _ ⟨bh,s1.free nbh,(ne_of_none hcm nbh).symm,s1.trans (zz0 nbh),(zz0 nbh) _ _ hcm,upd_same,rfl⟩
  rintro σ H2 ⟨bh,nbh,nbc,s2,hcm2,hbh2,rfl⟩
  have nkb:S.kn≠bh:=ne_of_none k1 nbh
  have nlb:ly≠bh:=ne_of_none hly nbh
  refine zz1 (fun σ H'=>∃ x y z,SameB S.kn H H'∧z46 H' S.kn i w sg st∧H' bh=some (.dT (spread (reachOf (opn (besd es S.n) t) i w sg st n) lkvs))∧σ=[some (V.ref p),some (V.int t),some (V.ref ly),some (V.ref cm),some (V.ref bh),x,y,z]) (fun nx hk=>?_) ?_
  ·walk_at "RD"
   have o2:=o.same s2
   have hly2:=s2 _ _ hly
   refine⟨ly,lkvs,hly2,lkvs,hly2,fun oo=>z391 (fun j σ H'=>∃ x y z,(∀ b' o',H2 b'=some o'→b'≠S.kn→b'≠bh→b'≠ly→H' b'=some o')∧SpOk ad K H' p S i n w h sg st∧H' ly=some (.frz oo (.dT lkvs))∧H' bh=some (.dT (spread (reachOf (clr kvs) i w sg st n) (lkvs.take j)))∧σ=[some (V.ref p),some (V.int t),some (V.ref ly),some (V.ref cm),some (V.ref bh),x,y,z]) ⟨none,none,none,fun b' o' hb' _ _ nl=>by rw [upd_ne nl];exact hb',o2.other hly2 nkn.symm (z76 (same_b (Same.refl _))),upd_same,by rw [upd_ne nlb.symm];exact hbh2,rfl⟩ (fun j σ H' _ ⟨_,_,_,_,_,e,_⟩=>e) ?_ ?_⟩
   ·rintro j k v b σ H' N0 hkv hb ⟨x,y,z,A1,A2,A3,A4,rfl⟩ hN0
    have hmem:=List.mem_of_getElem? hkv
    obtain⟨m,c,q,ekv,hm,hc,q0⟩:=lo.ok _ hmem
    cases ekv
    obtain⟨d3,h3⟩:=id A2.sp
    have hcm':H' cm=some (.dK kvs):=A1 _ _ hcm2 (ne_of_none k1 ncm).symm nbc.symm (ne_of_none hly ncm).symm
    walk_at "RD"
    refine⟨_,_,h3,p_no S (by decide +kernel),.int q,.inr ⟨lkvs,nk m c,b,.inr ⟨oo,A3⟩,rfl,hb,(val_in lo.nd hmem).symm⟩,p,b,cm,S,i,n,w,h,sg,st,m,c,q,kvs,rfl,A2,hb,hm,hc,hcm',hvk,fun r H3 sB3 kn3 nr3 nl3=>?_⟩
    obtain⟨ts,hr3,pr3⟩:=nl3
    obtain⟨kv',k1',_⟩:=id A2.kno
    have o3:=A2.b sB3 kn3
    have hb3:=sB3 _ _ A4 nkb.symm
    have hly3:=sB3 _ _ A3 (ne_of A3 k1' (by intro z;cases z))
    have tab:=z280 (f:=reachOf (clr kvs) i w sg st n) (lo.take j) (fun m c q a1 a2 a3=>z155 o.g a1 a2 n0 a3)
    have rws:=z155 (op:=clr kvs) (i:=i) (n:=n) (q:=q) o.g hm hc n0 q0
    have nrb:r≠bh:=fun z=>by rw [z,A4] at nr3;cases nr3
    refine⟨r,rfl,⟨_,SqL.of hr3⟩,z127 (K:=K) (a:=r) (xs:=ts.map V.ref) (fun l σ H''=>∃ y z,SameB bh H3 H''∧H'' bh=some (.dT (((reachOf (clr kvs) i w sg st n m c q).take l).foldl addP (spread (reachOf (clr kvs) i w sg st n) (lkvs.take j))))∧σ=[some (V.ref p),some (V.int t),some (V.ref ly),some (V.ref cm),some (V.ref bh),some (V.ref b),y,z]) ⟨y,z,same_b (Same.refl _),hb3,rfl⟩ (fun l σ H'' _ ⟨_,_,sB,_⟩=>SqL.of (sB _ _ hr3 nrb)) ?_ ?_⟩
    ·rintro l v σ H'' N hv' ⟨y,z,sB,hb',rfl⟩ hN
     rw [List.getElem?_map] at hv'
     obtain⟨u,hu,rfl⟩:=Option.map_eq_some_iff.mp hv'
     obtain⟨e,e1,bb,e2,e3⟩:=Paired.at1 pr3 hu
     have tp5:Tups H3 H'':=sB.tups (fun xs z=>by rw [hb3] at z;cases z)
     have tk:(reachOf (clr kvs) i w sg st n m c q).take (l + 1)=(reachOf (clr kvs) i w sg st n m c q).take l++[e]:=by rw [List.take_add_one,e1];rfl
     have tab2:=tab.fold (ps:=(reachOf (clr kvs) i w sg st n m c q).take l) fun x hx=>rws x (List.mem_of_mem_take hx)
     have tl:=z261 tab2.nu.nd tab2.ni st1 l100.2
     rw [tk,List.foldl_append] at hN
     walk_at "RD"
     have e3':=tp5 _ _ e3
     refine⟨_,SqT.of (tp5 _ _ e2),rfl,_,_,rfl,_,_,rfl,rfl,.inr ⟨_,.inl hb'⟩,_,DGet.t hb' e3',e.2,rfl,_,z548 tab2.nu,?_⟩
     split
     ·rename_i lt
      refine⟨_,DPut.t hb' e3' (by omega),hN _ _ ⟨_,_,z76 sB,?_,rfl⟩⟩
      rw [upd_same]
      show _=some (HO.dT (addP _ e))
      rw [z449 lt]
     ·rename_i lt
      refine hN _ _ ⟨_,_,sB,?_,rfl⟩
      show _=some (HO.dT (addP _ e))
      rw [z577 lt]
      exact hb'
    ·rintro σ H'' ⟨y,z,sB,hb',rfl⟩
     rw [List.length_map,Paired.length pr3,List.take_length,← z367 hkv] at hb'
     exact hN0 _ _ ⟨_,_,_,fun b' o' hb2 n1 n2 n3=>sB _ _ (sB3 _ _ (A1 _ _ hb2 n1 n2 n3) n1) n2,o3.other hb3 nkb sB,sB _ _ hly3 nlb,hb',rfl⟩
   ·rintro σ H' ⟨x,y,z,A1,A2,A3,A4,rfl⟩
    rw [List.take_length,opq'] at A4
    have A5:SpOk ad K (upd H' ly (.dT lkvs)) p S i n w h sg st:=A2.oth A3 tab_f nkn.symm (z76 (same_b (Same.refl _)))
    exact⟨⟨oo,A3⟩,hk _ _ ⟨x,y,z,fun b' o' hb' nb=>by
     by_cases e:b'=ly
     ·rw [e] at hb' ⊢
      rw [hly] at hb'
      cases hb'
      exact upd_same
     ·rw [upd_ne e]
      exact A1 _ _ (s2 _ _ hb') nb (ne_of_none hb' nbh) e,A5.kno,by rw [upd_ne nlb.symm];exact A4,rfl⟩⟩
  rintro σ H3 ⟨x,y,z,sB,kn,hb3,rfl⟩
  walk_at "RD"
  exact hq bh H3 sB kn nbh hb3
theorem sc_q8:FnScope ["self","comings","node","charge","cell","pairs","other","cost"] ["self","comings","node","charge"] (defScope s_q8):=⟨rfl,rfl,rfl,by decide +kernel,rfl,by decide +kernel,by decide +kernel⟩
set_option maxHeartbeats 4000000 in
theorem ok_q8 (F:FB K "reached" "Spread.reached" s_q8 ad.q8 ["self","comings","node","charge"]) (T:Txt K mg ad) (G_q5:Zn P w K mg base CX0 6 ad.q5 ["self","node"] (z247 ad K)) (G_q9:Zn P w K mg base CX0 2 ad.q9 ["self","node","cell"] (z319 ad K)) (G_q50:Zn P w K mg base CX0 1 ad.q50 ["comings","cell","other"] (z561)) (G_q7:Zn P w K mg base CX0 2 ad.q7 ["self","sign","charge"] (z304 ad)) (G_q34:Zn P w K mg base CX0 1 ad.q34 ["self","cell"] (spSign ad.C_Floor)):Zn P w K mg base CX0 7 ad.q8 ["self","comings","node","charge"] (z328 ad K):=by
 obtain⟨fd,F,B⟩:=F
 refine⟨fd,B,?_⟩
 refine F.ok sc_q8 (fun vs H Q E h=>?_) (fun cdv A outer s H vs Q E HR h=>?_)
 ·obtain⟨p,b,cm,S,i,n,w,h,sg,st,m,c,q,kvs,rfl,_⟩:=h
  rfl
 ·obtain⟨p,b,cm,S,i,n,w,h,sg,st,m,c,q,kvs,rfl,o,hb,hm,hc,hcm,hv,hq⟩:=h
  have ND:=sc_q8.nd
  have HU0:=HR.units0
  have HU:=HR.units
  have hA:=HR.hd
  have hz:(100000:Nat)≤sizeLine:=by rw [sizeLine_eq];decide
  refine⟨_,(pss_cons (pst 4 ND z122 (pe_ix ix_tup (pvn 2 z259) pe_int (fun _ _=>rfl)))
 (pss_cons (pst 5 ND z152 (pe_lst pa_nil))
 (pss_cons (ps_if (pt_val (pcl G_q50 HR z397 T.mg_q50 T.k_q50 (pac (pvn 1 z189) (pac (pvn 4 z122) (pac (pvn 4 z122) pa_nil)))))
 (pss_one (ps_expr (pe_bm PySem.F.plainAttrs_list PySem.F.slot_list_append PySem.F.type_list_append mt_append (pvn 5 z152) (pac (pe_tup (pac (pmt (pvn 0 z182) T.cl_Spread T.m_q9 G_q9 HR (pac (pvn 2 z259) (pac (pvn 4 z122) pa_nil))) (pac (z106 (k:=2) (pe_fld (pvn 0 z182) (by rfl)) (dcn T.cl_Cart T.m_Cart_stayed G_q7 (dcn T.cl_Crawler T.m_Crawler_stayed G_q7 (dcn T.cl_Runner T.m_Runner_stayed G_q7 (dcn T.cl_Carrier T.m_q7 G_q7 z117)))) (HR.mono (by decide)) (pac (pmt (pe_fld (pvn 0 z182) (by rfl)) T.cl_Floor T.m_q34 G_q34 HR (pac (pvn 4 z122) pa_nil)) (pac (pvn 3 z161) pa_nil)) (hst:=stp rfl) (hpl:=anp rfl)) pa_nil))) pa_nil))))
 pss_nil)
 (pss_cons (ps_for PassesOwn.never (calm0 rfl) (pi_list (pmt (pvn 0 z182) T.cl_Spread T.m_q5 G_q5 HR (pac (pvn 2 z259) pa_nil))) (pg_tup (n:=2) (calm0 rfl) (pgs_cons (pgn 6 ND z194) (pgs_cons (pgn 7 ND z260) pgs_nil)))
 (pss_one (ps_if (PW.pt (pw_and (ptc op_le (pvn 7 z260) (pvn 3 z161)) (pw_and1 (pt_val (pcl G_q50 HR z397 T.mg_q50 T.k_q50 (pac (pvn 1 z189) (pac (pvn 4 z122) (pac (pe_ix ix_tup (pvn 6 z194) pe_int (fun _ _=>rfl)) pa_nil))))))))
 (pss_one (ps_expr (pe_bm PySem.F.plainAttrs_list PySem.F.slot_list_append PySem.F.type_list_append mt_append (pvn 5 z152) (pac (pe_tup (pac (pvn 6 z194) (pac (pe_op op_sub (pvn 3 z161) (pvn 7 z260)) pa_nil))) pa_nil))))
 pss_nil)))
 (pss_one (ps_ret (pvn 5 z152))))))),?_⟩
  obtain⟨dx,h1⟩:=id o.sp
  obtain⟨dy,h2⟩:=id o.car
  obtain⟨kvs0,k1,k2,k3,k4⟩:=id o.kno
  have l100:=len100 o.g
  have st1:=o.st1
  refine zz1 (fun σ H'=>H'=H∧σ=[some (V.ref p),some (V.ref cm),some (V.ref b),some (V.int q),some (V.int c),none,none,none]) (fun nx hk=>?_) ?_
  ·walk_at "RD"
   exact⟨_,SqT.of hb,_,rfl,hk _ _ ⟨rfl,rfl⟩⟩
  rintro σ H1 ⟨rfl,rfl⟩
  refine zz1 (fun σ H'=>∃ r,H1 r=none∧Same H1 H'∧H' r=some (.lst [])∧σ=[some (V.ref p),some (V.ref cm),some (V.ref b),some (V.int q),some (V.int c),some (V.ref r),none,none]) (fun nx hk=>?_) ?_
  ·walk_at "RD"
   exact⟨by omega,fun r nr=>hk _ _ ⟨r,nr,zz0 nr,upd_same,rfl⟩⟩
  rintro σ H2 ⟨r,nr,s2,hr2,rfl⟩
  have clb:∀ {cell other:Int}{bb:Bool},(bb=true↔(valV kvs (.inl other)=none∧(valV kvs (.inl cell)).getD .non≠.int other))→bb=clr kvs cell other:=fun hbb=>Bool.eq_iff_iff.mpr (hbb.trans z542.symm)
  refine zz1 (fun σ H'=>Same H1 H'∧NodesL H' r (if clr kvs c c=true then [(nk (met st m c) c,min (q + gainOf i (at_ sg c)) n)] else [])∧σ=[some (V.ref p),some (V.ref cm),some (V.ref b),some (V.int q),some (V.int c),some (V.ref r),none,none]) (fun nx hk=>?_) ?_
  ·walk_at "RD"
   refine⟨cm,kvs,c,c,rfl,s2 _ _ hcm,hv,fun bb hbb=>⟨bb,rfl,?_⟩⟩
   have eb:=clb hbb
   cases hz:clr kvs c c with
   | false=>
    rw [eb,hz,if_neg (by decide)]
    exact hk _ _ ⟨s2,by rw [hz,if_neg (by decide)];exact⟨[],hr2,.nil⟩,rfl⟩
   | true=>
    rw [eb,hz,if_pos rfl]
    have o2:=o.same s2
    obtain⟨dz,lz,f1,f2⟩:=id o.flo.ob
    have nsg:(flds w h lz sg).lookup ("sign":Str)=none:=nofl (by decide +kernel) (by decide +kernel) (by decide +kernel) (by decide +kernel)
    have nsy:(putF "full" (V.int n) []).lookup ("stayed":Str)=none:=l_no n (by decide +kernel)
    refine⟨.inl ⟨rfl,_,SqL.of hr2⟩,_,_,s2 _ _ h1,p_no S (by decide +kernel),p,b,S,m,c,c,st,rfl,o2.sp,s2 _ _ hb,o2.sto,hm,st1,fun u nu=>?_⟩
    have s3:=s2.trans (zz0 (o:=HO.tup ((nk (met st m c) c).map kV)) nu)
    have o3:=o.same s3
    refine⟨_,_,_,s3 _ _ h1,T.cl_Spread,T.n_Spread_mover,_,z559 S,S.mv,dy,_,(clsOf ad i,z304 ad),e_al4 i o.i3,rfl,s3 _ _ h2,nsy,_,_,_,s3 _ _ h1,T.cl_Spread,T.n_Spread_floor,_,z537 S,S.fl,rfl,_,_,s3 _ _ f1,nsg,S.fl,w,h,sg,c,rfl,o3.flo,o.g,hc.1,hc.2,S.mv,i,n,at_ sg c,q,rfl,o3.car,o.i3,by omega,fun v nv=>?_⟩
    have hr3:=(zz0 (o:=HO.tup [V.ref u,V.int (min (q + gainOf i (at_ sg c)) n)]) nv) _ _ ((zz0 (o:=HO.tup ((nk (met st m c) c).map kV)) nu) _ _ hr2)
    refine⟨_,hr3,by show 0 < sizeLine;omega,hk _ _ ⟨z52 (s3.trans (zz0 nv)) nr,?_,rfl⟩⟩
    rw [hz,if_pos rfl]
    have nvr:v≠r:=fun z=>by rw [z,(zz0 (o:=HO.tup ((nk (met st m c) c).map kV)) nu) _ _ hr2] at nv;cases nv
    have nur:u≠r:=fun z=>by rw [z,hr2] at nu;cases nu
    exact⟨[v],upd_same,.cons ⟨u,by rw [upd_ne nvr,upd_same],by rw [upd_ne nur];exact(zz0 nv) _ _ upd_same⟩ .nil⟩
  rintro σ H3 ⟨s3,nl3,rfl⟩
  have o3:=o.same s3
  obtain⟨d3,h3⟩:=id o3.sp
  have nrk:r≠S.kn:=fun z=>by rw [z,k1] at nr;cases nr
  refine zz1 (fun σ H'=>∃ x y,SameB S.kn H1 H'∧z46 H' S.kn i w sg st∧NodesL H' r (reachOf (clr kvs) i w sg st n m c q)∧σ=[some (V.ref p),some (V.ref cm),some (V.ref b),some (V.int q),some (V.int c),some (V.ref r),x,y]) (fun nx hk=>?_) ?_
  ·walk_at "RD"
   refine⟨_,_,h3,p_no S (by decide +kernel),p,b,S,i,n,w,h,sg,st,m,c,rfl,o3,s3 _ _ hb,hm,hc,fun l H4 sB4 kn4 kno4 nl4=>?_⟩
   obtain⟨ts,hl4,pr4⟩:=nl4
   obtain⟨us3,hr3,pu3⟩:=id nl3
   obtain⟨kn5,nlr⟩:=kno4 r (o.kno.no nr s3) (by rw [hr3];exact fun z=>nomatch z)
   have tp4:Tups H3 H4:=sB4.tups (fun xs z=>by rw [s3 _ _ k1] at z;cases z)
   have hr4:=sB4 _ _ hr3 nrk
   have lno:(z30 i w sg st m c).length≤4:=by
    unfold z30 z170
    rw [List.length_map]
    have a1:=z327 (f:=costOf i w sg c) (os:=v2 w sg c)
    have a2:=z107 (w:=w) (sg:=sg) (c:=c)
    omega
   have lts:=Paired.length pr4
   refine⟨l,rfl,⟨_,SqL.of hl4⟩,z127 (K:=K) (a:=l) (xs:=ts.map V.ref) (fun j σ H'=>∃ x y,SameB r H4 H'∧NodesL H' r ((if clr kvs c c=true then [(nk (met st m c) c,min (q + gainOf i (at_ sg c)) n)] else [])++((z30 i w sg st m c).take j).filterMap (fitP (clr kvs) c q))∧σ=[some (V.ref p),some (V.ref cm),some (V.ref b),some (V.int q),some (V.int c),some (V.ref r),x,y]) ⟨none,none,same_b (Same.refl _),by rw [List.take_zero,List.filterMap_nil,List.append_nil];exact nl3.keep tp4 (fun _ z=>sB4 _ _ z nrk),rfl⟩ (fun j σ H' _ ⟨_,_,sB,_⟩=>SqL.of (sB _ _ hl4 nlr)) ?_ ?_⟩
   ·rintro j v σ H' N hv' ⟨x,y,sB,nl,rfl⟩ hN
    rw [List.getElem?_map] at hv'
    obtain⟨t,ht,rfl⟩:=Option.map_eq_some_iff.mp hv'
    obtain⟨e,e1,bb,e2,e3⟩:=Paired.at1 pr4 ht
    have tp5:Tups H4 H':=sB.tups (fun xs z=>by rw [hr4] at z;cases z)
    obtain⟨m',o',ek,em,eo,eb⟩:=z287 o.g hm e (List.mem_of_getElem? e1)
    have tk:(z30 i w sg st m c).take (j + 1)=(z30 i w sg st m c).take j++[e]:=by rw [List.take_add_one,e1];rfl
    have e3':=tp5 _ _ e3
    rw [ek] at e3'
    have hcm':H' cm=some (.dK kvs):=sB _ _ (sB4 _ _ (s3 _ _ hcm) (ne_of hcm k1 (by intro z;cases z))) (ne_of_none hcm nr)
    rw [tk,List.filterMap_append] at hN
    walk_at "RD"
    refine⟨_,SqT.of (tp5 _ _ e2),rfl,_,_,rfl,_,_,rfl,rfl,e.2,rfl,?_⟩
    obtain⟨us,hr',pu⟩:=id nl
    have lus:us.length≤9:=by
     have a1:=Paired.length pu
     rw [List.length_append] at a1
     have a2:=List.length_filterMap_le (fitP (clr kvs) c q) ((z30 i w sg st m c).take j)
     rw [List.length_take] at a2
     have a3:(if clr kvs c c=true then [(nk (met st m c) c,min (q + gainOf i (at_ sg c)) n)] else []).length≤1:=by split <;> simp
     omega
    by_cases a1:e.2≤q
    ·rw [if_pos a1]
     refine⟨bb,rfl,_,SqT.of e3',_,rfl,cm,kvs,c,o',rfl,hcm',hv,fun z hz=>⟨z,rfl,?_⟩⟩
     rw [clb hz]
     have ec:cellK e.1=o':=by rw [ek];rfl
     cases hz2:clr kvs c o' with
     | false=>
      rw [if_neg (by decide)]
      refine hN _ _ ⟨_,_,sB,?_,rfl⟩
      rw [z398 (f:=fitP (clr kvs) c q) (if_neg (by rw [ec,hz2];simp)),List.append_nil]
      exact nl
     | true=>
      rw [if_pos rfl]
      refine⟨.inl ⟨rfl,_,SqL.of hr'⟩,e.2,rfl,by omega,fun u nu=>⟨_,(zz0 nu) _ _ hr',by rw [List.length_map];omega,?_⟩⟩
      have nur:u≠r:=fun z=>by rw [z,hr'] at nu;cases nu
      refine hN _ _ ⟨_,_,z76 (sB.new nu),?_,rfl⟩
      rw [z550 (f:=fitP (clr kvs) c q) (if_pos ⟨a1,by rw [ec,hz2]⟩)]
      refine⟨us++[u],by rw [upd_same];simp,?_⟩
      rw [← List.append_assoc]
      have tp6:Tups H' (upd (upd H' u (HO.tup [V.ref bb,V.int (q - e.2)])) r (HO.lst (us.map V.ref++[V.ref u]))):=fun b' xs z=>by
       rw [upd_ne (ne_of z hr' (by intro z;cases z))]
       exact(zz0 nu) _ _ z
      exact Paired.snoc (Paired.mapP pu fun _ _ z=>z.tups tp6) ⟨bb,by rw [upd_ne nur,upd_same],by show _=some (HO.tup (e.1.map kV));rw [ek];exact tp6 _ _ e3'⟩
    ·rw [if_neg a1]
     refine hN _ _ ⟨_,_,sB,?_,rfl⟩
     rw [z398 (f:=fitP (clr kvs) c q) (if_neg (fun z=>a1 z.1)),List.append_nil]
     exact nl
   ·rintro σ H' ⟨x,y,sB,nl,rfl⟩
    rw [List.length_map,lts,List.take_length] at nl
    exact hk _ _ ⟨x,y,fun b' o' hb' nb=>sB _ _ (sB4 _ _ (s3 _ _ hb') nb) (ne_of_none hb' nr),kn4.but kn5 hr4 sB,nl,rfl⟩
  rintro σ H4 ⟨x,y,sB4,kn4,nl4,rfl⟩
  walk_at "RD"
  exact hq r H4 sB4 kn4 nr nl4
theorem sc_q5:FnScope ["self","node","steps"] ["self","node"] (defScope s_q5):=⟨rfl,rfl,rfl,by decide +kernel,rfl,by decide +kernel,by decide +kernel⟩
set_option maxHeartbeats 4000000 in
theorem ok_q5 (F:FB K "steps_from" "Spread.steps_from" s_q5 ad.q5 ["self","node"]) (T:Txt K mg ad) (G_q9:Zn P w K mg base CX0 2 ad.q9 ["self","node","cell"] (z319 ad K)) (G_q10:Zn P w K mg base CX0 5 ad.q10 ["self","floor","cell"] (z404 ad)):Zn P w K mg base CX0 6 ad.q5 ["self","node"] (z247 ad K):=by
 obtain⟨fd,F,B⟩:=F
 refine⟨fd,B,?_⟩
 refine F.ok sc_q5 (fun vs H Q E h=>?_) (fun cdv A outer s H vs Q E HR h=>?_)
 ·obtain⟨p,b,S,i,n,w,h,sg,st,m,c,rfl,_⟩:=h
  rfl
 ·obtain⟨p,b,S,i,n,w,h,sg,st,m,c,rfl,o,hb,hm,hc,hq⟩:=h
  have ND:=sc_q5.nd
  have HU0:=HR.units0
  have HU:=HR.units
  have hA:=HR.hd
  have hz:(100000:Nat)≤sizeLine:=by rw [sizeLine_eq];decide
  refine⟨_,(pss_cons (ps_if (pt_cmp (pc_dnotin (hu1 HU) (pvn 1 z180) (pe_fld (pvn 0 z149) (by rfl))) (by with_unfolding_all rfl))
 (pss_cons (pst 2 ND z291 (z106 (k:=5) (pe_fld (pvn 0 z149) (by rfl)) (dcn T.cl_Cart T.m_Cart_steps G_q10 (dcn T.cl_Crawler T.m_Crawler_steps G_q10 (dcn T.cl_Runner T.m_Runner_steps G_q10 (dcn T.cl_Carrier T.m_q10 G_q10 z117)))) (HR.mono (by decide)) (pac (pe_fld (pvn 0 z149) (by rfl)) (pac (pe_ix ix_tup (pvn 1 z180) pe_int (fun _ _=>rfl)) pa_nil)) (hst:=stp rfl) (hpl:=anp rfl)))
 (pss_one (ps_dput (hu1 HU) (pe_fld (pvn 0 z149) (by rfl)) (pvn 1 z180) (z213 (z8.of (osc:=defScope s_q5) (tn:=["other","cost"]) (cn:=["node","self"]) (caps:=[1,0]) rfl rfl (by decide +kernel) (by decide +kernel) (by decide +kernel) (by decide +kernel) rfl) (calm0 rfl)  (pi_list (pvn 2 z291))
 (fun _ _ _ _ _=>(z580 rfl (calm0 rfl) (show (["other","cost","node","self"]:List Str).Nodup by decide +kernel) (Or.inl rfl) (Or.inl rfl) rfl rfl)) (fun _ _ _ _ _=>z246) (fun _ _ _ _ _=>(pe_tup (pac (pmt (pv 3) T.cl_Spread T.m_q9 G_q9 HR (pac (pv 2) (pac (pv 0) pa_nil))) (pac (pv 1) pa_nil))))) rfl)))
 pss_nil)
 (pss_one (ps_ret (pe_dget (hu1 HU) (pe_fld (pvn 0 z149) (by rfl)) (pvn 1 z180) (fun _ _=>rfl))))),?_⟩
  obtain⟨dx,h1⟩:=id o.sp
  obtain⟨dy,h2⟩:=id o.car
  obtain⟨kvs,k1,k2,k3,k4⟩:=id o.kno
  have l100:=len100 o.g
  have st1:=o.st1
  have kl:=z261 k2 k3 o.st1 l100.2
  have dg:∀ {H':Hp}{kv:List (List Key × V)},H' S.kn=some (.dT kv)→H' b=some (.tup ((nk m c).map kV))→DGet H' S.kn (.ref b) (valV kv (nk m c)):=fun e1 e2=>DGet.t e1 e2
  refine zz1 (fun σ H'=>∃ (x:Option V) (kv:List (List Key × V)) (l:Addr),SameB S.kn H H'∧z46 H' S.kn i w sg st∧(∀ z,z237 H S.kn z→H z≠none→z237 H' S.kn z∧l≠z)∧NodesL H' l (z30 i w sg st m c)∧H' S.kn=some (.dT kv)∧valV kv (nk m c)=some (.ref l)∧σ=[some (V.ref p),some (V.ref b),x]) (fun nx hk=>?_) ?_
  ·walk_at "RD"
   refine⟨_,_,_,h1,T.cl_Spread,T.n_Spread_known,_,z468 S,_,rfl,_,dg k1 hb,?_⟩
   cases hv:valV kvs (nk m c) with
   | some v=>
    rw [if_neg (by simp)]
    obtain⟨l,rfl,q⟩:=k4 m c v hv
    exact hk _ _ ⟨none,kvs,l,same_b (Same.refl _),o.kno,fun z hz _=>⟨hz,hz kvs _ l k1 hv⟩,q,k1,hv,rfl⟩
   | none=>
    rw [if_pos (by rfl)]
    have nst:(putF "full" (V.int n) []).lookup ("steps":Str)=none:=l_no n (by decide +kernel)
    refine⟨_,_,_,h1,T.cl_Spread,T.n_Spread_mover,_,z559 S,S.mv,dy,_,(clsOf ad i,z404 ad),e_al4 i o.i3,rfl,h2,nst,_,_,_,h1,T.cl_Spread,T.n_Spread_floor,_,z537 S,_,SqT.of hb,_,rfl,S.mv,S.fl,i,n,w,h,sg,c,rfl,o.car,o.i3,o.flo,o.g,hc,fun r0 H1 nr0 s1 pl=>?_⟩
    obtain⟨ts,hr0,pr⟩:=pl
    have lts:=Paired.length pr
    have lst:=z327 (f:=costOf i w sg c) (os:=v2 w sg c)
    have lbe:=z107 (w:=w) (sg:=sg) (c:=c)
    have l4:ts.length≤4:=by unfold z170 at lts;omega
    have gp:∀ j,j < ts.length→∃ t e,ts[j]?=some t∧(z170 i w sg c)[j]?=some e∧PairAt H1 t e:=fun j hj=>by
     obtain⟨e,e1,e2⟩:=Paired.at1 pr (List.getElem?_eq_getElem hj)
     exact⟨_,e,List.getElem?_eq_getElem hj,e1,e2⟩
    refine⟨r0,rfl,⟨_,SqL.of hr0⟩,z395 (K:=K) (a:=r0) (ts:=ts) (u:=fun j=>.int ((z170 i w sg c).getD j (0,0)).1) (v:=fun j=>.int ((z170 i w sg c).getD j (0,0)).2) (fun j ys H'=>Same H1 H'∧∃ us:List Addr,ys=us.map V.ref∧Paired (NodeAt H') us ((z30 i w sg st m c).take j)) ⟨Same.refl _,[],rfl,.nil⟩ (fun j ys H' _ ⟨s2,_⟩=>SqL.of (s2 _ _ hr0)) (fun j ys H' t ht ⟨s2,_⟩=>?_) (fun j ys H' hj ⟨s2,us,e,pu⟩=>?_) (fun ys H' ⟨s2,us,e,pu⟩=>?_)⟩
    ·obtain⟨t',e',e1,e2,e3⟩:=gp j (List.getElem?_eq_some_iff.mp ht).1
     rw [ht] at e1
     cases e1
     refine SqT.of ?_
     rw [List.getD_eq_getElem?_getD,e2]
     exact s2 _ _ e3
    ·obtain⟨t',e',e1,e2,e3⟩:=gp j hj
     rw [List.getD_eq_getElem?_getD,e2]
     subst e
     have o2:=(o.same s1).same s2
     obtain⟨dz,h3⟩:=id o2.sp
     have lu:us.length≤4:=by
      have:=Paired.length pu
      rw [List.length_take] at this
      omega
     walk_at "RD"
     refine⟨_,_,h3,p_no S (by decide +kernel),p,b,S,m,c,e'.1,st,rfl,o2.sp,s2 _ _ (s1 _ _ hb),o2.sto,hm,st1,fun u nu=>⟨by omega,fun v nv=>⟨by rw [List.length_map];omega,s2.trans ((zz0 nu).trans (zz0 nv)),us++[v],by simp,?_⟩⟩⟩
     have ek:(z30 i w sg st m c).take (j + 1)=(z30 i w sg st m c).take j++[(nk (met st m e'.1) e'.1,e'.2)]:=by
      rw [List.take_add_one]
      unfold z30
      rw [List.getElem?_map,e2]
      rfl
     rw [ek]
     exact Paired.snoc (Paired.mapP pu fun _ _ z=>z.tups (z206 ((zz0 nu).trans (zz0 nv)))) ⟨u,upd_same,(zz0 nv) _ _ upd_same⟩
    ·subst e
     have ln:(z30 i w sg st m c).length=ts.length:=by unfold z30;rw [List.length_map,lts]
     rw [← ln,List.take_length] at pu
     have lu:=Paired.length pu
     refine⟨by rw [List.length_map];omega,fun D nD=>?_⟩
     have s12:=s1.trans s2
     have sD:=s12.trans (zz0 (o:=HO.lst (us.map V.ref)) nD)
     obtain⟨dz,h3⟩:=(o.same sD).sp
     have kD:=sD _ _ k1
     have nDk:D≠S.kn:=fun z=>by rw [z,s12 _ _ k1] at nD;cases nD
     have tpD:Tups (upd H' D (HO.lst (us.map V.ref))) (upd (upd H' D (HO.lst (us.map V.ref))) S.kn (.dT (putK kvs (nk m c) (.ref D)))):=fun b' xs z=>by rw [upd_ne (ne_of z kD (by intro z;cases z))];exact z
     have nlD:NodesL (upd (upd H' D (HO.lst (us.map V.ref))) S.kn (.dT (putK kvs (nk m c) (.ref D)))) D (z30 i w sg st m c):=⟨us,by rw [upd_ne nDk,upd_same],Paired.mapP pu fun _ _ z=>(z.tups (z206 (zz0 nD))).tups tpD⟩
     refine⟨_,_,_,h3,T.cl_Spread,T.n_Spread_known,_,z468 S,_,rfl,_,DPut.t (k:=nk m c) kD (sD _ _ hb) (by omega),hk _ _ ⟨_,putK kvs (nk m c) (.ref D),D,z76 (same_b sD),⟨_,upd_same,nd_put k2,z535 k3 hm hc.1 hc.2,fun m' c' v hv'=>?_⟩,fun z hz hn=>⟨fun kv k l e1 e2=>?_,fun y=>hn (y ▸ s12.free nD)⟩,nlD,upd_same,by rw [valV_put,if_pos rfl],rfl⟩⟩
     ·rw [valV_put] at hv'
      split at hv'
      ·rename_i e
       obtain⟨rfl,rfl⟩:=nk_inj e
       cases hv'
       exact⟨D,rfl,nlD⟩
      ·obtain⟨l,rfl,q⟩:=k4 m' c' v hv'
       exact⟨l,rfl,(q.keep (z206 sD) (fun _ y=>sD _ _ y)).keep tpD fun _ y=>by rw [upd_ne (ne_of y kD (by intro z;cases z))];exact y⟩
     ·rw [upd_same] at e1
      cases e1
      rw [valV_put] at e2
      split at e2
      ·cases e2
       exact fun y=>hn (y ▸ s12.free nD)
      ·exact hz kvs k l k1 e2
  rintro σ H1 ⟨x,kv,l,sB,kn,kno,nl,e1,e2,rfl⟩
  obtain⟨dz,h3⟩:=(o.b sB kn).sp
  walk_at "RD"
  refine⟨_,_,_,h3,T.cl_Spread,T.n_Spread_known,_,z468 S,_,rfl,.ref l,?_,hq l H1 sB kn kno nl⟩
  rw [← e2]
  exact dg e1 (sB _ _ hb (ne_of hb k1 (by intro z;cases z)))
theorem sc_q9:FnScope ["self","node","cell"] ["self","node","cell"] (defScope s_q9):=⟨rfl,rfl,rfl,by decide +kernel,rfl,by decide +kernel,by decide +kernel⟩
set_option maxHeartbeats 4000000 in
theorem ok_q9 (F:FB K "node_at" "Spread.node_at" s_q9 ad.q9 ["self","node","cell"]) (T:Txt K mg ad) (G_q43:Zn P w K mg base CX0 1 ad.q43 ["stops","many","cell"] (spMet K)):Zn P w K mg base CX0 2 ad.q9 ["self","node","cell"] (z319 ad K):=by
 obtain⟨fd,F,B⟩:=F
 refine⟨fd,B,?_⟩
 refine F.ok sc_q9 (fun vs H Q E h=>?_) (fun cdv A outer s H vs Q E HR h=>?_)
 ·obtain⟨p,b,S,m,c0,c,st,rfl,_⟩:=h
  rfl
 ·obtain⟨p,b,S,m,c0,c,st,rfl,hs,hb,hS,hm,hl,hq⟩:=h
  have ND:=sc_q9.nd
  have HU0:=HR.units0
  have HU:=HR.units
  have hA:=HR.hd
  have hz:(100000:Nat)≤sizeLine:=by rw [sizeLine_eq];decide
  refine⟨_,(pss_one (ps_ret (pe_tup (pac (pcl G_q43 HR z590 T.mg_q43 T.k_q43 (pac (pe_fld (pvn 0 z500) (by rfl)) (pac (pe_ix ix_tup (pvn 1 z476) pe_int (fun _ _=>rfl)) (pac (pvn 2 z332) pa_nil)))) (pac (pvn 2 z332) pa_nil))))),?_⟩
  obtain⟨dx,h1⟩:=id hs
  walk_at "RD"
  exact⟨_,_,_,h1,T.cl_Spread,T.n_Spread_stops,_,z629 S,_,SqT.of hb,_,rfl,S.sl,st,m,c,rfl,hS,hm,hl,by omega,fun r nr=>hq r nr⟩
theorem sc_q51:FnScope ["_law_script","_law_k"] ["_law_script","_law_k"] (defScope s_q51):=⟨rfl,rfl,rfl,by decide +kernel,rfl,by decide +kernel,by decide +kernel⟩
set_option maxHeartbeats 4000000 in
theorem ok_q51 (F:FB K "_law_cell_at" "_law_cell_at" s_q51 ad.q51 ["_law_script","_law_k"]) (T:Txt K mg ad):Zn P w K mg base CX0 1 ad.q51 ["_law_script","_law_k"] (spCell K):=by
 obtain⟨fd,F,B⟩:=F
 refine⟨fd,B,?_⟩
 refine F.ok sc_q51 (fun vs H Q E h=>?_) (fun cdv A outer s H vs Q E HR h=>?_)
 ·obtain⟨a,ns,k,rfl,_⟩:=h
  rfl
 ·obtain⟨a,ns,k,rfl,hS,hb,h0,hq⟩:=h
  have ND:=sc_q51.nd
  have HU0:=HR.units0
  have HU:=HR.units
  have hA:=HR.hd
  have hz:(100000:Nat)≤sizeLine:=by rw [sizeLine_eq];decide
  refine⟨_,(pss_cons (ps_if (ptc op_lt (pvn 1 z196) (pcb call_len_seq z521 T.b_len PyProof.Rows.Boot.«len» (pac (pvn 0 z98) pa_nil)))
 (pss_one (ps_ret (pe_ix ix_list (pvn 0 z98) (pvn 1 z196) (fun _ _=>rfl))))
 pss_nil)
 (pss_one (ps_ret pe_int))),?_⟩
  walk_at "RD"
  refine⟨_,.inl hS,?_⟩
  split
  ·rename_i h
   rw [List.length_map] at h
   exact⟨_,hS,_,z442 h0 h,hq _ (hb _ (getD_in (by omega)))⟩
  ·exact hq 0 z523
theorem sc_q55:FnScope ["_law_script","_law_k","_law_number"] ["_law_script","_law_k"] (defScope s_q55):=⟨rfl,rfl,rfl,by decide +kernel,rfl,by decide +kernel,by decide +kernel⟩
set_option maxHeartbeats 4000000 in
theorem ok_q55 (F:FB K "_law_mixed" "_law_mixed" s_q55 ad.q55 ["_law_script","_law_k"]) (T:Txt K mg ad) (G_q51:Zn P w K mg base CX0 1 ad.q51 ["_law_script","_law_k"] (spCell K)):Zn P w K mg base CX0 2 ad.q55 ["_law_script","_law_k"] (spLMix K):=by
 obtain⟨fd,F,B⟩:=F
 refine⟨fd,B,?_⟩
 refine F.ok sc_q55 (fun vs H Q E h=>?_) (fun cdv A outer s H vs Q E HR h=>?_)
 ·obtain⟨a,ns,k,rfl,_⟩:=h
  rfl
 ·obtain⟨a,ns,k,rfl,hS,hb,k0,k1,hq⟩:=h
  have ND:=sc_q55.nd
  have HU0:=HR.units0
  have HU:=HR.units
  have hA:=HR.hd
  have hz:(100000:Nat)≤sizeLine:=by rw [sizeLine_eq];decide
  refine⟨_,(pss_cons (pst 2 ND z49 (pe_op op_mod (pe_op op_add (pe_op op_add (pe_op z345 (pcl G_q51 HR z157 T.mg_q51 T.k_q51 (pac (pvn 0 z174) (pac (pvn 1 z140) pa_nil))) pe_int) (pe_op z345 pe_int (pvn 1 z140))) pe_int) pe_int))
 (pss_one (ps_ret (pe_op op_mod (pe_op z345 (pvn 2 z49) (pe_op op_add (pvn 2 z49) (pe_op z345 pe_int (pvn 1 z140)))) pe_int)))),?_⟩
  walk_at "RD"
  exact⟨a,ns,k,rfl,hS,hb,k0,fun c cb=>⟨c,rfl,CMul.ok (.inr ⟨by decide,by decide⟩),CMul.ok (.inl ⟨by decide,by decide⟩),by decide,CMul.ok (.inl ⟨by decide,by decide⟩),CMul.ok (.inl ⟨by omega,by omega⟩),by decide,hq _ (Int.emod_nonneg _ (by decide)) (Int.lt_trans (Int.emod_lt_of_pos _ (by decide)) (by decide))⟩⟩
theorem sc_q56:FnScope ["_law_script","_law_number","_law_wide","_law_high","_law_signs","_law_k","_law_draw"] ["_law_script"] (defScope s_q56):=⟨rfl,rfl,rfl,by decide +kernel,rfl,by decide +kernel,by decide +kernel⟩
set_option maxHeartbeats 4000000 in
theorem ok_q56 (F:FB K "_law_floor" "_law_floor" s_q56 ad.q56 ["_law_script"]) (T:Txt K mg ad) (G_q55:Zn P w K mg base CX0 2 ad.q55 ["_law_script","_law_k"] (spLMix K)):Zn P w K mg base CX0 3 ad.q56 ["_law_script"] (z460 K):=by
 obtain⟨fd,F,B⟩:=F
 refine⟨fd,B,?_⟩
 refine F.ok sc_q56 (fun vs H Q E h=>?_) (fun cdv A outer s H vs Q E HR h=>?_)
 ·obtain⟨a,ns,rfl,_⟩:=h
  rfl
 ·obtain⟨a,ns,rfl,hS,hb,hq⟩:=h
  have ND:=sc_q56.nd
  have HU0:=HR.units0
  have HU:=HR.units
  have hA:=HR.hd
  have hz:(100000:Nat)≤sizeLine:=by rw [sizeLine_eq];decide
  refine⟨_,(pss_cons (pst 1 ND z12 (pcl G_q55 HR z115 T.mg_q55 T.k_q55 (pac (pvn 0 z103) (pac pe_int pa_nil))))
 (pss_cons (pst 2 ND z40 (pe_ix ix_list (pe_lst (pac pe_int (pac pe_int (pac pe_int (pac pe_int (pac pe_int (pac pe_int pa_nil))))))) (pe_op op_mod (pvn 1 z12) pe_int) (fun _ _=>rfl)))
 (pss_cons (pst 3 ND z22 (pe_ix ix_list (pe_lst (pac pe_int (pac pe_int (pac pe_int (pac pe_int (pac pe_int (pac pe_int pa_nil))))))) (pe_op op_mod (pvn 1 z12) pe_int) (fun _ _=>rfl)))
 (pss_cons (ps_if (ptc op_eq (pe_op op_mod (pe_op op_fdiv (pvn 1 z12) pe_int) pe_int) pe_int)
 (pss_cons (pst 2 ND z40 pe_int)
 (pss_one (pst 3 ND z22 pe_int)))
 pss_nil)
 (pss_cons (pst 4 ND z68 (pe_lst pa_nil))
 (pss_cons (ps_for PassesOwn.never (calm0 rfl) (pi_range1 (gl_of z229) T.b_range (pac (pe_op op_mul (pvn 2 z40) (pvn 3 z22)) pa_nil) (st1 rfl)) (pgn 5 ND z184)
 (pss_cons (pst 6 ND z136 (pe_op op_mod (pe_op op_mul (pe_op op_fdiv (pcl G_q55 HR z115 T.mg_q55 T.k_q55 (pac (pvn 0 z103) (pac pe_int pa_nil))) (pe_op op_add (pvn 5 z184) pe_int)) pe_int) pe_int))
 (pss_one (ps_expr (pe_bm PySem.F.plainAttrs_list PySem.F.slot_list_append PySem.F.type_list_append mt_append (pvn 4 z68) (pac (pe_ix ix_list (pe_lst (pac pe_str (pac pe_str (pac pe_str (pac pe_str (pac pe_str (pac pe_str (pac pe_str (pac pe_str (pac pe_str (pac pe_str pa_nil))))))))))) (pe_op op_mod (pvn 6 z136) pe_int) (fun _ _=>rfl)) pa_nil))))))
 (pss_cons (ps_asg pe_str (pg_sub (pvn 4 z68) (pe_op op_mod (pe_op op_fdiv (pvn 1 z12) pe_int) (pe_op op_mul (pvn 2 z40) (pvn 3 z22))) set_list))
 (pss_one (ps_ret (z213 (z8.of (osc:=defScope s_q56) (tn:=["_law_row"]) (cn:=["_law_signs","_law_wide"]) (caps:=[4,2]) rfl rfl (by decide +kernel) (by decide +kernel) (by decide +kernel) (by decide +kernel) rfl) (calm0 rfl)  (pi_range1 (gl_of z229) T.b_range (pac (pvn 3 z22) pa_nil) (st1 rfl))
 (fun _ _ _ _ _=>(pg_name (i:=0) (show (["_law_row","_law_signs","_law_wide"]:List Str).Nodup by decide +kernel) rfl (Or.inl rfl))) (fun _ _ _ _ _=>z246) (fun _ _ _ _ _=>(pe_bmK (K:=K) rfl PySem.F.plainAttrs_str PySem.F.slot_str_join PySem.F.type_str_join (z595 (K:=K) rfl) pe_str (pac (pe_slice (z604 (K:=K) rfl) (pv 1) (po_some (pe_op op_mul (pv 0) (pv 2))) (po_some (pe_op op_add (pe_op op_mul (pv 0) (pv 2)) (pv 2)))) pa_nil))))))))))))),?_⟩
  have h6:∀ c:Int,c % 6=0∨c % 6=1∨c % 6=2∨c % 6=3∨c % 6=4∨c % 6=5:=fun c=>by omega
  have tab:∀ d:Int,∃ c:Nat,sgOk c∧atI [V.str (Str.ofString "."),V.str (Str.ofString "."),V.str (Str.ofString "+"),V.str (Str.ofString "."),V.str (Str.ofString "~"),V.str (Str.ofString "|"),V.str (Str.ofString "#"),V.str (Str.ofString "."),V.str (Str.ofString "+"),V.str (Str.ofString ".")] (d % 10)=some (chr1 c):=fun d=>by
   have h5:d % 10=0∨d % 10=1∨d % 10=2∨d % 10=3∨d % 10=4∨d % 10=5∨d % 10=6∨d % 10=7∨d % 10=8∨d % 10=9:=by omega
   have e46:V.str (Str.ofString ".")=chr1 46:=(q46.mpr rfl).symm
   have e43:V.str (Str.ofString "+")=chr1 43:=(q43.mpr rfl).symm
   have e126:V.str (Str.ofString "~")=chr1 126:=(q126.mpr rfl).symm
   have e124:V.str (Str.ofString "|")=chr1 124:=(q124.mpr rfl).symm
   have e35:V.str (Str.ofString "#")=chr1 35:=(q35.mpr rfl).symm
   rw [e46,e43,e126,e124,e35]
   unfold sgOk
   rcases h5 with z | z | z | z | z | z | z | z | z | z <;> rw [z]
   ·exact⟨46,by decide,rfl⟩
   ·exact⟨46,by decide,rfl⟩
   ·exact⟨43,by decide,rfl⟩
   ·exact⟨46,by decide,rfl⟩
   ·exact⟨126,by decide,rfl⟩
   ·exact⟨124,by decide,rfl⟩
   ·exact⟨35,by decide,rfl⟩
   ·exact⟨46,by decide,rfl⟩
   ·exact⟨43,by decide,rfl⟩
   ·exact⟨46,by decide,rfl⟩
  refine zz1 (fun σ H'=>∃ c:Int,0≤c∧H'=H∧σ=[some (V.ref a),some (V.int c),none,none,none,none,none]) (fun nx hk=>?_) ?_
  ·walk_at "RD"
   exact⟨a,ns,_,rfl,hS,hb,by decide,by decide,fun r r0 r1=>hk _ _ ⟨r,r0,rfl,rfl⟩⟩
  rintro σ H1 ⟨c,c0,rfl,rfl⟩
  refine zz1 (fun σ H'=>∃ w:Nat,((c % 6=0∧w=2)∨(c % 6=1∧w=3)∨(c % 6=2∧w=2)∨(c % 6=3∧w=1)∨(c % 6=4∧w=3)∨(c % 6=5∧w=2))∧Same H1 H'∧σ=[some (V.ref a),some (V.int c),some (V.int (w:Int)),none,none,none,none]) (fun nx hk=>?_) ?_
  ·walk_at "RD"
   refine⟨by omega,fun p np=>⟨by decide,_,SqL.of upd_same,?_⟩⟩
   rcases h6 c with z | z | z | z | z | z <;> rw [z]
   ·exact⟨_,rfl,hk _ _ ⟨2,by omega,zz0 np,rfl⟩⟩
   ·exact⟨_,rfl,hk _ _ ⟨3,by omega,zz0 np,rfl⟩⟩
   ·exact⟨_,rfl,hk _ _ ⟨2,by omega,zz0 np,rfl⟩⟩
   ·exact⟨_,rfl,hk _ _ ⟨1,by omega,zz0 np,rfl⟩⟩
   ·exact⟨_,rfl,hk _ _ ⟨3,by omega,zz0 np,rfl⟩⟩
   ·exact⟨_,rfl,hk _ _ ⟨2,by omega,zz0 np,rfl⟩⟩
  rintro σ H2 ⟨w1,hw1,s2,rfl⟩
  refine zz1 (fun σ H'=>∃ w h:Nat,((w=2∧h=2)∨(w=3∧h=2)∨(w=2∧h=3)∨(w=1∧h=4)∨(w=3∧h=1))∧Same H1 H'∧σ=[some (V.ref a),some (V.int c),some (V.int (w:Int)),some (V.int (h:Int)),none,none,none]) (fun nx hk=>?_) ?_
  ·walk_at "RD"
   refine⟨by omega,fun p np=>⟨by decide,_,SqL.of upd_same,?_⟩⟩
   have S:=s2.trans (zz0 (o:=HO.lst [V.int 2,V.int 2,V.int 3,V.int 4,V.int 1,V.int 2]) np)
   rcases h6 c with z | z | z | z | z | z <;> rw [z]
   ·exact⟨_,rfl,hk _ _ ⟨w1,2,by omega,S,rfl⟩⟩
   ·exact⟨_,rfl,hk _ _ ⟨w1,2,by omega,S,rfl⟩⟩
   ·exact⟨_,rfl,hk _ _ ⟨w1,3,by omega,S,rfl⟩⟩
   ·exact⟨_,rfl,hk _ _ ⟨w1,4,by omega,S,rfl⟩⟩
   ·exact⟨_,rfl,hk _ _ ⟨w1,1,by omega,S,rfl⟩⟩
   ·exact⟨_,rfl,hk _ _ ⟨w1,2,by omega,S,rfl⟩⟩
  rintro σ H3 ⟨w2,h2,hwh2,s3,rfl⟩
  refine zz1 (fun σ H'=>∃ w h:Nat,1≤w∧w≤3∧1≤h∧h≤4∧w * h≤9∧Same H1 H'∧σ=[some (V.ref a),some (V.int c),some (V.int (w:Int)),some (V.int (h:Int)),none,none,none]) (fun nx hk=>?_) ?_
  ·walk_at "RD"
   refine⟨⟨by decide,by decide⟩,by decide,?_⟩
   split
   ·exact hk _ _ ⟨3,3,by decide,by decide,by decide,by decide,by decide,s3,rfl⟩
   ·rcases hwh2 with ⟨rfl,rfl⟩ | ⟨rfl,rfl⟩ | ⟨rfl,rfl⟩ | ⟨rfl,rfl⟩ | ⟨rfl,rfl⟩ <;> exact hk _ _ ⟨_,_,by decide,by decide,by decide,by decide,by decide,s3,rfl⟩
  rintro σ H4 ⟨w,h,w0,w3,h0,h4,wh9,s4,rfl⟩
  have wh1:1≤w * h:=Nat.mul_le_mul w0 h0
  have em:((w:Int) * (h:Int))=((w * h:Nat):Int):=by simp
  refine zz1 (fun σ H'=>∃ q,H1 q=none∧Same H1 H'∧H' q=some (.lst [])∧σ=[some (V.ref a),some (V.int c),some (V.int (w:Int)),some (V.int (h:Int)),some (V.ref q),none,none]) (fun nx hk=>?_) ?_
  ·walk_at "RD"
   exact⟨by omega,fun q nq=>hk _ _ ⟨q,s4.free nq,s4.trans (zz0 nq),upd_same,rfl⟩⟩
  rintro σ H5 ⟨q,nq,s5,hq5,rfl⟩
  refine zz1 (fun σ H'=>∃ (sg:List Nat) (x y:Option V),sg.length=w * h∧(∀ c∈sg,sgOk c)∧Same H1 H'∧H' q=some (.lst (sg.map chr1))∧σ=[some (V.ref a),some (V.int c),some (V.int (w:Int)),some (V.int (h:Int)),some (V.ref q),x,y]) (fun nx hk=>?_) ?_
  ·walk_at "RD"
   refine⟨.inl ⟨by omega,by omega⟩,by rw [em];omega,by rw [em];omega,z142 (fun i σ H'=>∃ (sg:List Nat) (x y:Option V),sg.length=i∧(∀ c∈sg,sgOk c)∧Same H1 H'∧H' q=some (.lst (sg.map chr1))∧σ=[some (V.ref a),some (V.int c),some (V.int (w:Int)),some (V.int (h:Int)),some (V.ref q),x,y]) ⟨[],none,none,rfl,by simp,s5,hq5,rfl⟩ ?_ ?_⟩
   ·rintro i σ H' N hi ⟨sg,x,y,lsg,ok,s6,hq6,rfl⟩ hN
    have hi':i < w * h:=by rw [em] at hi;omega
    walk_at "RD"
    refine⟨a,ns,_,rfl,s6.seq hS,hb,by decide,by decide,fun r r0 r1=>⟨r,rfl,⟨by omega,by omega⟩,.inr ⟨by decide,by decide⟩,by decide,.inl ⟨rfl,_,SqL.of hq6⟩,by omega,fun p np=>⟨by decide,_,SqL.of upd_same,?_⟩⟩⟩
    obtain⟨k,kok,ek⟩:=tab (r / (0 + (i:Int) + 1) * 16807 % 998244353)
    have nqp:q≠p:=ne_of_none hq6 np
    refine⟨_,ek,_,(zz0 np) _ _ hq6,by rw [List.length_map];omega,hN _ _ ⟨sg++[k],_,_,by simp [lsg],?_,z52 (s6.trans (zz0 np)) nq,by rw [upd_same,List.map_append];rfl,rfl⟩⟩
    intro c hc
    rcases List.mem_append.mp hc with y | y
    ·exact ok c y
    ·rw [List.mem_singleton.mp y];exact kok
   ·rintro σ H' ⟨sg,x,y,lsg,ok,s6,hq6,rfl⟩
    exact hk _ _ ⟨sg,x,y,by rw [lsg,em,Int.toNat_natCast],ok,s6,hq6,rfl⟩
  rintro σ H6 ⟨sg0,x,y,lsg,ok0,s6,hq6,rfl⟩
  refine zz1 (fun σ H'=>∃ (sg:List Nat),sg.length=w * h∧(∀ c∈sg,sgOk c)∧46∈sg∧Same H1 H'∧H' q=some (.lst (sg.map chr1))∧σ=[some (V.ref a),some (V.int c),some (V.int (w:Int)),some (V.int (h:Int)),some (V.ref q),x,y]) (fun nx hk=>?_) ?_
  ·walk_at "RD"
   have e1:=Int.emod_nonneg (c / 54) (show ((w * h:Nat):Int)≠0 by omega)
   have e2:=Int.emod_lt_of_pos (c / 54) (show (0:Int) < ((w * h:Nat):Int) by omega)
   obtain⟨j,hj⟩:=Int.eq_ofNat_of_zero_le e1
   rw [hj] at e2
   refine⟨⟨by decide,by decide⟩,.inl ⟨by omega,by omega⟩,by rw [em];omega,_,hq6,j,?_,hk _ _ ⟨sg0.set j 46,by simp [lsg],fun c hc=>?_,?_,z52 s6 nq,?_,rfl⟩⟩
   ·rw [em,hj,List.length_map,lsg]
    unfold ixN
    rw [if_pos (by omega),if_pos (by omega)]
    simp
   ·rcases List.mem_or_eq_of_mem_set hc with z | z
    ·exact ok0 c z
    ·exact .inl z
   ·exact List.mem_set (by omega) _
   ·rw [upd_same,List.map_set,q46.mpr rfl]
  rintro σ H7 ⟨sg,lsg,ok,m46,s7,hq7,rfl⟩
  have g:Fl.Good w h sg:=⟨w0,by omega,h0,by omega,lsg,ok,46,m46,by decide⟩
  walk_at "RD"
  refine⟨by omega,by omega,?_⟩
  rw [Int.toNat_natCast]
  refine z418 (fun i ys H'=>Same H7 H'∧ys=((Fl.linesOf w h sg).take i).map V.str) ⟨Same.refl _,rfl⟩ ?_ ?_
  ·rintro i ys H' hi ⟨s8,rfl⟩
   walk_at "RD"
   have ec:cutV (sg.map chr1) (some ((0 + (i:Int)) * (w:Int))) (some ((0 + (i:Int)) * (w:Int) + (w:Int)))=(((sg.drop (w * i)).take w).map fun c=>(⟨#[c]⟩:Str)).map V.str:=by
    have i1:((0 + (i:Int)) * (w:Int))=((w * i:Nat):Int):=by rw [Int.zero_add,Int.mul_comm];simp
    have li:=z541 (w:=w) hi
    rw [i1,show ((w * i:Nat):Int) + (w:Int)=((w * i + w:Nat):Int) by simp]
    unfold cutV
    rw [HT.sIx_nat,HT.sIx_nat,List.length_map,Nat.min_eq_left (by omega),Nat.min_eq_left (by omega),Nat.add_sub_cancel_left,List.map_map,← List.map_drop,← List.map_take]
    rfl
   have ej:Txt.join (Str.ofString "") (((sg.drop (w * i)).take w).map fun c=>(⟨#[c]⟩:Str))=lineOf w sg i:=by
    refine z339 ?_
    rw [z360,List.map_map]
    unfold lineOf
    rw [z139]
    generalize (sg.drop (w * i)).take w=l
    induction l with
    | nil=>rfl
    | cons x r ih=>rw [List.map_cons,List.flatten_cons,ih];rfl
   have es:((((sg.drop (w * i)).take w).map fun c=>(⟨#[c]⟩:Str)).map (·.length)).sum + (((sg.drop (w * i)).take w).map fun c=>(⟨#[c]⟩:Str)).length * (Str.ofString "").length≤16777216:=by
    have e0:(Str.ofString "").length=0:=by decide +kernel
    rw [e0,Nat.mul_zero,Nat.add_zero,List.map_map]
    have:∀ l:List Nat,(l.map ((fun x:Str=>x.length) ∘ fun c=>(⟨#[c]⟩:Str))).sum=l.length:=by
     intro l
     induction l with
     | nil=>rfl
     | cons x r ih=>rw [List.map_cons,List.sum_cons,ih,List.length_cons];show 1 + r.length=_;omega
    rw [this,List.length_take]
    omega
   refine⟨rfl,.inr ⟨by omega,by omega⟩,.inr ⟨by omega,by omega⟩,_,SqL.of (s8 _ _ hq7),fun p np=>⟨((sg.drop (w * i)).take w).map fun c=>(⟨#[c]⟩:Str),by rw [ec];exact SqL.of upd_same,es,by rw [List.length_map,List.length_take,z58];omega,s8.trans (zz0 np),?_⟩⟩
   rw [ej,List.take_add_one,z41 hi,List.map_append]
   rfl
  ·rintro ys H' ⟨s8,rfl⟩
   have e:(Fl.linesOf w h sg).take h=Fl.linesOf w h sg:=List.take_of_length_le (by rw [z58];exact Nat.le_refl _)
   rw [e]
   refine⟨by rw [List.length_map,z58];omega,fun D hD=>hq D _ w h sg (s7.free (s8.free hD)) (s7.trans (s8.trans (zz0 hD))) upd_same g m46 (by omega)⟩
theorem z429:FnScope ["_law_lines","_law_cell"] ["_law_lines","_law_cell"] (defScope z210):=⟨rfl,rfl,rfl,by decide +kernel,rfl,by decide +kernel,by decide +kernel⟩
set_option maxHeartbeats 4000000 in
theorem z582 (F:FB K "_law_sign" "_law_sign" z210 ad.Lsign ["_law_lines","_law_cell"]) (T:Txt K mg ad):Zn P w K mg base CX0 1 ad.Lsign ["_law_lines","_law_cell"] (z249):=by
 obtain⟨fd,F,B⟩:=F
 refine⟨fd,B,?_⟩
 refine F.ok z429 (fun vs H Q E h=>?_) (fun cdv A outer s H vs Q E HR h=>?_)
 ·obtain⟨l,w,h,sg,c,rfl,_⟩:=h
  rfl
 ·obtain⟨l,w,h,sg,c,rfl,hL,g,c0,c1,hq⟩:=h
  have ND:=z429.nd
  have HU0:=HR.units0
  have HU:=HR.units
  have hA:=HR.hd
  have hz:(100000:Nat)≤sizeLine:=by rw [sizeLine_eq];decide
  refine⟨_,(pss_one (ps_ret (pe_ix ix_str (pe_ix ix_list (pvn 0 z39) (pe_op op_fdiv (pvn 1 z104) (pcb call_len_str z240 T.b_len PyProof.Rows.Boot.«len» (pac (pe_ix ix_list (pvn 0 z39) pe_int (fun _ _=>rfl)) pa_nil))) (fun _ _=>rfl)) (pe_op op_mod (pvn 1 z104) (pcb call_len_str z240 T.b_len PyProof.Rows.Boot.«len» (pac (pe_ix ix_list (pvn 0 z39) pe_int (fun _ _=>rfl)) pa_nil))) (fun _ _=>rfl)))),?_⟩
  have w0:=g.w0
  have w1:=g.w1
  have h0:=g.h0
  obtain⟨j1,d0,q0,q1,e⟩:=z655 g c0 c1
  have e0:atI ((linesOf w h sg).map V.str) 0=some (V.str (lineOf w sg 0)):=atI_nat (j:=0) (by rw [List.getElem?_map,z41 (by omega)];rfl)
  have eL:=z82 g (show 0 < h by omega)
  have eR:=z82 g j1
  have ec:atI ((linesOf w h sg).map V.str) (c / w)=some (V.str (lineOf w sg (c / w).toNat)):=by
   obtain⟨j,hj⟩:=Int.eq_ofNat_of_zero_le d0
   rw [hj] at j1 ⊢
   exact atI_nat (by rw [List.getElem?_map,z41 (by simpa using j1)];rfl)
  have er:atI (lineOf w sg (c / w).toNat).cps.toList (c % w)=some (at_ sg c):=by
   obtain⟨r,hr⟩:=Int.eq_ofNat_of_zero_le q0
   rw [hr] at e ⊢
   exact atI_nat (by simpa using e)
  walk_at "RD"
  refine⟨_,SqL.of hL,_,e0,_,rfl,by rw [eL];omega,?_⟩
  rw [eL]
  refine⟨⟨by omega,by omega⟩,_,SqL.of hL,_,ec,_,SqL.of hL,_,e0,_,rfl,by rw [eL];omega,?_⟩
  rw [eL]
  exact⟨by omega,_,rfl,by rw [eR];omega,_,er,hq⟩
theorem sc_q52:FnScope ["_law_lines","_law_cell","_law_wide","_law_row","_law_column","_law_found","_law_down","_law_across","_law_other"] ["_law_lines","_law_cell"] (defScope s_q52):=⟨rfl,rfl,rfl,by decide +kernel,rfl,by decide +kernel,by decide +kernel⟩
set_option maxHeartbeats 4000000 in
theorem ok_q52 (F:FB K "_law_beside" "_law_beside" s_q52 ad.q52 ["_law_lines","_law_cell"]) (T:Txt K mg ad) (G_Lsign:Zn P w K mg base CX0 1 ad.Lsign ["_law_lines","_law_cell"] (z249)):Zn P w K mg base CX0 2 ad.q52 ["_law_lines","_law_cell"] (spLBes):=by
 obtain⟨fd,F,B⟩:=F
 refine⟨fd,B,?_⟩
 refine F.ok sc_q52 (fun vs H Q E h=>?_) (fun cdv A outer s H vs Q E HR h=>?_)
 ·obtain⟨l,w,h,sg,c,rfl,_⟩:=h
  rfl
 ·obtain⟨l,w,h,sg,c,rfl,hL,g,hc,hq⟩:=h
  have ND:=sc_q52.nd
  have HU0:=HR.units0
  have HU:=HR.units
  have hA:=HR.hd
  have hz:(100000:Nat)≤sizeLine:=by rw [sizeLine_eq];decide
  refine⟨_,(pss_cons (pst 2 ND z44 (pcb call_len_str z335 T.b_len PyProof.Rows.Boot.«len» (pac (pe_ix ix_list (pvn 0 z67) pe_int (fun _ _=>rfl)) pa_nil)))
 (pss_cons (ps_asg (pcb call_divmod z308 T.b_divmod PyProof.Rows.Boot.«divmod» (pac (pvn 1 z137) (pac (pvn 2 z44) pa_nil))) (pg_tup (n:=2) (calm0 rfl) (pgs_cons (pgn 3 ND z143) (pgs_cons (pgn 4 ND z96) pgs_nil))))
 (pss_cons (pst 5 ND z61 (pe_lst pa_nil))
 (pss_cons (ps_for PassesOwn.never (calm0 rfl) (pi_list (pe_lst (pac (pe_tup (pac (pe_un un_neg pe_int) (pac pe_int pa_nil))) (pac (pe_tup (pac pe_int (pac (pe_un un_neg pe_int) pa_nil))) (pac (pe_tup (pac pe_int (pac pe_int pa_nil))) (pac (pe_tup (pac pe_int (pac pe_int pa_nil))) pa_nil)))))) (pg_tup (n:=2) (calm0 rfl) (pgs_cons (pgn 6 ND z79) (pgs_cons (pgn 7 ND z47) pgs_nil)))
 (pss_one (ps_if (PW.pt (pw_and (pt_chain op_le op_lt pe_int (pe_op op_add (pvn 3 z143) (pvn 6 z79)) (pcb call_len_seq z335 T.b_len PyProof.Rows.Boot.«len» (pac (pvn 0 z67) pa_nil))) (pw_and1 (pt_chain op_le op_lt pe_int (pe_op op_add (pvn 4 z96) (pvn 7 z47)) (pvn 2 z44)))))
 (pss_cons (pst 8 ND z66 (pe_op op_add (pe_op op_add (pvn 1 z137) (pe_op op_mul (pvn 6 z79) (pvn 2 z44))) (pvn 7 z47)))
 (pss_one (ps_if (ptc op_ne (pcl G_Lsign HR z218 T.mg_Lsign T.k_Lsign (pac (pvn 0 z67) (pac (pvn 8 z66) pa_nil))) pe_str)
 (pss_one (ps_expr (pe_bm PySem.F.plainAttrs_list PySem.F.slot_list_append PySem.F.type_list_append mt_append (pvn 5 z61) (pac (pvn 8 z66) pa_nil))))
 pss_nil)))
 pss_nil)))
 (pss_one (ps_ret (pvn 5 z61))))))),?_⟩
  have w0:=g.w0
  have w1:=g.w1
  have h0:=g.h0
  have h1:=g.h1
  have len:=g.len
  have l100:=len100 g
  have e0:atI ((Fl.linesOf w h sg).map V.str) 0=some (V.str (lineOf w sg 0)):=atI_nat (j:=0) (by rw [List.getElem?_map,z41 (by omega)];rfl)
  have eL:=z82 g (show 0 < h by omega)
  refine zz1 (fun σ H'=>H'=H∧σ=[some (V.ref l),some (V.int c),some (V.int (w:Int)),none,none,none,none,none,none]) (fun nx hk=>?_) ?_
  ·walk_at "RD"
   refine⟨_,SqL.of hL,_,e0,_,rfl,by rw [eL];omega,?_⟩
   rw [eL]
   exact hk _ _ ⟨rfl,rfl⟩
  rintro σ H1 ⟨rfl,rfl⟩
  refine zz1 (fun σ H'=>Same H1 H'∧σ=[some (V.ref l),some (V.int c),some (V.int (w:Int)),some (V.int (c / w)),some (V.int (c % w)),none,none,none,none]) (fun nx hk=>?_) ?_
  ·walk_at "RD"
   exact⟨⟨by omega,by omega⟩,fun t nt=>⟨_,SqT.of upd_same,rfl,_,_,rfl,_,_,rfl,rfl,hk _ _ ⟨zz0 nt,rfl⟩⟩⟩
  rintro σ H2 ⟨s2,rfl⟩
  refine zz1 (fun σ H'=>∃ p,H1 p=none∧Same H1 H'∧H' p=some (.lst [])∧σ=[some (V.ref l),some (V.int c),some (V.int (w:Int)),some (V.int (c / w)),some (V.int (c % w)),some (V.ref p),none,none,none]) (fun nx hk=>?_) ?_
  ·walk_at "RD"
   exact⟨by omega,fun p np=>hk _ _ ⟨p,s2.free np,s2.trans (zz0 np),upd_same,rfl⟩⟩
  rintro σ H3 ⟨p,np,s3,hp3,rfl⟩
  refine zz1 (fun σ H'=>∃ x y z,Same H1 H'∧H' p=some (.lst ((v2 w sg c).map V.int))∧σ=[some (V.ref l),some (V.int c),some (V.int (w:Int)),some (V.int (c / w)),some (V.int (c % w)),some (V.ref p),x,y,z]) (fun nx hk=>?_) ?_
  ·walk_at "RD"
   refine⟨by omega,fun t1 n1=>⟨by omega,fun t2 n2=>⟨by omega,fun t3 n3=>⟨by omega,fun t4 n4=>⟨by omega,fun q nq=>⟨⟨_,SqL.of upd_same⟩,?_⟩⟩⟩⟩⟩⟩
   have S1:=zz0 (o:=HO.tup [V.int (-1),V.int 0]) n1
   have S2:=zz0 (o:=HO.tup [V.int 0,V.int (-1)]) n2
   have S3:=zz0 (o:=HO.tup [V.int 0,V.int 1]) n3
   have S4:=zz0 (o:=HO.tup [V.int 1,V.int 0]) n4
   have S5:=zz0 (o:=HO.lst [V.ref t1,V.ref t2,V.ref t3,V.ref t4]) nq
   have S35:=S2.trans (S3.trans (S4.trans S5))
   have T1:=S35 _ _ (upd_same (H:=H3) (a:=t1) (o:=HO.tup [V.int (-1),V.int 0]))
   have T2:=(S3.trans (S4.trans S5)) _ _ (upd_same (a:=t2) (o:=HO.tup [V.int 0,V.int (-1)]))
   have T3:=(S4.trans S5) _ _ (upd_same (a:=t3) (o:=HO.tup [V.int 0,V.int 1]))
   have T4:=S5 _ _ (upd_same (a:=t4) (o:=HO.tup [V.int 1,V.int 0]))
   have qp:q≠p:=fun z=>by rw [z,(S1.trans (S2.trans (S3.trans S4))) _ _ hp3] at nq;cases nq
   have SS:=S1.trans S35
   refine z127 (K:=K) (a:=q) (xs:=[V.ref t1,V.ref t2,V.ref t3,V.ref t4]) (fun j σ H'=>∃ x y z,Same H1 H'∧H' t1=some (.tup [V.int (-1),V.int 0])∧H' t2=some (.tup [V.int 0,V.int (-1)])∧H' t3=some (.tup [V.int 0,V.int 1])∧H' t4=some (.tup [V.int 1,V.int 0])∧H' q=some (.lst [V.ref t1,V.ref t2,V.ref t3,V.ref t4])∧H' p=some (.lst (((nearC.take j).flatMap (nearL w h sg c)).map V.int))∧σ=[some (V.ref l),some (V.int c),some (V.int (w:Int)),some (V.int (c / w)),some (V.int (c % w)),some (V.ref p),x,y,z]) ⟨none,none,none,s3.trans SS,T1,T2,T3,T4,upd_same,SS _ _ hp3,rfl⟩ (fun j σ H' _ ⟨_,_,_,_,_,_,_,_,e,_⟩=>SqL.of e) ?_ ?_
   ·rintro j v σ H' N hv ⟨x,y,z,s4,T1,T2,T3,T4,hq',hp',rfl⟩ hN
    obtain⟨t,dn,ac,rfl,ht,hd⟩:∃ t dn ac,v=V.ref t∧H' t=some (.tup [.int dn,.int ac])∧nearC[j]?=some (dn,ac):=by
     match j,hv with
     | 0,hv=>cases hv;exact⟨t1,-1,0,rfl,T1,rfl⟩
     | 1,hv=>cases hv;exact⟨t2,0,-1,rfl,T2,rfl⟩
     | 2,hv=>cases hv;exact⟨t3,0,1,rfl,T3,rfl⟩
     | 3,hv=>cases hv;exact⟨t4,1,0,rfl,T4,rfl⟩
     | (j + 4),hv=>cases hv
    have tk:(nearC.take (j + 1)).flatMap (nearL w h sg c)=(nearC.take j).flatMap (nearL w h sg c)++nearL w h sg c (dn,ac):=by
     rw [List.take_add_one,hd,List.flatMap_append]
     simp [List.flatMap_cons]
    walk_at "RD"
    refine⟨_,SqT.of ht,rfl,_,_,rfl,_,_,rfl,rfl,dn,rfl,?_⟩
    have skip:nearL w h sg c (dn,ac)=[]→H' p=some (.lst (((nearC.take (j + 1)).flatMap (nearL w h sg c)).map V.int)):=fun z=>by rw [tk,z,List.append_nil];exact hp'
    by_cases a1:0≤c / (w:Int) + dn
    ·rw [if_pos a1]
     refine⟨_,.inl (SqL.of (s4 _ _ hL)),?_⟩
     rw [List.length_map,z58]
     by_cases a2:c / (w:Int) + dn < h
     ·rw [if_pos a2]
      refine⟨ac,rfl,?_⟩
      by_cases a3:0≤c % (w:Int) + ac
      ·rw [if_pos a3]
       by_cases a4:c % (w:Int) + ac < w
       ·rw [if_pos a4]
        obtain⟨i0,i1⟩:=z560 w0 ⟨a1,a2⟩ ⟨a3,a4⟩
        rw [← len] at i1
        refine⟨dn,rfl,.inr ⟨by omega,by omega⟩,ac,rfl,l,w,h,sg,_,rfl,s4 _ _ hL,g,i0,i1,rfl,?_⟩
        by_cases a5:at_ sg (c + dn * w + ac)=35
        ·rw [if_neg (fun z=>z (q35.mpr a5))]
         exact hN _ _ ⟨_,_,_,s4,T1,T2,T3,T4,hq',skip (if_neg fun z=>z.2.2 a5),rfl⟩
        ·rw [if_pos (fun z=>a5 (q35.mp z))]
         have ln:=z406 (w:=w) (h:=h) (sg:=sg) (c:=c) (nearC.take j)
         have l4:(nearC.take j).length≤4:=by rw [List.length_take];exact Nat.min_le_right _ _
         refine⟨.inl ⟨rfl,_,SqL.of hp'⟩,_,hp',by rw [List.length_map];omega,hN _ _ ⟨_,_,_,z52 s4 np,by rw [upd_ne (ne_of T1 hp' (by intro z;cases z))];exact T1,by rw [upd_ne (ne_of T2 hp' (by intro z;cases z))];exact T2,by rw [upd_ne (ne_of T3 hp' (by intro z;cases z))];exact T3,by rw [upd_ne (ne_of T4 hp' (by intro z;cases z))];exact T4,by rw [upd_ne qp];exact hq',?_,rfl⟩⟩
         rw [upd_same,tk,show nearL w h sg c (dn,ac)=[c + dn * w + ac] from if_pos ⟨⟨a1,a2⟩,⟨a3,a4⟩,a5⟩,List.map_append]
         rfl
       ·rw [if_neg a4]
        exact hN _ _ ⟨_,_,_,s4,T1,T2,T3,T4,hq',skip (if_neg fun z=>a4 z.2.1.2),rfl⟩
      ·rw [if_neg a3]
       exact hN _ _ ⟨_,_,_,s4,T1,T2,T3,T4,hq',skip (if_neg fun z=>a3 z.2.1.1),rfl⟩
     ·rw [if_neg a2]
      exact hN _ _ ⟨_,_,_,s4,T1,T2,T3,T4,hq',skip (if_neg fun z=>a2 z.1.2),rfl⟩
    ·rw [if_neg a1]
     exact hN _ _ ⟨_,_,_,s4,T1,T2,T3,T4,hq',skip (if_neg fun z=>a1 z.1.1),rfl⟩
   ·rintro σ H' ⟨x,y,z,s4,T1,T2,T3,T4,hq',hp',rfl⟩
    rw [show nearC.take ([V.ref t1,V.ref t2,V.ref t3,V.ref t4]:List V).length=nearC from rfl,z599 g hc] at hp'
    exact hk _ _ ⟨x,y,z,s4,hp',rfl⟩
  rintro σ H4 ⟨x,y,z,s4,hp4,rfl⟩
  walk_at "RD"
  exact hq p H4 np s4 hp4
theorem sc_q53:FnScope ["_law_kind","_law_sign_here"] ["_law_kind","_law_sign_here"] (defScope s_q53):=⟨rfl,rfl,rfl,by decide +kernel,rfl,by decide +kernel,by decide +kernel⟩
set_option maxHeartbeats 4000000 in
theorem ok_q53 (F:FB K "_law_stands" "_law_stands" s_q53 ad.q53 ["_law_kind","_law_sign_here"]) (T:Txt K mg ad):Zn P w K mg base CX0 1 ad.q53 ["_law_kind","_law_sign_here"] (z310):=by
 obtain⟨fd,F,B⟩:=F
 refine⟨fd,B,?_⟩
 refine F.ok sc_q53 (fun vs H Q E h=>?_) (fun cdv A outer s H vs Q E HR h=>?_)
 ·obtain⟨i,c,x,rfl,_⟩:=h
  rfl
 ·obtain⟨i,c,x,rfl,hi,hq⟩:=h
  have ND:=sc_q53.nd
  have HU0:=HR.units0
  have HU:=HR.units
  have hA:=HR.hd
  have hz:(100000:Nat)≤sizeLine:=by rw [sizeLine_eq];decide
  refine⟨_,(pss_one (ps_ret (pe_or (pec z325 (pvn 1 z69) pe_str) (pe_one (pe_and (pec op_eq (pvn 1 z69) pe_str) (pe_one (pec op_eq (pvn 0 z220) pe_str))))))),?_⟩
  obtain⟨k1,k2,k3⟩:=kx i x hi
  walk_at "RD"
  refine⟨c,rfl,?_⟩
  by_cases e:common c=true
  ·rw [if_pos (z544.mpr e)]
   have e2:stands i c=true:=by simp [stands,e]
   rw [← e2]
   exact hq
  ·rw [if_neg (fun z=>e (z544.mp z))]
   rw [Bool.not_eq_true] at e
   refine⟨rfl,?_⟩
   by_cases e3:c=126
   ·rw [if_pos (q126.mpr e3)]
    have e2:decide (x=Str.ofString "crawler")=stands i c:=by
     simp only [stands,e,Bool.false_or,decide_eq_true e3,Bool.and_true]
     exact decide_eq_decide.mpr k1
    rw [e2]
    exact hq
   ·rw [if_neg (fun z=>e3 (q126.mp z))]
    have e2:stands i c=false:=by simp [stands,e,e3]
    rw [← e2]
    exact hq
theorem z471:FnScope ["_law_lines","_law_kind","_law_cell","_law_other"] ["_law_lines","_law_kind","_law_cell","_law_other"] (defScope z118):=⟨rfl,rfl,rfl,by decide +kernel,rfl,by decide +kernel,by decide +kernel⟩
set_option maxHeartbeats 4000000 in
theorem z596 (F:FB K "_law_cost" "_law_cost" z118 ad.Lcost ["_law_lines","_law_kind","_law_cell","_law_other"]) (T:Txt K mg ad) (G_q53:Zn P w K mg base CX0 1 ad.q53 ["_law_kind","_law_sign_here"] (z310)) (G_Lsign:Zn P w K mg base CX0 1 ad.Lsign ["_law_lines","_law_cell"] (z249)):Zn P w K mg base CX0 2 ad.Lcost ["_law_lines","_law_kind","_law_cell","_law_other"] (z413):=by
 obtain⟨fd,F,B⟩:=F
 refine⟨fd,B,?_⟩
 refine F.ok z471 (fun vs H Q E h=>?_) (fun cdv A outer s H vs Q E HR h=>?_)
 ·obtain⟨x,i,l,w,h,sg,cell,other,rfl,_⟩:=h
  rfl
 ·obtain⟨x,i,l,w,h,sg,cell,other,rfl,hi,hL,g,c01,o01,hq⟩:=h
  have ND:=z471.nd
  have HU0:=HR.units0
  have HU:=HR.units
  have hA:=HR.hd
  have hz:(100000:Nat)≤sizeLine:=by rw [sizeLine_eq];decide
  refine⟨_,(pss_cons (ps_if (pt_not (pt_val (pcl G_q53 HR z146 T.mg_q53 T.k_q53 (pac (pvn 1 z53) (pac (pcl G_Lsign HR z23 T.mg_Lsign T.k_Lsign (pac (pvn 0 z4) (pac (pvn 3 z19) pa_nil))) pa_nil)))))
 (pss_one (ps_ret pe_non))
 pss_nil)
 (pss_cons (ps_if (PW.pt (pw_and (ptc op_eq (pvn 1 z53) pe_str) (pw_and1 (ptc op_eq (pcl G_Lsign HR z23 T.mg_Lsign T.k_Lsign (pac (pvn 0 z4) (pac (pvn 3 z19) pa_nil))) pe_str))))
 (pss_one (ps_ret pe_int))
 pss_nil)
 (pss_cons (ps_if (PW.pt (pw_and (ptc op_eq (pvn 1 z53) pe_str) (pw_and1 (ptc op_ne (pe_op op_fdiv (pvn 2 z97) (pcb call_len_str z230 T.b_len PyProof.Rows.Boot.«len» (pac (pe_ix ix_list (pvn 0 z4) pe_int (fun _ _=>rfl)) pa_nil))) (pe_op op_fdiv (pvn 3 z19) (pcb call_len_str z230 T.b_len PyProof.Rows.Boot.«len» (pac (pe_ix ix_list (pvn 0 z4) pe_int (fun _ _=>rfl)) pa_nil)))))))
 (pss_cons (ps_if (ptc op_notIn_seq pe_str (pe_lst (pac (pcl G_Lsign HR z23 T.mg_Lsign T.k_Lsign (pac (pvn 0 z4) (pac (pvn 2 z97) pa_nil))) (pac (pcl G_Lsign HR z23 T.mg_Lsign T.k_Lsign (pac (pvn 0 z4) (pac (pvn 3 z19) pa_nil))) pa_nil))))
 (pss_one (ps_ret pe_non))
 pss_nil)
 (pss_one (ps_ret pe_int)))
 pss_nil)
 (pss_one (ps_ret pe_int))))),?_⟩
  obtain⟨k1,k2,k3⟩:=kx i x hi
  have w0:=g.w0
  have w1:=g.w1
  have h0:=g.h0
  have e0:atI ((Fl.linesOf w h sg).map V.str) 0=some (V.str (lineOf w sg 0)):=atI_nat (j:=0) (by rw [List.getElem?_map,z41 (by omega)];rfl)
  have eL:=z82 g (show 0 < h by omega)
  have hH:=hq H (Same.refl _)
  walk_at "RD"
  refine⟨l,w,h,sg,other,rfl,hL,g,o01.1,o01.2,i,_,x,rfl,hi,_,rfl,?_⟩
  unfold z101 at hH hq
  cases hs:stands i (at_ sg other) with
  | false=>
   rw [if_pos rfl]
   rw [hs] at hH
   exact hH
  | true=>
   rw [if_neg (by decide)]
   simp only [hs,if_true] at hH hq
   by_cases c1:i=1
   ·subst c1
    rw [if_pos (k1.mpr rfl)]
    refine⟨l,w,h,sg,other,rfl,hL,g,o01.1,o01.2,rfl,?_⟩
    simp only [fareOf] at hH
    by_cases e:at_ sg other=126
    ·rw [if_pos (q126.mpr e)]
     rw [if_pos e] at hH
     exact hH
    ·rw [if_neg (fun z=>e (q126.mp z)),if_neg (fun z=>absurd (k2.mp z) (by decide))]
     rw [if_neg e] at hH
     exact hH
   ·rw [if_neg (fun z=>c1 (k1.mp z))]
    by_cases c2:i=2
    ·subst c2
     rw [if_pos (k2.mpr rfl)]
     simp only [fareOf] at hH hq
     refine⟨_,SqL.of hL,_,e0,_,rfl,by rw [eL];omega,?_⟩
     rw [eL]
     refine⟨⟨by omega,by omega⟩,_,SqL.of hL,_,e0,_,rfl,by rw [eL];omega,?_⟩
     rw [eL]
     refine⟨⟨by omega,by omega⟩,?_⟩
     by_cases e:cell / (w:Int)=other / (w:Int)
     ·rw [if_neg (fun z=>z e)]
      rw [if_pos e] at hH
      exact hH
     ·rw [if_pos e]
      rw [if_neg e] at hq
      refine⟨l,w,h,sg,cell,rfl,hL,g,c01.1,c01.2,l,w,h,sg,other,rfl,hL,g,o01.1,o01.2,by omega,fun p np=>⟨_,.inl (SqL.of upd_same),rfl,rfl,?_⟩⟩
      have e2:inV (V.str (Str.ofString "|")) [chr1 (at_ sg cell),chr1 (at_ sg other)]=decide (at_ sg cell=124∨at_ sg other=124):=by
       have q:∀ c:Nat,eqV (chr1 c) (V.str (Str.ofString "|"))=decide (c=124):=fun c=>by
        have e:eqV (chr1 c) (V.str (Str.ofString "|"))=((⟨#[c]⟩:Str) == Str.ofString "|"):=rfl
        rw [e,Bool.eq_iff_iff,beq_iff_eq,decide_eq_true_iff]
        exact⟨fun z=>q124.mp (congrArg V.str z),fun z=>V.str.inj (q124.mpr z)⟩
       simp only [inV,List.any_cons,List.any_nil,Bool.or_false]
       rw [q,q,Bool.decide_or]
      rw [e2]
      have hp:=hq _ (zz0 (o:=HO.lst [chr1 (at_ sg cell),chr1 (at_ sg other)]) np)
      by_cases e3:at_ sg cell=124∨at_ sg other=124
      ·rw [if_neg (by rw [decide_eq_true e3];decide)]
       rw [if_pos e3] at hp
       exact hp
      ·rw [if_pos (decide_eq_false e3)]
       rw [if_neg e3] at hp
       exact hp
    ·rw [if_neg (fun z=>c2 (k2.mp z))]
     match i,c1,c2,k3,hH with
     | 0,_,_,_,hH=>exact hH
     | 3,_,_,_,hH=>exact hH
theorem sc_q54:FnScope ["_law_lines","_law_kind","_law_full","_law_cell","_law_charge","_law_gain"] ["_law_lines","_law_kind","_law_full","_law_cell","_law_charge"] (defScope s_q54):=⟨rfl,rfl,rfl,by decide +kernel,rfl,by decide +kernel,by decide +kernel⟩
set_option maxHeartbeats 4000000 in
theorem ok_q54 (F:FB K "_law_stayed" "_law_stayed" s_q54 ad.q54 ["_law_lines","_law_kind","_law_full","_law_cell","_law_charge"]) (T:Txt K mg ad) (G_Lsign:Zn P w K mg base CX0 1 ad.Lsign ["_law_lines","_law_cell"] (z249)):Zn P w K mg base CX0 2 ad.q54 ["_law_lines","_law_kind","_law_full","_law_cell","_law_charge"] (z567):=by
 obtain⟨fd,F,B⟩:=F
 refine⟨fd,B,?_⟩
 refine F.ok sc_q54 (fun vs H Q E h=>?_) (fun cdv A outer s H vs Q E HR h=>?_)
 ·obtain⟨x,i,l,w,h,sg,n,cell,q,rfl,_⟩:=h
  rfl
 ·obtain⟨x,i,l,w,h,sg,n,cell,q,rfl,hi,i3,hL,g,c01,hq⟩:=h
  have ND:=sc_q54.nd
  have HU0:=HR.units0
  have HU:=HR.units
  have hA:=HR.hd
  have hz:(100000:Nat)≤sizeLine:=by rw [sizeLine_eq];decide
  refine⟨_,(pss_cons (pst 5 ND z135 (pe_dget (hu1 HU) (pe_disp (pps_cons pe_str pe_int (pps_cons pe_str pe_int (pps_cons pe_str pe_int pps_nil))) rfl rfl (by intro z;cases z) (by decide)) (pvn 1 z224) (fun _ _=>rfl)))
 (pss_cons (ps_if (ptc op_eq (pcl G_Lsign HR z225 T.mg_Lsign T.k_Lsign (pac (pvn 0 z208) (pac (pvn 3 z221) pa_nil))) pe_str)
 (pss_one (pst 4 ND z50 (pe_op op_add (pvn 4 z50) (pvn 5 z135))))
 pss_nil)
 (pss_one (ps_ret (pcb (call_min2 rfl) z492 T.b_min PyProof.Rows.Boot.«min» (pac (pvn 2 z217) (pac (pvn 4 z50) pa_nil))))))),?_⟩
  obtain⟨k1,k2,k3⟩:=kx i x hi
  walk_at "RD"
  intro p np
  refine⟨upd_same,[(.inr (Str.ofString "cart"),.int 2),(.inr (Str.ofString "crawler"),.int 1),(.inr (Str.ofString "runner"),.int 3)],rfl,by decide,?_⟩
  have em:mergeK [] [((.inr (Str.ofString "cart"):Key),V.int 2),(.inr (Str.ofString "crawler"),.int 1),(.inr (Str.ofString "runner"),.int 3)]=[(.inr (Str.ofString "cart"),.int 2),(.inr (Str.ofString "crawler"),.int 1),(.inr (Str.ofString "runner"),.int 3)]:=by decide +kernel
  rw [em]
  have S:Same H (upd (upd H p (HO.dK [])) p (HO.dK [((.inr (Str.ofString "cart"):Key),V.int 2),(.inr (Str.ofString "crawler"),.int 1),(.inr (Str.ofString "runner"),.int 3)])):=z52 (zz0 np) np
  have gv:∃ k:Int,valV [((.inr (Str.ofString "cart"):Key),V.int 2),(.inr (Str.ofString "crawler"),.int 1),(.inr (Str.ofString "runner"),.int 3)] (.inr x)=some (.int k)∧∀ c,gainOf i c=if c=43 then k else 0:=by
   match i,hi,i3 with
   | 0,hi,_=>cases hi;exact⟨2,by decide +kernel,fun _=>rfl⟩
   | 1,hi,_=>cases hi;exact⟨1,by decide +kernel,fun _=>rfl⟩
   | 2,hi,_=>cases hi;exact⟨3,by decide +kernel,fun _=>rfl⟩
   | (i + 3),_,i3=>omega
  obtain⟨k,hk,hg⟩:=gv
  refine⟨.int k,by rw [← hk];exact DGet.k (k:=.inr x) upd_same,l,w,h,sg,cell,rfl,S _ _ hL,g,c01.1,c01.2,rfl,?_⟩
  have z:=hq _ S
  rw [hg] at z
  by_cases e:at_ sg cell=43
  ·rw [if_pos (q43.mpr e)]
   rw [if_pos e] at z
   refine⟨k,rfl,?_⟩
   rw [show (if q + k < n then q + k else n)=min n (q + k) by split <;> omega]
   exact z
  ·rw [if_neg (fun y=>e (q43.mp y))]
   rw [if_neg e,Int.add_zero] at z
   rw [show (if q < n then q else n)=min n q by split <;> omega]
   exact z
theorem sc_q57:FnScope ["_law_way","_law_time","_law_begin","_law_cells"] ["_law_way","_law_time"] (defScope s_q57):=⟨rfl,rfl,rfl,by decide +kernel,rfl,by decide +kernel,by decide +kernel⟩
set_option maxHeartbeats 4000000 in
theorem ok_q57 (F:FB K "_law_place" "_law_place" s_q57 ad.q57 ["_law_way","_law_time"]) (T:Txt K mg ad):Zn P w K mg base CX0 1 ad.q57 ["_law_way","_law_time"] (z273):=by
 obtain⟨fd,F,B⟩:=F
 refine⟨fd,B,?_⟩
 refine F.ok sc_q57 (fun vs H Q E h=>?_) (fun cdv A outer s H vs Q E HR h=>?_)
 ·obtain⟨v,b,cs,t,rfl,_⟩:=h
  rfl
 ·obtain⟨v,b,cs,t,rfl,hw,hc,hq⟩:=h
  have ND:=sc_q57.nd
  have HU0:=HR.units0
  have HU:=HR.units
  have hA:=HR.hd
  have hz:(100000:Nat)≤sizeLine:=by rw [sizeLine_eq];decide
  refine⟨_,(pss_cons (ps_asg (pvn 0 z258) (pg_tup (n:=2) (calm0 rfl) (pgs_cons (pgn 2 ND z71) (pgs_cons (pgn 3 ND z70) pgs_nil))))
 (pss_cons (ps_if (ptc op_lt (pvn 1 z133) (pvn 2 z71))
 (pss_one (ps_ret pe_non))
 pss_nil)
 (pss_one (ps_ret (pe_ix ix_tup (pvn 3 z70) (pcb (call_min2 rfl) z490 T.b_min PyProof.Rows.Boot.«min» (pac (pe_op op_sub (pvn 1 z133) (pvn 2 z71)) (pac (pe_op op_sub (pcb call_len_seq z480 T.b_len PyProof.Rows.Boot.«len» (pac (pvn 3 z70) pa_nil)) pe_int) pa_nil))) (fun _ _=>rfl)))))),?_⟩
  obtain⟨p,q,rfl,h1,h2⟩:=id hw
  walk_at "RD"
  refine⟨_,SqT.of h1,rfl,_,_,rfl,_,_,rfl,rfl,_,rfl,?_⟩
  unfold plc at hq
  split
  ·rename_i z
   rw [if_pos z] at hq
   exact hq
  ·rename_i z
   rw [if_neg z] at hq
   obtain⟨i0,i1⟩:=idx_in (b:=b) (cs:=cs) (t:=t) (by omega) hc
   refine⟨_,rfl,_,rfl,_,.inr (SqT.of h2),_,rfl,_,SqT.of h2,_,?_,hq⟩
   rw [List.length_map]
   exact z442 i0 i1
theorem z438:FnScope ["_law_ways_here","_law_number","_law_cell","_law_other","_law_time","_law_one","_law_ahead","_law_behind"] ["_law_ways_here","_law_number","_law_cell","_law_other","_law_time"] (defScope z93):=⟨rfl,rfl,rfl,by decide +kernel,rfl,by decide +kernel,by decide +kernel⟩
set_option maxHeartbeats 4000000 in
theorem z571 (F:FB K "_law_open" "_law_open" z93 ad.Lopen ["_law_ways_here","_law_number","_law_cell","_law_other","_law_time"]) (T:Txt K mg ad) (G_q57:Zn P w K mg base CX0 1 ad.q57 ["_law_way","_law_time"] (z273)):Zn P w K mg base CX0 2 ad.Lopen ["_law_ways_here","_law_number","_law_cell","_law_other","_law_time"] (spLOpn):=by
 obtain⟨fd,F,B⟩:=F
 refine⟨fd,B,?_⟩
 refine F.ok z438 (fun vs H Q E h=>?_) (fun cdv A outer s H vs Q E HR h=>?_)
 ·obtain⟨e,es,num,cell,other,t,rfl,_⟩:=h
  rfl
 ·obtain⟨e,es,num,cell,other,t,rfl,hk,hq⟩:=h
  have ND:=z438.nd
  have HU0:=HR.units0
  have HU:=HR.units
  have hA:=HR.hd
  have hz:(100000:Nat)≤sizeLine:=by rw [sizeLine_eq];decide
  refine⟨_,(pss_cons (z576 (ps_for PassesOwn.never (calm0 rfl) (z408 (pvn 0 z18)) (pgn 5 ND z29)
 (pss_one (ps_if (ptc op_ne (pvn 5 z29) (pvn 1 z148))
 (pss_cons (pst 6 ND z90 (pcl G_q57 HR z87 T.mg_q57 T.k_q57 (pac (pe_dget (hu1 HU) (pvn 0 z18) (pvn 5 z29) (fun _ _=>rfl)) (pac (pvn 4 z100) pa_nil))))
 (pss_cons (pst 7 ND z28 (pcl G_q57 HR z87 T.mg_q57 T.k_q57 (pac (pe_dget (hu1 HU) (pvn 0 z18) (pvn 5 z29) (fun _ _=>rfl)) (pac (pe_op op_add (pvn 4 z100) pe_int) pa_nil))))
 (pss_one (ps_if (PW.pt (pw_or (ptc op_eq (pvn 7 z28) (pvn 3 z85)) (pw_or1 (PW.pt (pw_and (ptc op_eq (pvn 6 z90) (pvn 3 z85)) (pw_and1 (ptc op_eq (pvn 7 z28) (pvn 2 z177))))))))
 (pss_one (ps_ret pe_bl))
 pss_nil))))
 pss_nil))))
 (pss_one (ps_ret pe_bl))),?_⟩
  obtain⟨h2,en⟩:=id hk
  have el:=en.len
  have nt:∀ xs,H e≠some (.tup xs):=fun xs z=>by rw [h2] at z;cases z
  walk_at "RD"
  refine .inl ⟨e,dw es,h2,dw es,.inl ⟨h2,fun o=>z481 (fun i σ H'=>∃ x y z,SameB e H H'∧H' e=some (.frz o (.dK (dw es)))∧σ=[some (V.ref e),some (V.int num),some (V.int cell),some (V.int other),some (V.int t),x,y,z]∧OpenIs (besd (es.take i) num) cell other t) ⟨none,none,none,z76 (same_b (Same.refl _)),upd_same,rfl,open_0⟩ (fun i σ H' _ ⟨_,_,_,_,hf,_⟩=>hf) ?_ ?_⟩⟩
  ·rintro i k v' σ H' hi ⟨x,y,z,sB,hf,rfl,hn⟩
   obtain⟨e',he,rfl,rfl⟩:=dw_at hi
   have hm:=List.mem_of_getElem? he
   have tp:=sB.tups nt
   have bt:=z499 (n:=num) he
   walk_at "RD"
   refine⟨rfl,?_⟩
   by_cases q:e'.k=num
   ·rw [if_neg (by simp [kV,q])]
    rw [if_pos q] at bt
    exact⟨sB,hf,by rw [bt];exact hn⟩
   ·rw [if_pos (fun y=>by cases y;exact q rfl)]
    rw [if_neg q] at bt
    have wy:=WayAt.tups tp (en.ok e' hm).1
    have cn:=(en.ok e' hm).2.1.1
    have hit:OpenIs (besd es num) cell other t→plc e'.b e'.c (t + 1)≠.int other∧¬ (plc e'.b e'.c t=.int other∧plc e'.b e'.c (t + 1)=.int cell):=fun z=>z e' (z461.mpr ⟨hm,q⟩)
    have bad:¬ OpenIs (besd es num) cell other t→(∃ o,H' e=some (HO.frz o (HO.dK (dw es))))∧Q (V.bl false) (upd H' e (HO.dK (dw es))):=fun z=>by
     have e1:=hq _ (z263 h2 sB)
     rw [Bool.eq_false_iff.mpr (fun y=>z (z439.mp y))] at e1
     exact⟨⟨o,hf⟩,e1⟩
    have more:plc e'.b e'.c (t + 1)≠.int other∧¬ (plc e'.b e'.c t=.int other∧plc e'.b e'.c (t + 1)=.int cell)→SameB e H H'∧H' e=some (HO.frz o (HO.dK (dw es)))∧OpenIs (besd (es.take (i + 1)) num) cell other t:=fun z=>⟨sB,hf,by
     rw [bt]
     intro e2 he2
     rcases List.mem_append.mp he2 with y | y
     ·exact hn e2 y
     ·rw [List.mem_singleton.mp y];exact z⟩
    have sc:∀ (u z:Int),scal (plc e'.b e'.c u) (.int z)=true:=fun u z=>sc_plc (plc_or _ _ _) (.inr ⟨z,rfl⟩)
    refine⟨e'.v,fz_get hf en.nd hm,e'.v,e'.b,e'.c,t,rfl,wy,cn,e'.v,fz_get hf en.nd hm,e'.v,e'.b,e'.c,t + 1,rfl,wy,cn,sc _ _,?_⟩
    by_cases c1:plc e'.b e'.c (t + 1)=.int other
    ·rw [if_pos c1]
     exact bad fun z=>(hit z).1 c1
    ·rw [if_neg c1]
     refine⟨sc _ _,?_⟩
     by_cases c2:plc e'.b e'.c t=.int other
     ·rw [if_pos c2]
      refine⟨sc _ _,?_⟩
      by_cases c3:plc e'.b e'.c (t + 1)=.int cell
      ·rw [if_pos c3]
       exact bad fun z=>(hit z).2 ⟨c2,c3⟩
      ·rw [if_neg c3]
       exact more ⟨c1,fun z=>c3 z.2⟩
     ·rw [if_neg c2]
      exact more ⟨c1,fun z=>c2 z.1⟩
  ·rintro σ H' ⟨x,y,z,sB,hf,rfl,hn⟩
   rw [dw_len,z600] at hn
   have e1:=hq _ (z263 h2 sB)
   rw [z439.mpr hn] at e1
   exact⟨⟨o,hf⟩,e1⟩
theorem z455:FnScope ["_law_script","_law_first","_law_lines","_law_number","_law_cells","_law_book","_law_ways_here","_law_k","_law_draw","_law_walk","_law_step","_law_some","_law_one","_law_way"] ["_law_script","_law_first","_law_lines","_law_number"] (defScope z9):=⟨rfl,rfl,rfl,by decide +kernel,rfl,by decide +kernel,by decide +kernel⟩
set_option maxHeartbeats 4000000 in
theorem z574 (F:FB K "_law_ways" "_law_ways" z9 ad.Lways ["_law_script","_law_first","_law_lines","_law_number"]) (T:Txt K mg ad) (G_q55:Zn P w K mg base CX0 2 ad.q55 ["_law_script","_law_k"] (spLMix K)) (G_Lsign:Zn P w K mg base CX0 1 ad.Lsign ["_law_lines","_law_cell"] (z249)) (G_q52:Zn P w K mg base CX0 2 ad.q52 ["_law_lines","_law_cell"] (spLBes)) (G_q42:Zn P w K mg base CX0 1 ad.q42 ["self"] (z568 ad)) (G_q49:Zn P w K mg base (CXE P w) 5 ad.q49 ["self","number","way"] (spPut ad)):Zn P w K mg base CX0 6 ad.Lways ["_law_script","_law_first","_law_lines","_law_number"] (z545 ad K):=by
 obtain⟨fd,F,B⟩:=F
 refine⟨fd,B,?_⟩
 obtain⟨fd_q49,B_q49,GO_q49⟩:=G_q49
 refine F.ok z455 (fun vs H Q E h=>?_) (fun cdv A outer s H vs Q E HR h=>?_)
 ·obtain⟨a,l,ns,f,num,w,h,sg,rfl,_⟩:=h
  rfl
 ·obtain⟨a,l,ns,f,num,w,h,sg,rfl,hS,hb,f0,f1,hL,g,hq⟩:=h
  have ND:=z455.nd
  have HU0:=HR.units0
  have HU:=HR.units
  have hA:=HR.hd
  have hz:(100000:Nat)≤sizeLine:=by rw [sizeLine_eq];decide
  refine⟨_,(pss_cons (z465 (i:=4) (z8.of (osc:=defScope z9) (tn:=["_law_cell"]) (cn:=["_law_lines"]) (caps:=[2]) rfl rfl (by decide +kernel) (by decide +kernel) (by decide +kernel) (by decide +kernel) rfl) (calm0 rfl) ND rfl z162 (pi_range1 (gl_of z105) T.b_range (pac (pe_op op_mul (pcb call_len_seq z126 T.b_len PyProof.Rows.Boot.«len» (pac (pvn 2 z37) pa_nil)) (pcb call_len_str z126 T.b_len PyProof.Rows.Boot.«len» (pac (pe_ix ix_list (pvn 2 z37) pe_int (fun _ _=>rfl)) pa_nil))) pa_nil) (st1 rfl))
 (fun _ _ _ _ _=>(pg_name (i:=0) (show (["_law_cell","_law_lines"]:List Str).Nodup by decide +kernel) rfl (Or.inl rfl))) (fun _ _ _ _ _=>(z331 (ptc op_ne (pclC G_Lsign HR T.mg_Lsign T.k_Lsign z376 (pac (pv 1) (pac (pv 0) pa_nil))) pe_str))) (fun _ _ _ _ _=>(pv 0)) (hsw:=by rfl))
 (pss_cons (pst 5 ND z55 (pmk0 T.mk_Book G_q42 HR z322 T.mg_Book))
 (pss_cons (pst 6 ND z16 pe_dnewK)
 (pss_cons (ps_for PassesOwn.never (calm0 rfl) (pi_range1 (gl_of z105) T.b_range (pac (pe_ix ix_list (pe_lst (pac pe_int (pac pe_int (pac pe_int (pac pe_int (pac pe_int (pac pe_int pa_nil))))))) (pe_op op_mod (pcl G_q55 HR z84 T.mg_q55 T.k_q55 (pac (pvn 0 z73) (pac (pvn 1 z88) pa_nil))) pe_int) (fun _ _=>rfl)) pa_nil) (st1 rfl)) (pgn 7 ND z95)
 (pss_cons (pst 8 ND z7 (pcl G_q55 HR z84 T.mg_q55 T.k_q55 (pac (pvn 0 z73) (pac (pe_op op_add (pe_op op_add (pvn 1 z88) pe_int) (pvn 7 z95)) pa_nil))))
 (pss_cons (pst 9 ND z11 (pe_lst (pac (pe_ix ix_list (pvn 4 z91) (pe_op op_mod (pvn 8 z7) (pcb call_len_seq z126 T.b_len PyProof.Rows.Boot.«len» (pac (pvn 4 z91) pa_nil))) (fun _ _=>rfl)) pa_nil)))
 (pss_cons (ps_for PassesOwn.never (calm0 rfl) (pi_range1 (gl_of z105) T.b_range (pac (pe_op op_mod (pe_op op_fdiv (pvn 8 z7) pe_int) pe_int) pa_nil) (st1 rfl)) (pgn 10 ND z102)
 (pss_cons (pst 11 ND z54 (pe_op op_cat (pe_lst (pac (pe_ix ix_list (pvn 9 z11) (pe_un un_neg pe_int) (fun _ _=>rfl)) pa_nil)) (pcl G_q52 HR z156 T.mg_q52 T.k_q52 (pac (pvn 2 z37) (pac (pe_ix ix_list (pvn 9 z11) (pe_un un_neg pe_int) (fun _ _=>rfl)) pa_nil)))))
 (pss_one (ps_expr (pe_bm PySem.F.plainAttrs_list PySem.F.slot_list_append PySem.F.type_list_append mt_append (pvn 9 z11) (pac (pe_ix ix_list (pvn 11 z54) (pe_op op_mod (pe_op op_fdiv (pvn 8 z7) (pe_op op_add pe_int (pe_op op_mul pe_int (pvn 10 z102)))) (pcb call_len_seq z126 T.b_len PyProof.Rows.Boot.«len» (pac (pvn 11 z54) pa_nil))) (fun _ _=>rfl)) pa_nil))))))
 (pss_cons (pst 12 ND z62 (pe_ix ix_list (pe_lst (pac pe_int (pac pe_int (pac pe_int (pac pe_int pa_nil))))) (pe_op op_mod (pe_op op_add (pvn 7 z95) (pe_op op_fdiv (pvn 8 z7) pe_int)) pe_int) (fun _ _=>rfl)))
 (pss_cons (pst 13 ND z64 (pe_tup (pac (pe_op op_mod (pe_op op_fdiv (pvn 8 z7) pe_int) pe_int) (pac (pct call_tuple_of z278 T.b_tuple PyProof.Rows.Boot.«tuple» (pac (pvn 9 z11) pa_nil)) pa_nil))))
 (pss_one (z637 rfl rfl (gl_of z285) T.mg_Meets z557 (fun pins EE WE XB=>(pss_one (ps_expr (z601 (pvn 5 z55) T.cl_Book T.m_q49 GO_q49 (HR.mono (by decide)) B_q49 .nil XB (pac (pvn 12 z62) (pac (pvn 13 z64) pa_nil)) (hst:=stp rfl) (hpl:=anp rfl)))))
 (fun pins ea C' dx ob mk=>(pss_one ps_continue))
 (pss_one (ps_dput (hu1 HU) (pvn 6 z16) (pvn 12 z62) (pvn 13 z64) rfl))))))))))
 (pss_one (ps_ret (pe_tup (pac (pvn 5 z55) (pac (pvn 6 z16) pa_nil))))))))),?_⟩
  have w0:=g.w0
  have w1:=g.w1
  have h0:=g.h0
  have h1:=g.h1
  have len:=g.len
  have l100:=len100 g
  have e0:atI ((Fl.linesOf w h sg).map V.str) 0=some (V.str (lineOf w sg 0)):=atI_nat (j:=0) (by rw [List.getElem?_map,z41 (by omega)];rfl)
  have eL:=z82 g (show 0 < h by omega)
  have em:((h:Int) * (w:Int))=((sg.length:Nat):Int):=by rw [len,Nat.mul_comm];simp
  have cl:=z532 g
  have cne:cellsOf sg≠[]:=by
   obtain⟨c,hc,h35⟩:=g.cell
   obtain⟨j,hj⟩:=List.mem_iff_getElem?.mp hc
   intro z
   have hm:((j:Nat):Int)∈cellsOf sg:=z361.mpr (by
    unfold hasI at_
    have:=(List.getElem?_eq_some_iff.mp hj).1
    rw [Int.toNat_natCast,List.getD_eq_getElem?_getD,hj,decide_eq_true (show (0:Int)≤(j:Nat) by omega),decide_eq_true (show ((j:Nat):Int) < sg.length by omega)]
    simpa using h35)
   rw [z] at hm
   cases hm
  have cin:∀ c∈cellsOf sg,InF sg c:=fun c hc=>by
   have:=z361.mp hc
   unfold hasI at this
   simp only [Bool.and_eq_true,decide_eq_true_eq] at this
   exact this.1
  refine zz1 (fun σ H'=>∃ pc,Same H H'∧H pc=none∧H' pc=some (.lst ((cellsOf sg).map V.int))∧σ=[some (V.ref a),some (V.int f),some (V.ref l),some (V.int num),some (V.ref pc),none,none,none,none,none,none,none,none,none]) (fun nx hk=>?_) ?_
  ·walk_at "RD"
   refine⟨_,.inl (SqL.of hL),_,SqL.of hL,_,e0,_,rfl,by rw [eL];omega,?_⟩
   rw [eL,List.length_map,z58]
   refine⟨.inl ⟨by omega,by omega⟩,by rw [em];omega,by rw [em];omega,?_⟩
   rw [em,Int.toNat_natCast]
   refine z123 src_range (noWall sg) (fun v=>v) (fun y hy Q hh=>?_) (fun y hy _ Q hh=>?_) (by rw [List.length_map,List.length_range];omega) ?_
   ·obtain⟨i,hi,rfl⟩:=List.mem_map.mp hy
    have hi':=List.mem_range.mp hi
    walk_at "RD"
    refine⟨l,w,h,sg,_,rfl,hL,g,by omega,by omega,rfl,?_⟩
    have e:noWall sg (V.int (0 + ((i:Nat):Int)))=!decide (chr1 (at_ sg (0 + ((i:Nat):Int)))=V.str (Str.ofString "#")):=by
     show (!decide _)=_
     congr 1
     exact decide_eq_decide.mpr q35.symm
    rw [e] at hh
    exact hh
   ·walk_at "RD"
    exact hh
   ·intro D hD
    have e:((((List.range sg.length).map fun i=>V.int (0 + ((i:Nat):Int))).filter (noWall sg)).map fun v=>v)=(cellsOf sg).map V.int:=by
     rw [List.map_id',cellsOf,places]
     have:((List.range sg.length).map fun i=>V.int (0 + ((i:Nat):Int)))=((List.range sg.length).map fun i=>((i:Nat):Int)).map V.int:=by
      rw [List.map_map]
      refine List.map_congr_left fun i _=>?_
      simp
     rw [this,List.filter_map]
     rfl
    rw [e]
    exact hk _ _ ⟨D,zz0 hD,hD,upd_same,rfl⟩
  rintro σ H1 ⟨pc,s1,npc,hpc,rfl⟩
  refine zz1 (fun σ H'=>∃ p d,Same H1 H'∧H1 d=none∧BookAt ad.C_Book H' p d []∧σ=[some (V.ref a),some (V.int f),some (V.ref l),some (V.int num),some (V.ref pc),some (V.ref p),none,none,none,none,none,none,none,none]) (fun nx hk=>?_) ?_
  ·walk_at "RD"
   intro x dx n1 n2 n3
   refine⟨x,dx,rfl,upd_same,fun d nd=>⟨rfl,?_⟩⟩
   obtain⟨m1,m2,m3⟩:=made (o3:=HO.dK []) (o4:=.ins ad.C_Book dx (wl d)) n1 n2 n3 nd
   exact hk _ _ ⟨x,d,m1,m3,⟨⟨dx,upd_same⟩,by rw [upd_ne m2,upd_same];rfl⟩,rfl⟩
  rintro σ H2 ⟨p,d,s2,nd,bk2,rfl⟩
  refine zz1 (fun σ H'=>∃ e,Same H1 H'∧H1 e=none∧Two ad.C_Book H' p d e []∧σ=[some (V.ref a),some (V.int f),some (V.ref l),some (V.int num),some (V.ref pc),some (V.ref p),some (V.ref e),none,none,none,none,none,none,none]) (fun nx hk=>?_) ?_
  ·walk_at "RD"
   exact fun e ne=>hk _ _ ⟨e,s2.trans (zz0 ne),s2.free ne,z645 bk2 ne,rfl⟩
  rintro σ H3 ⟨e,s3,ne,tw,rfl⟩
  refine zz1 (fun σ H'=>∃ es x7 x8 x9 x10 x11 x12 x13,Same H1 H'∧Two ad.C_Book H' p d e es∧σ=[some (V.ref a),some (V.int f),some (V.ref l),some (V.int num),some (V.ref pc),some (V.ref p),some (V.ref e),x7,x8,x9,x10,x11,x12,x13]) (fun nx hk=>?_) ?_
  ·walk_at "RD"
   refine⟨by omega,fun q nq=>⟨a,ns,_,rfl,((s1.trans s3).trans (zz0 nq)).seq hS,hb,f0,by omega,fun u u0 u1=>⟨u,rfl,by decide,_,SqL.of upd_same,?_⟩⟩⟩
   obtain⟨jn,hjn,ej⟩:∃ jn:Nat,jn≤3∧atI [V.int 1,V.int 2,V.int 0,V.int 1,V.int 2,V.int 3] (u % 6)=some (V.int (jn:Int)):=by
    have h6:u % 6=0∨u % 6=1∨u % 6=2∨u % 6=3∨u % 6=4∨u % 6=5:=by omega
    rcases h6 with z | z | z | z | z | z <;> rw [z]
    ·exact⟨1,by decide,rfl⟩
    ·exact⟨2,by decide,rfl⟩
    ·exact⟨0,by decide,rfl⟩
    ·exact⟨1,by decide,rfl⟩
    ·exact⟨2,by decide,rfl⟩
    ·exact⟨3,by decide,rfl⟩
   refine⟨_,ej,_,rfl,by omega,by omega,?_⟩
   rw [Int.toNat_natCast]
   refine z142 (fun j σ H'=>∃ es x7 x8 x9 x10 x11 x12 x13,Same H1 H'∧Two ad.C_Book H' p d e es∧σ=[some (V.ref a),some (V.int f),some (V.ref l),some (V.int num),some (V.ref pc),some (V.ref p),some (V.ref e),x7,x8,x9,x10,x11,x12,x13]) ⟨[],none,none,none,none,none,none,none,s3.trans (zz0 nq),tw.same (zz0 nq),rfl⟩ ?_ ?_
   ·rintro j σ H' N hj ⟨es,x7,x8,x9,x10,x11,x12,x13,s4,tw4,rfl⟩ hN
    have sA:Same H H':=s1.trans s4
    refine zz1 (fun σ H''=>∃ v:Int,0≤v∧H''=H'∧σ=[some (V.ref a),some (V.int f),some (V.ref l),some (V.int num),some (V.ref pc),some (V.ref p),some (V.ref e),some (V.int (0 + (j:Int))),some (V.int v),x9,x10,x11,x12,x13]) (fun nx hk=>?_) ?_
    ·walk_at "RD"
     exact⟨a,ns,_,rfl,sA.seq hS,hb,by omega,by omega,fun v v0 v1=>hk _ _ ⟨v,v0,rfl,rfl⟩⟩
    rintro σ H5 ⟨v,v0,rfl,rfl⟩
    refine zz1 (fun σ H''=>∃ wl c0,H5 wl=none∧Same H5 H''∧H'' wl=some (.lst [V.int c0])∧InF sg c0∧σ=[some (V.ref a),some (V.int f),some (V.ref l),some (V.int num),some (V.ref pc),some (V.ref p),some (V.ref e),some (V.int (0 + (j:Int))),some (V.int v),some (V.ref wl),x10,x11,x12,x13]) (fun nx hk=>?_) ?_
    ·walk_at "RD"
     have clp:=List.length_pos_iff.mpr cne
     have e1:=Int.emod_nonneg v (show ((cellsOf sg).length:Int)≠0 by omega)
     have e2:=Int.emod_lt_of_pos v (show (0:Int) < (cellsOf sg).length by omega)
     obtain⟨i,hi⟩:=Int.eq_ofNat_of_zero_le e1
     obtain⟨c,hc⟩:∃ c,(cellsOf sg)[i]?=some c:=⟨_,List.getElem?_eq_getElem (by omega)⟩
     have hp5:=s4 _ _ hpc
     refine⟨_,.inl (SqL.of hp5),by rw [List.length_map];omega,_,SqL.of hp5,V.int c,by rw [List.length_map,hi];exact atI_nat (by rw [List.getElem?_map,hc];rfl),by omega,fun q nq=>hk _ _ ⟨q,c,nq,zz0 nq,upd_same,cin c (List.mem_of_getElem? hc),rfl⟩⟩
    rintro σ H6 ⟨wl,c0,nwl,s6,hw6,ic0,rfl⟩
    refine zz1 (fun σ H''=>∃ cs x10 x11,Same H5 H''∧H'' wl=some (.lst (cs.map V.int))∧cs≠[]∧cs.length≤10∧(∀ c∈cs,InF sg c)∧σ=[some (V.ref a),some (V.int f),some (V.ref l),some (V.int num),some (V.ref pc),some (V.ref p),some (V.ref e),some (V.int (0 + (j:Int))),some (V.int v),some (V.ref wl),x10,x11,x12,x13]) (fun nx hk=>?_) ?_
    ·walk_at "RD"
     refine⟨⟨by decide,by decide⟩,by decide,by omega,by omega,z142 (fun jj σ H''=>∃ cs x10 x11,Same H5 H''∧H'' wl=some (.lst (cs.map V.int))∧cs≠[]∧cs.length=jj + 1∧(∀ c∈cs,InF sg c)∧σ=[some (V.ref a),some (V.int f),some (V.ref l),some (V.int num),some (V.ref pc),some (V.ref p),some (V.ref e),some (V.int (0 + (j:Int))),some (V.int v),some (V.ref wl),x10,x11,x12,x13]) ⟨[c0],x10,x11,s6,hw6,by simp,rfl,fun c hc=>by rw [List.mem_singleton.mp hc];exact ic0,rfl⟩ ?_ ?_⟩
     ·rintro jj σ H'' N2 hjj ⟨cs,x10,x11,s7,hw7,csn,csl,csi,rfl⟩ hN2
      have lastI:InF sg (endC cs):=csi _ (by
       unfold endC
       rw [List.getD_eq_getElem?_getD,List.getElem?_eq_getElem (by omega)]
       exact List.getElem_mem _)
      have lastA:=z635 csn
      walk_at "RD"
      have be:=z107 (w:=w) (sg:=sg) (c:=endC cs)
      refine⟨_,SqL.of hw7,_,lastA,by omega,fun q1 nq1=>⟨_,SqL.of ((zz0 nq1) _ _ hw7),_,lastA,l,w,h,sg,_,rfl,(sA.trans (s7.trans (zz0 nq1))) _ _ hL,g,lastI,fun q2 H2 nq2 s2 hq2=>⟨q2,rfl,_,s2 _ _ upd_same,_,hq2,by rw [List.length_map];simp only [List.length_cons,List.length_nil];omega,fun q3 nq3=>?_⟩⟩⟩
      have eo:[V.int (endC cs)]++(v2 w sg (endC cs)).map V.int=([endC cs]++v2 w sg (endC cs)).map V.int:=rfl
      rw [eo]
      have s12:=(zz0 (o:=HO.lst [V.int (endC cs)]) nq1).trans s2
      have s8:=s12.trans (zz0 (o:=HO.lst (([endC cs]++v2 w sg (endC cs)).map V.int)) nq3)
      have hw8:=s8 _ _ hw7
      have ol:0 < ([endC cs]++v2 w sg (endC cs)).length:=by simp
      have e1:=Int.emod_nonneg (v / (45 + 7 * (0 + (jj:Int)))) (show (([endC cs]++v2 w sg (endC cs)).length:Int)≠0 by omega)
      have e2:=Int.emod_lt_of_pos (v / (45 + 7 * (0 + (jj:Int)))) (show (0:Int) < ([endC cs]++v2 w sg (endC cs)).length by omega)
      obtain⟨i,hi⟩:=Int.eq_ofNat_of_zero_le e1
      obtain⟨c,hc⟩:∃ c,([endC cs]++v2 w sg (endC cs))[i]?=some c:=⟨_,List.getElem?_eq_getElem (by omega)⟩
      have cI:InF sg c:=by
       rcases List.mem_append.mp (List.mem_of_getElem? hc) with y | y
       ·rw [List.mem_singleton.mp y];exact lastI
       ·exact z121 g y
      refine⟨.inl ⟨rfl,_,SqL.of hw8⟩,.inl ⟨by decide,by decide⟩,⟨by omega,by omega⟩,_,.inl (SqL.of upd_same),by rw [List.length_map];omega,_,SqL.of upd_same,V.int c,by rw [List.length_map,hi];exact atI_nat (by rw [List.getElem?_map,hc];rfl),_,hw8,by rw [List.length_map];omega,hN2 _ _ ⟨cs++[c],_,_,z52 (s7.trans s8) nwl,by rw [upd_same,List.map_append];rfl,by simp,by simp [csl],fun c' hc'=>?_,rfl⟩⟩
      rcases List.mem_append.mp hc' with y | y
      ·exact csi c' y
      ·rw [List.mem_singleton.mp y];exact cI
     ·rintro σ H'' ⟨cs,x10,x11,s7,hw7,csn,csl,csi,rfl⟩
      exact hk _ _ ⟨cs,x10,x11,s7,hw7,csn,by omega,csi,rfl⟩
    rintro σ H7 ⟨cs,y10,y11,s7,hw7,csn,csl,csi,rfl⟩
    refine zz1 (fun σ H''=>∃ o:Int,0≤o∧o≤40∧Same H5 H''∧H'' wl=some (.lst (cs.map V.int))∧σ=[some (V.ref a),some (V.int f),some (V.ref l),some (V.int num),some (V.ref pc),some (V.ref p),some (V.ref e),some (V.int (0 + (j:Int))),some (V.int v),some (V.ref wl),y10,y11,some (V.int o),x13]) (fun nx hk=>?_) ?_
    ·walk_at "RD"
     refine⟨by omega,fun q nq=>⟨⟨by decide,by decide⟩,by decide,_,SqL.of upd_same,?_⟩⟩
     have h4:(0 + (j:Int) + v / 9000) % 4=0∨(0 + (j:Int) + v / 9000) % 4=1∨(0 + (j:Int) + v / 9000) % 4=2∨(0 + (j:Int) + v / 9000) % 4=3:=by omega
     rcases h4 with z | z | z | z <;> rw [z]
     ·exact⟨_,rfl,hk _ _ ⟨3,by decide,by decide,s7.trans (zz0 nq),(zz0 nq) _ _ hw7,rfl⟩⟩
     ·exact⟨_,rfl,hk _ _ ⟨0,by decide,by decide,s7.trans (zz0 nq),(zz0 nq) _ _ hw7,rfl⟩⟩
     ·exact⟨_,rfl,hk _ _ ⟨7,by decide,by decide,s7.trans (zz0 nq),(zz0 nq) _ _ hw7,rfl⟩⟩
     ·exact⟨_,rfl,hk _ _ ⟨1,by decide,by decide,s7.trans (zz0 nq),(zz0 nq) _ _ hw7,rfl⟩⟩
    rintro σ H8 ⟨o,o0,o1,s8,hw8,rfl⟩
    refine zz1 (fun σ H''=>∃ wv b,Same H5 H''∧WayAt H'' wv b cs∧Tiny b cs∧σ=[some (V.ref a),some (V.int f),some (V.ref l),some (V.int num),some (V.ref pc),some (V.ref p),some (V.ref e),some (V.int (0 + (j:Int))),some (V.int v),some (V.ref wl),y10,y11,some (V.int o),some wv]) (fun nx hk=>?_) ?_
    ·walk_at "RD"
     exact⟨⟨by decide,by decide⟩,by decide,_,.inl ⟨SqL.of hw8,fun q nq=>⟨by omega,fun r nr=>hk _ _ ⟨.ref r,v / 4001 % 3,s8.trans ((zz0 nq).trans (zz0 nr)),⟨r,q,rfl,upd_same,(zz0 nr) _ _ upd_same⟩,⟨csn,by omega,by omega,by omega⟩,rfl⟩⟩⟩⟩
    rintro σ H9 ⟨wv,b,s9,wy,ty,rfl⟩
    have tw9:=tw4.same s9
    obtain⟨⟨dx,ho⟩,hd⟩:=id tw9.bk
    walk_at "RD"
    refine⟨fun σ' cls dx' H'=>cls=.ref ad.C_Meets∧Same H9 H'∧σ'=[some (V.ref a),some (V.int f),some (V.ref l),some (V.int num),some (V.ref pc),some (V.ref p),some (V.ref e),some (V.int (0 + (j:Int))),some (V.int v),some (V.ref wl),y10,y11,some (V.int o),some wv],⟨_,_,ho,w_no d (by decide +kernel),p,d,es,o,wv,b,cs,rfl,tw9.bk,tw9.en,wy,ty,fun H10 s10=>⟨fun PI=>?_,fun k x PI hx=>⟨rfl,s10,rfl⟩⟩⟩,?_⟩
    ·have tw10:=tw9.same s10
     have el:=tw10.en.len
     have e4:upd H10 d (HO.dK (dw (putE es ⟨o,wv,b,cs⟩))) e=some (.dK (dw es)):=by rw [upd_ne tw10.ne.symm];exact tw10.kp
     refine⟨_,DPut.k (k:=.inl o) e4 (by rw [dw_len];omega),?_⟩
     rw [dw_put es ⟨o,wv,b,cs⟩]
     exact hN _ _ ⟨_,_,_,_,_,_,_,_,fun b' o' hb'=>by rw [upd_ne (ne_of_none hb' ne),upd_ne (ne_of_none hb' nd)];exact((s4.trans s9).trans s10) _ _ hb',tw10.set (tw10.en.put ⟨wy.same s10,ty,⟨o0,o1⟩⟩) (tw10.ap.put PI),rfl⟩
    ·rintro σ' cls dx' H' ⟨rfl,s10,rfl⟩
     exact⟨_,rfl,T.xm_Meets_Meets,fun ea _=>hN _ _ ⟨es,_,_,_,_,_,_,_,(s4.trans s9).trans s10,tw9.same s10,rfl⟩⟩
   ·rintro σ H' ⟨es,x7,x8,x9,x10,x11,x12,x13,s4,tw4,rfl⟩
    exact hk _ _ ⟨es,x7,x8,x9,x10,x11,x12,x13,s4,tw4,rfl⟩
  rintro σ H4 ⟨es,x7,x8,x9,x10,x11,x12,x13,s4,tw4,rfl⟩
  walk_at "RD"
  exact⟨by omega,fun r nr=>hq r p d e es _ ((s1.trans s4).trans (zz0 nr)) upd_same (tw4.same (zz0 nr))⟩
theorem sc_q25:FnScope ["_law_lines","_law_kind","_law_found","_law_cell"] ["_law_lines","_law_kind"] (defScope s_q25):=⟨rfl,rfl,rfl,by decide +kernel,rfl,by decide +kernel,by decide +kernel⟩
set_option maxHeartbeats 4000000 in
theorem ok_q25 (F:FB K "_law_stand_cells" "_law_stand_cells" s_q25 ad.q25 ["_law_lines","_law_kind"]) (T:Txt K mg ad) (G_Lsign:Zn P w K mg base CX0 1 ad.Lsign ["_law_lines","_law_cell"] (z249)) (G_q53:Zn P w K mg base CX0 1 ad.q53 ["_law_kind","_law_sign_here"] (z310)):Zn P w K mg base CX0 2 ad.q25 ["_law_lines","_law_kind"] (z357):=by
 obtain⟨fd,F,B⟩:=F
 refine⟨fd,B,?_⟩
 refine F.ok sc_q25 (fun vs H Q E h=>?_) (fun cdv A outer s H vs Q E HR h=>?_)
 ·obtain⟨x,i,l,w,h,sg,rfl,_⟩:=h
  rfl
 ·obtain⟨x,i,l,w,h,sg,rfl,hi,hL,g,hq⟩:=h
  have ND:=sc_q25.nd
  have HU0:=HR.units0
  have HU:=HR.units
  have hA:=HR.hd
  have hz:(100000:Nat)≤sizeLine:=by rw [sizeLine_eq];decide
  refine⟨_,(pss_cons (pst 2 ND z65 (pe_lst pa_nil))
 (pss_cons (ps_for PassesOwn.never (calm0 rfl) (pi_range1 (gl_of z388) T.b_range (pac (pe_op op_mul (pcb call_len_seq z364 T.b_len PyProof.Rows.Boot.«len» (pac (pvn 0 z25) pa_nil)) (pcb call_len_str z364 T.b_len PyProof.Rows.Boot.«len» (pac (pe_ix ix_list (pvn 0 z25) pe_int (fun _ _=>rfl)) pa_nil))) pa_nil) (st1 rfl)) (pgn 3 ND z45)
 (pss_one (ps_if (PW.pt (pw_and (ptc op_ne (pcl G_Lsign HR z138 T.mg_Lsign T.k_Lsign (pac (pvn 0 z25) (pac (pvn 3 z45) pa_nil))) pe_str) (pw_and1 (pt_val (pcl G_q53 HR z175 T.mg_q53 T.k_q53 (pac (pvn 1 z222) (pac (pcl G_Lsign HR z138 T.mg_Lsign T.k_Lsign (pac (pvn 0 z25) (pac (pvn 3 z45) pa_nil))) pa_nil)))))))
 (pss_one (ps_expr (pe_bm PySem.F.plainAttrs_list PySem.F.slot_list_append PySem.F.type_list_append mt_append (pvn 2 z65) (pac (pvn 3 z45) pa_nil))))
 pss_nil)))
 (pss_one (ps_ret (pvn 2 z65))))),?_⟩
  have w0:=g.w0
  have w1:=g.w1
  have h0:=g.h0
  have h1:=g.h1
  have len:=g.len
  have l100:=len100 g
  have e0:atI ((Fl.linesOf w h sg).map V.str) 0=some (V.str (lineOf w sg 0)):=atI_nat (j:=0) (by rw [List.getElem?_map,z41 (by omega)];rfl)
  have eL:=z82 g (show 0 < h by omega)
  have em:((h:Int) * (w:Int))=((sg.length:Nat):Int):=by rw [len,Nat.mul_comm];simp
  walk_at "RD"
  refine⟨by omega,fun p np=>⟨_,.inl (SqL.of ((zz0 np) _ _ hL)),_,SqL.of ((zz0 np) _ _ hL),_,e0,_,rfl,by rw [eL];omega,?_⟩⟩
  rw [eL,List.length_map,z58]
  refine⟨.inl ⟨by omega,by omega⟩,by rw [em];omega,by rw [em];omega,?_⟩
  rw [em,Int.toNat_natCast]
  refine for_range (fun j σ H'=>∃ x3,Same H H'∧H' p=some (.lst ((((List.range j).map fun i=>((i:Nat):Int)).filter fun c=>stands i (at_ sg c)).map V.int))∧σ=[some (V.ref l),some (V.str x),some (V.ref p),x3]) ⟨none,zz0 np,upd_same,rfl⟩ ?_ ?_
  ·rintro j σ H' hj ⟨x3,s1,hp1,rfl⟩
   have es:((List.range (j + 1)).map fun i=>((i:Nat):Int)).filter (fun c=>stands i (at_ sg c))=((List.range j).map fun i=>((i:Nat):Int)).filter (fun c=>stands i (at_ sg c))++(if stands i (at_ sg (j:Int)) then [(j:Int)] else []):=by
    rw [List.range_succ,List.map_append,List.filter_append,List.map_cons,List.map_nil,List.filter_cons,List.filter_nil]
   have ln:(((List.range j).map fun i=>((i:Nat):Int)).filter fun c=>stands i (at_ sg c)).length≤j:=Nat.le_trans (List.length_filter_le _ _) (by simp)
   rw [Int.zero_add]
   walk_at "RD"
   refine⟨l,w,h,sg,(j:Int),rfl,s1 _ _ hL,g,by omega,by omega,rfl,?_⟩
   have no:stands i (at_ sg (j:Int))=false→H' p=some (.lst ((((List.range (j + 1)).map fun i=>((i:Nat):Int)).filter fun c=>stands i (at_ sg c)).map V.int)):=fun z=>by rw [es,z];simpa using hp1
   by_cases a:at_ sg (j:Int)=35
   ·rw [if_neg (fun z=>z (q35.mpr a))]
    exact⟨s1,no (z487 a),_,rfl⟩
   ·rw [if_pos (fun z=>a (q35.mp z))]
    refine⟨l,w,h,sg,(j:Int),rfl,s1 _ _ hL,g,by omega,by omega,i,_,x,rfl,hi,_,rfl,?_⟩
    cases b:stands i (at_ sg (j:Int)) with
    | false=>
     rw [if_neg (by decide)]
     exact⟨s1,no b,_,rfl⟩
    | true=>
     rw [if_pos rfl]
     refine⟨.inl ⟨rfl,_,SqL.of hp1⟩,_,hp1,by rw [List.length_map];omega,z52 s1 np,?_,_,rfl⟩
     rw [upd_same,es,b,if_pos rfl,List.map_append]
     rfl
  ·rintro σ H' ⟨x3,s1,hp1,rfl⟩
   walk_at "RD"
   exact hq p H' np s1 hp1
theorem z553:FnScope ["_law_stops","_law_many","_law_cell","_law_stop"] ["_law_stops","_law_many","_law_cell"] (defScope s_Lmet):=⟨rfl,rfl,rfl,by decide +kernel,rfl,by decide +kernel,by decide +kernel⟩
set_option maxHeartbeats 4000000 in
theorem z624 (F:FB K "_law_met" "_law_met" s_Lmet ad.Lmet ["_law_stops","_law_many","_law_cell"]) (T:Txt K mg ad):Zn P w K mg base CX0 1 ad.Lmet ["_law_stops","_law_many","_law_cell"] (spLMet K):=by
 obtain⟨fd,F,B⟩:=F
 refine⟨fd,B,?_⟩
 refine F.ok z553 (fun vs H Q E h=>?_) (fun cdv A outer s H vs Q E HR h=>?_)
 ·obtain⟨a,xs,m,c,rfl,_⟩:=h
  rfl
 ·obtain⟨a,xs,m,c,rfl,hS,hm,hx,hq⟩:=h
  have ND:=z553.nd
  have HU0:=HR.units0
  have HU:=HR.units
  have hA:=HR.hd
  have hz:(100000:Nat)≤sizeLine:=by rw [sizeLine_eq];decide
  refine⟨_,(pss_cons (ps_for PassesOwn.never (calm0 rfl) (pi_list (pe_slice sl_list (pvn 0 z178) (po_some (pvn 1 z35)) po_none)) (pgn 3 ND z116)
 (pss_cons (ps_if (ptc op_ne (pvn 3 z116) (pvn 2 z203))
 (pss_one ps_break)
 pss_nil)
 (pss_one (pst 1 ND z35 (pe_op op_add (pvn 1 z35) pe_int)))))
 (pss_one (ps_ret (pvn 1 z35)))),?_⟩
  walk_at "RD"
  refine⟨_,hS,fun p hp=>⟨⟨_,SqL.of upd_same⟩,?_⟩⟩
  have ec:cutV (xs.map V.int) (some (m:Int)) none=(xs.drop m).map V.int:=by
   have:=z573 (cs:=xs) (i:=(m:Int)) (by omega)
   rw [this,Int.toNat_natCast]
  rw [ec]
  refine for_list (K:=K) (a:=p) (xs:=(xs.drop m).map V.int) (fun i σ H'=>∃ x,met xs (m + i) c=met xs m c∧H'=upd H p (HO.lst ((xs.drop m).map V.int))∧σ=[some (V.ref a),some (V.int ((m + i:Nat):Int)),some (V.int c),x]) ⟨none,rfl,rfl,rfl⟩ (fun i σ H' _ ⟨_,_,e,_⟩=>by rw [e];exact SqL.of upd_same) ?_ ?_
  ·rintro i y σ H' hi ⟨x,e,rfl,rfl⟩
   rw [List.getElem?_map] at hi
   obtain⟨o,ho,rfl⟩:=Option.map_eq_some_iff.mp hi
   rw [List.getElem?_drop] at ho
   walk_at "RD"
   by_cases hc:o=c
   ·subst hc
    rw [if_neg (fun z=>z rfl)]
    exact⟨(z441 ho).symm.trans e,by omega,_,rfl⟩
   ·rw [if_pos (by simpa using hc)]
    rw [← e,z431 ho hc] at hq
    exact hq _ (zz0 hp)
  ·rintro σ H' ⟨x,e,rfl,rfl⟩
   rw [List.length_map,List.length_drop] at e
   walk_at "RD"
   rw [← e,z558 (by omega)] at hq
   rw [List.length_map,List.length_drop]
   exact hq _ (zz0 hp)
theorem z547:FnScope ["_law_lines","_law_kind","_law_full","_law_ways_here","_law_number","_law_stops","_law_time","_law_states","_law_found","_law_many","_law_cell","_law_charge","_law_other","_law_left","_law_cost_here"] ["_law_lines","_law_kind","_law_full","_law_ways_here","_law_number","_law_stops","_law_time","_law_states"] (defScope s_Lall):=⟨rfl,rfl,rfl,by decide +kernel,rfl,by decide +kernel,by decide +kernel⟩
set_option maxHeartbeats 4000000 in
theorem z621 (F:FB K "_law_all" "_law_all" s_Lall ad.Lall ["_law_lines","_law_kind","_law_full","_law_ways_here","_law_number","_law_stops","_law_time","_law_states"]) (T:Txt K mg ad) (G_q52:Zn P w K mg base CX0 2 ad.q52 ["_law_lines","_law_cell"] (spLBes)) (G_q54:Zn P w K mg base CX0 2 ad.q54 ["_law_lines","_law_kind","_law_full","_law_cell","_law_charge"] (z567)) (G_Lcost:Zn P w K mg base CX0 2 ad.Lcost ["_law_lines","_law_kind","_law_cell","_law_other"] (z413)) (G_Lopen:Zn P w K mg base CX0 2 ad.Lopen ["_law_ways_here","_law_number","_law_cell","_law_other","_law_time"] (spLOpn)) (G_Lmet:Zn P w K mg base CX0 1 ad.Lmet ["_law_stops","_law_many","_law_cell"] (spLMet K)):Zn P w K mg base CX0 3 ad.Lall ["_law_lines","_law_kind","_law_full","_law_ways_here","_law_number","_law_stops","_law_time","_law_states"] (spAll K):=by
 obtain⟨fd,F,B⟩:=F
 refine⟨fd,B,?_⟩
 refine F.ok z547 (fun vs H Q E h=>?_) (fun cdv A outer s H vs Q E HR h=>?_)
 ·obtain⟨x,i,l,e,sl,so,n,num,t,w,h,sg,st,es,ss,rfl,_⟩:=h
  rfl
 ·obtain⟨x,i,l,e,sl,so,n,num,t,w,h,sg,st,es,ss,rfl,hi,i3,hL,g,hk,hS,st3,sg9,n0,n8,hso,ok,hq⟩:=h
  have ND:=z547.nd
  have HU0:=HR.units0
  have HU:=HR.units
  have hA:=HR.hd
  have hz:(100000:Nat)≤sizeLine:=by rw [sizeLine_eq];decide
  refine⟨_,(pss_cons (pst 8 ND z56 pe_dnewT)
 (pss_cons (ps_for PassesOwn.never (calm0 rfl) (pi_list (pvn 7 z163)) (pg_tup (n:=3) (calm0 rfl) (pgs_cons (pgn 9 ND z109) (pgs_cons (pgn 10 ND z5) (pgs_cons (pgn 11 ND z38) pgs_nil))))
 (pss_one (ps_for PassesOwn.never (calm0 rfl) (pi_list (pe_op op_cat (pe_lst (pac (pvn 10 z5) pa_nil)) (pcl G_q52 HR z165 T.mg_q52 T.k_q52 (pac (pvn 0 z51) (pac (pvn 10 z5) pa_nil))))) (pgn 12 ND z6)
 (pss_cons (pst 13 ND z34 (pcl G_q54 HR z160 T.mg_q54 T.k_q54 (pac (pvn 0 z51) (pac (pvn 1 z111) (pac (pvn 2 z200) (pac (pvn 10 z5) (pac (pvn 11 z38) pa_nil)))))))
 (pss_cons (ps_if (ptc op_ne (pvn 12 z6) (pvn 10 z5))
 (pss_cons (pst 14 ND z20 (pcl G_Lcost HR z191 T.mg_Lcost T.k_Lcost (pac (pvn 0 z51) (pac (pvn 1 z111) (pac (pvn 10 z5) (pac (pvn 12 z6) pa_nil))))))
 (pss_one (pst 13 ND z34 (pe_ifExp (ptc op_isN (pvn 14 z20) pe_non) (pe_un un_neg pe_int) (pe_op op_sub (pvn 11 z38) (pvn 14 z20))))))
 pss_nil)
 (pss_one (ps_if (PW.pt (pw_and (ptc op_ge (pvn 13 z34) pe_int) (pw_and1 (pt_val (pcl G_Lopen HR z193 T.mg_Lopen T.k_Lopen (pac (pvn 3 z130) (pac (pvn 4 z168) (pac (pvn 10 z5) (pac (pvn 12 z6) (pac (pvn 6 z198) pa_nil))))))))))
 (pss_one (ps_dput (hu1 HU) (pvn 8 z56) (pe_tup (pac (pcl G_Lmet HR z223 T.mg_Lmet T.k_Lmet (pac (pvn 5 z176) (pac (pvn 9 z109) (pac (pvn 12 z6) pa_nil)))) (pac (pvn 12 z6) (pac (pvn 13 z34) pa_nil)))) pe_bl rfl))
 pss_nil)))))))
 (pss_one (ps_ret (pct (z435 rfl) z385 T.b_list PyProof.Rows.Boot.«list» (pac (pvn 8 z56) pa_nil)))))),?_⟩
  obtain⟨ts,hso1,pr⟩:=id hso
  obtain⟨hke,en⟩:=id hk
  have l100:=len100 g
  have w0:=g.w0
  refine zz1 (fun σ H'=>∃ r,H r=none∧Same H H'∧H' r=some (.dT [])∧σ=[some (V.ref l),some (V.str x),some (V.int n),some (V.ref e),some (V.int num),some (V.ref sl),some (V.int t),some (V.ref so),some (V.ref r),none,none,none,none,none,none]) (fun nx hk=>?_) ?_
  ·walk_at "RD"
   exact fun r nr=>hk _ _ ⟨r,nr,zz0 nr,upd_same,rfl⟩
  rintro σ H1 ⟨r,nr,s1,hr1,rfl⟩
  refine zz1 (fun σ H'=>∃ x9 x10 x11 x12 x13 x14 kvs,Same H H'∧H' r=some (.dT kvs)∧Fnd (ss.flatMap (rows3 (opn (besd es num) t) i w sg st n)) kvs∧σ=[some (V.ref l),some (V.str x),some (V.int n),some (V.ref e),some (V.int num),some (V.ref sl),some (V.int t),some (V.ref so),some (V.ref r),x9,x10,x11,x12,x13,x14]) (fun nx hk=>?_) ?_
  ·walk_at "RD"
   refine⟨⟨_,SqL.of (s1 _ _ hso1)⟩,z127 (K:=K) (a:=so) (xs:=ts.map V.ref) (fun j σ H'=>∃ x9 x10 x11 x12 x13 x14 kvs,Same H H'∧H' r=some (.dT kvs)∧Fnd ((ss.take j).flatMap (rows3 (opn (besd es num) t) i w sg st n)) kvs∧σ=[some (V.ref l),some (V.str x),some (V.int n),some (V.ref e),some (V.int num),some (V.ref sl),some (V.int t),some (V.ref so),some (V.ref r),x9,x10,x11,x12,x13,x14]) ⟨none,none,none,none,none,none,[],s1,hr1,z647,rfl⟩ (fun j σ H' _ ⟨_,_,_,_,_,_,_,s,_⟩=>SqL.of (s _ _ hso1)) ?_ ?_⟩
   ·rintro j v σ H' N0 hv ⟨x9,x10,x11,x12,x13,x14,kvs,s2,hr2,fn,rfl⟩ hN0
    rw [List.getElem?_map] at hv
    obtain⟨u,ht,rfl⟩:=Option.map_eq_some_iff.mp hv
    obtain⟨⟨m,c,q⟩,e1,e2⟩:=Paired.at1 pr ht
    have hmem:=List.mem_of_getElem? e1
    obtain⟨hm,hc,hst,q0,qn⟩:=ok _ hmem
    have hc:InF sg c:=hc
    have hm:m≤st.length:=hm
    have tks:(ss.take (j + 1)).flatMap (rows3 (opn (besd es num) t) i w sg st n)=(ss.take j).flatMap (rows3 (opn (besd es num) t) i w sg st n)++rows3 (opn (besd es num) t) i w sg st n (m,c,q):=by rw [List.take_add_one,e1,List.flatMap_append];simp [List.flatMap_cons]
    have os4:=z107 (w:=w) (sg:=sg) (c:=c)
    walk_at "RD"
    refine⟨_,SqT.of (s2 _ _ e2),rfl,_,_,rfl,_,_,rfl,_,_,rfl,rfl,by omega,fun q1 nq1=>⟨l,w,h,sg,c,rfl,(s2.trans (zz0 nq1)) _ _ hL,g,hc,fun q2 H2 nq2 s3 hq2=>?_⟩⟩
    have hq1:=s3 _ _ (upd_same (H:=H') (a:=q1) (o:=.lst [V.int c]))
    refine⟨q2,rfl,_,hq1,_,hq2,by rw [List.length_map];simp only [List.length_cons,List.length_nil];omega,fun q3 nq3=>?_⟩
    have eo:[V.int c]++(v2 w sg c).map V.int=([c]++v2 w sg c).map V.int:=rfl
    rw [eo]
    have s4:Same H' (upd H2 q3 (.lst (([c]++v2 w sg c).map V.int))):=((zz0 nq1).trans s3).trans (zz0 nq3)
    have q3r:q3≠r:=fun z=>by rw [z,((zz0 nq1).trans s3) _ _ hr2] at nq3;cases nq3
    refine⟨⟨_,SqL.of upd_same⟩,z127 (K:=K) (a:=q3) (xs:=([c]++v2 w sg c).map V.int) (fun jj σ H''=>∃ x12 x13 x14 kvs,Same H H''∧H'' q3=some (.lst (([c]++v2 w sg c).map V.int))∧H'' r=some (.dT kvs)∧Fnd ((ss.take j).flatMap (rows3 (opn (besd es num) t) i w sg st n)++((([c]++v2 w sg c).take jj).filterMap (go3 (opn (besd es num) t) i w sg st n (m,c,q)))) kvs∧σ=[some (V.ref l),some (V.str x),some (V.int n),some (V.ref e),some (V.int num),some (V.ref sl),some (V.int t),some (V.ref so),some (V.ref r),some (V.int (m:Int)),some (V.int c),some (V.int q),x12,x13,x14]) ⟨x12,x13,x14,kvs,s2.trans s4,upd_same,s4 _ _ hr2,by rw [List.take_zero,List.filterMap_nil,List.append_nil];exact fn,rfl⟩ (fun jj σ H'' _ ⟨_,_,_,_,_,e,_⟩=>SqL.of e) ?_ ?_⟩
    ·rintro jj v σ H'' N hv' ⟨x12,x13,x14,kvs,s5,hq5,hr5,fn5,rfl⟩ hN
     rw [List.getElem?_map] at hv'
     obtain⟨o,ho,rfl⟩:=Option.map_eq_some_iff.mp hv'
     have hom:=List.mem_of_getElem? ho
     have oin:InF sg o:=by
      rcases List.mem_append.mp hom with y | y
      ·rw [List.mem_singleton.mp y];exact hc
      ·exact z121 g y
     have tk:([c]++v2 w sg c).take (jj + 1)=([c]++v2 w sg c).take jj++[o]:=by rw [List.take_add_one,ho];rfl
     have ok5:StOk i st sg n ((ss.take j).flatMap (rows3 (opn (besd es num) t) i w sg st n)++((([c]++v2 w sg c).take jj).filterMap (go3 (opn (besd es num) t) i w sg st n (m,c,q)))):=fun z hz=>by
      rcases List.mem_append.mp hz with y | y
      ·obtain⟨s,hs,hr⟩:=List.mem_flatMap.mp y
       obtain⟨o',ho',e'⟩:=List.mem_filterMap.mp hr
       exact go3_ok g n0 ok (List.mem_of_mem_take hs) ho' e'
      ·obtain⟨o',ho',e'⟩:=List.mem_filterMap.mp y
       exact go3_ok g n0 ok hmem (List.mem_of_mem_take ho') e'
     have kl:=st_len fn5.nd ok5 fn5.is st3 sg9 n8
     refine zz1 (fun σ H6=>Same H'' H6∧σ=[some (V.ref l),some (V.str x),some (V.int n),some (V.ref e),some (V.int num),some (V.ref sl),some (V.int t),some (V.ref so),some (V.ref r),some (V.int (m:Int)),some (V.int c),some (V.int q),some (V.int o),some (V.int (min n (q + gainOf i (at_ sg c)))),x14]) (fun nx hk=>?_) ?_
     ·walk_at "RD"
      exact⟨x,i,l,w,h,sg,n,c,q,rfl,hi,i3,s5 _ _ hL,g,hc,fun H6 s6=>hk _ _ ⟨s6,rfl⟩⟩
     rintro σ H6 ⟨s6,rfl⟩
     refine zz1 (fun σ H7=>∃ x14,Same H'' H7∧σ=[some (V.ref l),some (V.str x),some (V.int n),some (V.ref e),some (V.int num),some (V.ref sl),some (V.int t),some (V.ref so),some (V.ref r),some (V.int (m:Int)),some (V.int c),some (V.int q),some (V.int o),some (V.int (leftOf i w sg n c o q)),x14]) (fun nx hk=>?_) ?_
     ·walk_at "RD"
      unfold leftOf at hk
      by_cases z:o=c
      ·rw [if_neg (fun y=>y z)]
       rw [if_pos z] at hk
       exact hk _ _ ⟨_,s6,rfl⟩
      ·rw [if_pos z]
       rw [if_neg z] at hk
       refine⟨x,i,l,w,h,sg,c,o,rfl,hi,(s5.trans s6) _ _ hL,g,hc,oin,fun H7 s7=>?_⟩
       have s67:=s6.trans s7
       cases hz:z101 i w sg c o with
       | none=>
        rw [hz] at hk
        show if V.non=V.non then _ else _
        rw [if_pos rfl]
        exact hk _ _ ⟨_,s67,rfl⟩
       | some k=>
        rw [hz] at hk
        show if V.int k=V.non then _ else _
        rw [if_neg (by simp)]
        exact⟨k,rfl,hk _ _ ⟨_,s67,rfl⟩⟩
     rintro σ H7 ⟨y14,s7,rfl⟩
     rw [tk,List.filterMap_append,← List.append_assoc] at hN
     have fnone:go3 (opn (besd es num) t) i w sg st n (m,c,q) o=none→Fnd ((ss.take j).flatMap (rows3 (opn (besd es num) t) i w sg st n)++(([c]++v2 w sg c).take jj).filterMap (go3 (opn (besd es num) t) i w sg st n (m,c,q))++[o].filterMap (go3 (opn (besd es num) t) i w sg st n (m,c,q))) kvs:=fun z=>by rw [z398 z,List.append_nil];exact fn5
     have s57:=s5.trans s7
     walk_at "RD"
     split
     ·rename_i lz
      refine⟨e,es,num,c,o,t,rfl,⟨s57 _ _ hke,en.tups (z206 s57)⟩,fun H8 s8=>⟨_,rfl,?_⟩⟩
      cases hop:opn (besd es num) t c o with
      | false=>
       rw [if_neg (by decide)]
       exact hN _ _ ⟨_,_,_,kvs,s57.trans s8,s8 _ _ (s7 _ _ hq5),s8 _ _ (s7 _ _ hr5),fnone (if_neg (fun z=>by have:=z.2;rw [hop] at this;cases this)),rfl⟩
      | true=>
       rw [if_pos rfl]
       refine⟨sl,st,m,o,rfl,(s57.trans s8).seq hS,hm,by omega,fun H9 s9=>⟨by omega,fun p np=>?_⟩⟩
       have sA:=(s7.trans (s8.trans s9)).trans (zz0 (o:=HO.tup [V.int (met st m o:Nat),V.int o,V.int (leftOf i w sg n c o q)]) np)
       refine⟨_,DPut.t (k:=sk (met st m o,o,leftOf i w sg n c o q)) (sA _ _ hr5) upd_same (by omega),hN _ _ ⟨_,_,_,_,z52 (s5.trans sA) nr,by rw [upd_ne q3r];exact sA _ _ hq5,upd_same,?_,rfl⟩⟩
       rw [z550 (f:=go3 (opn (besd es num) t) i w sg st n (m,c,q)) (if_pos ⟨lz,hop⟩)]
       exact fn5.put
     ·rename_i lz
      exact hN _ _ ⟨_,_,_,kvs,s57,s7 _ _ hq5,s7 _ _ hr5,fnone (if_neg (fun z=>lz z.1)),rfl⟩
    ·rintro σ H'' ⟨x12,x13,x14,kvs,s5,hq5,hr5,fn5,rfl⟩
     rw [List.length_map,List.take_length] at fn5
     have fn6:Fnd ((ss.take (j + 1)).flatMap (rows3 (opn (besd es num) t) i w sg st n)) kvs:=by rw [tks];exact fn5
     exact hN0 _ _ ⟨_,_,_,_,_,_,kvs,s5,hr5,fn6,rfl⟩
   ·rintro σ H' ⟨x9,x10,x11,x12,x13,x14,kvs,s2,hr2,fn,rfl⟩
    rw [List.length_map,Paired.length pr,List.take_length] at fn
    exact hk _ _ ⟨x9,x10,x11,x12,x13,x14,kvs,s2,hr2,fn,rfl⟩
  rintro σ H2 ⟨x9,x10,x11,x12,x13,x14,kvs,s2,hr2,fn,rfl⟩
  walk_at "RD"
  refine⟨kvs,hr2,fun l2 bs nl2 pb=>?_⟩
  obtain⟨su,e1⟩:=fn.dec
  exact hq l2 su _ (s2.trans (zz0 nl2)) ⟨bs,upd_same,z556 (zz0 nl2) pb e1⟩ fun u=>by
   constructor
   ·intro hu
    obtain⟨s,hs,e2⟩:=fn.is (sk u) (by rw [← e1];exact List.mem_map.mpr ⟨u,hu,rfl⟩)
    rw [sk_inj e2]
    exact hs
   ·intro hu
    have:=fn.has u hu
    rw [← e1] at this
    obtain⟨s,hs,e2⟩:=List.mem_map.mp this
    rw [← sk_inj e2]
    exact hs
theorem sc_q44:FnScope ["_law_states","_law_found","_law_many","_law_cell","_law_charge"] ["_law_states"] (defScope s_q44):=⟨rfl,rfl,rfl,by decide +kernel,rfl,by decide +kernel,by decide +kernel⟩
set_option maxHeartbeats 4000000 in
theorem ok_q44 (F:FB K "_law_greatest" "_law_greatest" s_q44 ad.q44 ["_law_states"]) (T:Txt K mg ad):Zn P w K mg base CX0 1 ad.q44 ["_law_states"] (z566):=by
 obtain⟨fd,F,B⟩:=F
 refine⟨fd,B,?_⟩
 refine F.ok sc_q44 (fun vs H Q E h=>?_) (fun cdv A outer s H vs Q E HR h=>?_)
 ·obtain⟨so,i,st,sg,n,ss,rfl,_⟩:=h
  rfl
 ·obtain⟨so,i,st,sg,n,ss,rfl,hso,ok,st3,sg9,hq⟩:=h
  have ND:=sc_q44.nd
  have HU0:=HR.units0
  have HU:=HR.units
  have hA:=HR.hd
  have hz:(100000:Nat)≤sizeLine:=by rw [sizeLine_eq];decide
  refine⟨_,(pss_cons (pst 1 ND z32 pe_dnewT)
 (pss_cons (ps_for PassesOwn.never (calm0 rfl) (pi_list (pvn 0 z172)) (pg_tup (n:=3) (calm0 rfl) (pgs_cons (pgn 2 ND z80) (pgs_cons (pgn 3 ND z81) (pgs_cons (pgn 4 ND z99) pgs_nil))))
 (pss_one (ps_dput (hu1 HU) (pvn 1 z32) (pe_tup (pac (pvn 2 z80) (pac (pvn 3 z81) pa_nil))) (pcb (call_max2 rfl) z497 T.b_max PyProof.Rows.Boot.«max» (pac (pvn 4 z99) (pac (pe_dget2 (hu1 HU) (pvn 1 z32) (pe_tup (pac (pvn 2 z80) (pac (pvn 3 z81) pa_nil))) pe_int ⟨rfl,rfl,rfl,rfl⟩) pa_nil))) rfl)))
 (pss_one (ps_ret (pvn 1 z32))))),?_⟩
  obtain⟨ts,hso1,pr⟩:=id hso
  refine zz1 (fun σ H'=>∃ r,H r=none∧Same H H'∧H' r=some (.dT [])∧σ=[some (V.ref so),some (V.ref r),none,none,none]) (fun nx hk=>?_) ?_
  ·walk_at "RD"
   exact fun r nr=>hk _ _ ⟨r,nr,zz0 nr,upd_same,rfl⟩
  rintro σ H1 ⟨r,nr,s1,hr1,rfl⟩
  refine zz1 (fun σ H'=>∃ x y z,Same H H'∧H' r=some (.dT ((ss.map sp3).foldl addP []))∧σ=[some (V.ref so),some (V.ref r),x,y,z]) (fun nx hk=>?_) ?_
  ·walk_at "RD"
   refine⟨⟨_,SqL.of (s1 _ _ hso1)⟩,z127 (K:=K) (a:=so) (xs:=ts.map V.ref) (fun j σ H'=>∃ x y z,Same H H'∧H' r=some (.dT (((ss.take j).map sp3).foldl addP []))∧σ=[some (V.ref so),some (V.ref r),x,y,z]) ⟨none,none,none,s1,hr1,rfl⟩ (fun j σ H' _ ⟨_,_,_,s,_⟩=>SqL.of (s _ _ hso1)) ?_ ?_⟩
   ·rintro j v σ H' N hv ⟨x,y,z,s2,hr2,rfl⟩ hN
    rw [List.getElem?_map] at hv
    obtain⟨t,ht,rfl⟩:=Option.map_eq_some_iff.mp hv
    obtain⟨s,e1,e2⟩:=Paired.at1 pr ht
    have tk:(ss.take (j + 1)).map sp3=(ss.take j).map sp3++[sp3 s]:=by rw [List.take_add_one,e1,List.map_append];rfl
    have tab:=z417.fold (ps:=(ss.take j).map sp3) (st:=st) (sg:=sg) fun z hz=>z555 ok z (by
     obtain⟨u,hu,rfl⟩:=List.mem_map.mp hz
     exact List.mem_map.mpr ⟨u,List.mem_of_mem_take hu,rfl⟩)
    have tl:=z261 tab.nu.nd tab.ni (by omega) (by omega)
    have hc:=(ok s (List.mem_of_getElem? e1)).2.2.2.1
    rw [tk,List.foldl_append] at hN
    walk_at "RD"
    refine⟨_,SqT.of (s2 _ _ e2),rfl,_,_,rfl,_,_,rfl,_,_,rfl,rfl,.inr ⟨_,.inl hr2⟩,by omega,fun p np=>⟨_,DGet.t (k:=nk s.1 s.2.1) ((zz0 np) _ _ hr2) upd_same,s.2.2,rfl,_,z548 tab.nu,by omega,fun p2 np2=>⟨_,DPut.t (k:=nk s.1 s.2.1) (((zz0 np).trans (zz0 np2)) _ _ hr2) upd_same (by omega),hN _ _ ⟨_,_,_,z52 (s2.trans ((zz0 np).trans (zz0 np2))) nr,?_,rfl⟩⟩⟩⟩
    rw [upd_same]
    exact congrArg (fun z=>some (HO.dT z)) (z618 tab.nu hc)
   ·rintro σ H' ⟨x,y,z,s2,hr2,rfl⟩
    rw [List.length_map,Paired.length pr,List.take_length] at hr2
    exact hk _ _ ⟨x,y,z,s2,hr2,rfl⟩
  rintro σ H2 ⟨x,y,z,s2,hr2,rfl⟩
  walk_at "RD"
  exact hq r H2 s2 nr hr2
theorem sc_law:FnScope ["_law_script","_law_lines","_law_draw","_law_kind","_law_full","_law_number","_law_book","_law_ways_here","_law_stands_here","_law_stops","_law_begin","_law_start","_law_charge","_law_floor_here","_law_carrier","_law_states","_law_layer","_law_tick"] ["_law_script"] (defScope s_law):=⟨rfl,rfl,rfl,by decide +kernel,rfl,by decide +kernel,by decide +kernel⟩
set_option maxHeartbeats 4000000 in
theorem ok_law {fd:FuncData}(F:Fun K "law" "law" s_law ad.law fd) (T:Txt K mg ad) (G_q56:Zn P w K mg base CX0 3 ad.q56 ["_law_script"] (z460 K)) (G_q55:Zn P w K mg base CX0 2 ad.q55 ["_law_script","_law_k"] (spLMix K)) (G_Lways:Zn P w K mg base CX0 6 ad.Lways ["_law_script","_law_first","_law_lines","_law_number"] (z545 ad K)) (G_q25:Zn P w K mg base CX0 2 ad.q25 ["_law_lines","_law_kind"] (z357)) (G_q33:Zn P w K mg base CX0 4 ad.q33 ["self","lines"] (spInit ad.C_Floor)) (G_q35:Zn P w K mg base CX0 3 ad.q35 ["kind","full"] (spMake ad)) (G_Lmet:Zn P w K mg base CX0 1 ad.Lmet ["_law_stops","_law_many","_law_cell"] (spLMet K)) (G_q30:Zn P w K mg base CX0 2 ad.q30 ["stops","start","charge"] (z473 K)) (G_q44:Zn P w K mg base CX0 1 ad.q44 ["_law_states"] (z566)) (G_q36:Zn P w K mg base CX0 10 ad.q36 ["floor","carrier","book","number","stops","time","layer"] (spNext ad K)) (G_Lall:Zn P w K mg base CX0 3 ad.Lall ["_law_lines","_law_kind","_law_full","_law_ways_here","_law_number","_law_stops","_law_time","_law_states"] (spAll K)):FnOk P w K mg base CX0 12 ad.law fd ["_law_script"] (spLaw K):=by
 refine F.ok sc_law (fun vs H Q E h=>?_) (fun cdv A outer s H vs Q E HR h=>?_)
 ·obtain⟨a,ns,rfl,_⟩:=h
  rfl
 ·obtain⟨a,ns,rfl,hS,hl,hb,hq⟩:=h
  have ND:=sc_law.nd
  have HU0:=HR.units0
  have HU:=HR.units
  have hA:=HR.hd
  have hz:(100000:Nat)≤sizeLine:=by rw [sizeLine_eq];decide
  refine⟨_,(pss_cons (pst 1 ND z13 (pcl G_q56 HR z188 T.mg_q56 T.k_q56 (pac (pvn 0 y3) pa_nil)))
 (pss_cons (pst 2 ND z21 (pcl G_q55 HR z15 T.mg_q55 T.k_q55 (pac (pvn 0 y3) (pac pe_int pa_nil))))
 (pss_cons (pst 3 ND z43 (pe_ix ix_list (pe_lst (pac pe_str (pac pe_str (pac pe_str pa_nil)))) (pe_op op_mod (pvn 2 z21) pe_int) (fun _ _=>rfl)))
 (pss_cons (pst 4 ND z42 (pe_op op_add pe_int (pe_op op_mod (pe_op op_fdiv (pvn 2 z21) pe_int) pe_int)))
 (pss_cons (pst 5 ND z24 (pe_ix ix_list (pe_lst (pac pe_int (pac pe_int (pac pe_int pa_nil)))) (pe_op op_mod (pe_op op_fdiv (pvn 2 z21) pe_int) pe_int) (fun _ _=>rfl)))
 (pss_cons (ps_asg (pcl G_Lways HR z219 T.mg_Lways T.k_Lways (pac (pvn 0 y3) (pac pe_int (pac (pvn 1 z13) (pac (pvn 5 z24) pa_nil))))) (pg_tup (n:=2) (calm0 rfl) (pgs_cons (pgn 6 ND z131) (pgs_cons (pgn 7 ND z72) pgs_nil))))
 (pss_cons (pst 8 ND z17 (pcl G_q25 HR z112 T.mg_q25 T.k_q25 (pac (pvn 1 z13) (pac (pvn 3 z43) pa_nil))))
 (pss_cons (z465 (i:=9) (z8.of (osc:=defScope s_law) (tn:=["_law_k"]) (cn:=["_law_stands_here","_law_script"]) (caps:=[8,0]) rfl rfl (by decide +kernel) (by decide +kernel) (by decide +kernel) (by decide +kernel) rfl) (calm0 rfl) ND rfl z195 (pi_range1 (gl_of z236) T.b_range (pac (pe_op op_mod (pcl G_q55 HR z15 T.mg_q55 T.k_q55 (pac (pvn 0 y3) (pac pe_int pa_nil))) pe_int) pa_nil) (st1 rfl))
 (fun _ _ _ _ _=>(pg_name (i:=0) (show (["_law_k","_law_stands_here","_law_script"]:List Str).Nodup by decide +kernel) rfl (Or.inl rfl))) (fun _ _ _ _ _=>z246) (fun _ _ _ _ _=>(pe_ix (z598 (K:=K) rfl) (pv 1) (pe_op op_mod (pe_op op_fdiv (pclC G_q55 HR T.mg_q55 T.k_q55 z321 (pac (pv 2) (pac pe_int pa_nil))) (pe_op op_add (pv 0) pe_int)) (pe_callB (z301 (K:=K) rfl) (by rfl) T.b_len PyProof.Rows.Boot.«len» (pac (pv 1) pa_nil) (hn:=n_len) (hdb:=d_len) (he:=stp rfl) (hpl:=anp rfl))) (fun _ _=>rfl))) (hsw:=by rfl))
 (pss_cons (pst 10 ND z63 (pe_op op_mod (pe_op op_fdiv (pvn 2 z21) pe_int) pe_int))
 (pss_cons (pst 11 ND z31 (pe_ix ix_list (pvn 8 z17) (pe_op op_mod (pcl G_q55 HR z15 T.mg_q55 T.k_q55 (pac (pvn 0 y3) (pac pe_int pa_nil))) (pcb call_len_seq z505 T.b_len PyProof.Rows.Boot.«len» (pac (pvn 8 z17) pa_nil))) (fun _ _=>rfl)))
 (pss_cons (pst 12 ND z48 (pe_op op_mod (pcl G_q55 HR z15 T.mg_q55 T.k_q55 (pac (pvn 0 y3) (pac pe_int pa_nil))) (pe_op op_add (pvn 4 z42) pe_int)))
 (pss_cons (pst 13 ND z57 (pmk T.mk_Floor G_q33 HR z375 T.mg_Floor (pac (pct call_list_of z466 T.b_list PyProof.Rows.Boot.«list» (pac (pvn 1 z13) pa_nil)) pa_nil)))
 (pss_cons (pst 14 ND z89 (pcl G_q35 HR z483 T.mg_q35 T.k_q35 (pac (pvn 3 z43) (pac (pvn 4 z42) pa_nil))))
 (pss_cons (pst 15 ND z10 (pe_lst (pac (pe_tup (pac (pcl G_Lmet HR z250 T.mg_Lmet T.k_Lmet (pac (pvn 9 z27) (pac pe_int (pac (pvn 11 z31) pa_nil)))) (pac (pvn 11 z31) (pac (pvn 12 z48) pa_nil)))) pa_nil)))
 (pss_cons (pst 16 ND z14 (pcl G_q30 HR z534 T.mg_q30 T.k_q30 (pac (pvn 9 z27) (pac (pvn 11 z31) (pac (pvn 12 z48) pa_nil)))))
 (pss_cons (ps_for PassesOwn.never (calm0 rfl) (pi_range1 (gl_of z236) T.b_range (pac (pe_op op_mod (pcl G_q55 HR z15 T.mg_q55 T.k_q55 (pac (pvn 0 y3) (pac pe_int pa_nil))) pe_int) pa_nil) (st1 rfl)) (pgn 17 ND z78)
 (pss_cons (ps_if (ptc (op_neT (hu65 HR)) (pvn 16 z14) (pcl G_q44 HR z74 T.mg_q44 T.k_q44 (pac (pvn 15 z10) pa_nil)))
 (pss_one (ps_ret pe_bl))
 pss_nil)
 (pss_cons (pst 16 ND z14 (pcl G_q36 HR z498 T.mg_q36 T.k_q36 (pac (pvn 13 z57) (pac (pvn 14 z89) (pac (pvn 6 z131) (pac (pvn 5 z24) (pac (pvn 9 z27) (pac (pe_op op_add (pvn 10 z63) (pvn 17 z78)) (pac (pvn 16 z14) pa_nil)))))))))
 (pss_one (pst 15 ND z10 (pcl G_Lall HR z267 T.mg_Lall T.k_Lall (pac (pvn 1 z13) (pac (pvn 3 z43) (pac (pvn 4 z42) (pac (pvn 7 z72) (pac (pvn 5 z24) (pac (pvn 9 z27) (pac (pe_op op_add (pvn 10 z63) (pvn 17 z78)) (pac (pvn 15 z10) pa_nil))))))))))))))
 (pss_one (ps_ret (pec (op_eqT (hu65 HR)) (pvn 16 z14) (pcl G_q44 HR z74 T.mg_q44 T.k_q44 (pac (pvn 15 z10) pa_nil))))))))))))))))))))),?_⟩
  refine zz1 (fun σ H'=>∃ (l:Addr) (w h:Nat) (sg:List Nat),Same H H'∧z75 H' l w h sg∧Fl.Good w h sg∧46∈sg∧sg.length≤9∧σ=[some (V.ref a),some (V.ref l),none,none,none,none,none,none,none,none,none,none,none,none,none,none,none,none]) (fun nx hk=>?_) ?_
  ·walk_at "RD"
   exact⟨a,ns,rfl,hS,hb,fun l H' w h sg nl s hL g m46 l9=>hk _ _ ⟨l,w,h,sg,s,hL,g,m46,l9,rfl⟩⟩
  rintro σ H1 ⟨l,w,h,sg,s1,hL1,g,m46,l9,rfl⟩
  refine zz1 (fun σ H'=>∃ v:Int,0≤v∧H'=H1∧σ=[some (V.ref a),some (V.ref l),some (V.int v),none,none,none,none,none,none,none,none,none,none,none,none,none,none,none]) (fun nx hk=>?_) ?_
  ·walk_at "RD"
   exact⟨a,ns,_,rfl,s1.seq hS,hb,by decide,by decide,fun v v0 v1=>hk _ _ ⟨v,v0,rfl,rfl⟩⟩
  rintro σ H2 ⟨v,v0,rfl,rfl⟩
  refine zz1 (fun σ H'=>∃ (i:Nat) (x:Str),i < 3∧kindsL[i]?=some x∧Same H2 H'∧σ=[some (V.ref a),some (V.ref l),some (V.int v),some (V.str x),none,none,none,none,none,none,none,none,none,none,none,none,none,none]) (fun nx hk=>?_) ?_
  ·walk_at "RD"
   refine⟨by omega,fun q nq=>⟨by decide,_,SqL.of upd_same,?_⟩⟩
   have h3:v % 3=0∨v % 3=1∨v % 3=2:=by omega
   rcases h3 with z | z | z <;> rw [z]
   ·exact⟨_,rfl,hk _ _ ⟨0,_,by decide,rfl,zz0 nq,rfl⟩⟩
   ·exact⟨_,rfl,hk _ _ ⟨1,_,by decide,rfl,zz0 nq,rfl⟩⟩
   ·exact⟨_,rfl,hk _ _ ⟨2,_,by decide,rfl,zz0 nq,rfl⟩⟩
  rintro σ H3 ⟨i,x,i3,hi,s3,rfl⟩
  refine zz1 (fun σ H'=>∃ n:Int,1≤n∧n≤8∧H'=H3∧σ=[some (V.ref a),some (V.ref l),some (V.int v),some (V.str x),some (V.int n),none,none,none,none,none,none,none,none,none,none,none,none,none]) (fun nx hk=>?_) ?_
  ·walk_at "RD"
   exact⟨⟨by decide,by decide⟩,by decide,hk _ _ ⟨_,by omega,by omega,rfl,rfl⟩⟩
  rintro σ H5 ⟨n,n0,n1,rfl,rfl⟩
  refine zz1 (fun σ H'=>∃ num:Int,Same H5 H'∧σ=[some (V.ref a),some (V.ref l),some (V.int v),some (V.str x),some (V.int n),some (V.int num),none,none,none,none,none,none,none,none,none,none,none,none]) (fun nx hk=>?_) ?_
  ·walk_at "RD"
   refine⟨by omega,fun q nq=>⟨⟨by decide,by decide⟩,by decide,_,SqL.of upd_same,?_⟩⟩
   have h3:v / 11 % 3=0∨v / 11 % 3=1∨v / 11 % 3=2:=by omega
   rcases h3 with z | z | z <;> rw [z]
   ·exact⟨_,rfl,hk _ _ ⟨_,zz0 nq,rfl⟩⟩
   ·exact⟨_,rfl,hk _ _ ⟨_,zz0 nq,rfl⟩⟩
   ·exact⟨_,rfl,hk _ _ ⟨_,zz0 nq,rfl⟩⟩
  rintro σ H6 ⟨num,s6,rfl⟩
  have t6:Same H H6:=s1.trans (s3.trans s6)
  have u6:Same H2 H6:=s3.trans s6
  refine zz1 (fun σ H'=>∃ p d e es,Same H6 H'∧Two ad.C_Book H' p d e es∧σ=[some (V.ref a),some (V.ref l),some (V.int v),some (V.str x),some (V.int n),some (V.int num),some (V.ref p),some (V.ref e),none,none,none,none,none,none,none,none,none,none]) (fun nx hk=>?_) ?_
  ·walk_at "RD"
   refine⟨a,l,ns,3,num,w,h,sg,rfl,t6.seq hS,hb,by decide,by decide,u6 _ _ hL1,g,fun r p d e es H' s hr tw=>?_⟩
   exact⟨r,rfl,_,SqT.of hr,rfl,_,_,rfl,_,_,rfl,rfl,hk _ _ ⟨p,d,e,es,s,tw,rfl⟩⟩
  rintro σ H7 ⟨p,d,e,es,s7,tw7,rfl⟩
  refine zz1 (fun σ H'=>∃ sc,Same H7 H'∧H' sc=some (.lst ((z33 i sg).map V.int))∧σ=[some (V.ref a),some (V.ref l),some (V.int v),some (V.str x),some (V.int n),some (V.int num),some (V.ref p),some (V.ref e),some (V.ref sc),none,none,none,none,none,none,none,none,none]) (fun nx hk=>?_) ?_
  ·walk_at "RD"
   exact⟨x,i,l,w,h,sg,rfl,hi,(u6.trans s7) _ _ hL1,g,fun r H' nr s hr=>hk _ _ ⟨r,s,hr,rfl⟩⟩
  rintro σ H8 ⟨sc,s8,hsc,rfl⟩
  have t8:Same H H8:=t6.trans (s7.trans s8)
  have sne:=z508 (i:=i) m46
  have slp:=List.length_pos_iff.mpr sne
  have sll:=z402 (i:=i) (sg:=sg)
  refine zz1 (fun σ H'=>∃ (so:Addr) (st:List Int),st.length≤3∧Same H8 H'∧H' so=some (.lst (st.map V.int))∧σ=[some (V.ref a),some (V.ref l),some (V.int v),some (V.str x),some (V.int n),some (V.int num),some (V.ref p),some (V.ref e),some (V.ref sc),some (V.ref so),none,none,none,none,none,none,none,none]) (fun nx hk=>?_) ?_
  ·walk_at "RD"
   refine⟨a,ns,_,rfl,t8.seq hS,hb,by decide,by decide,fun u u0 u1=>⟨u,rfl,by decide,by omega,by omega,?_⟩⟩
   have hm4:(u % 4).toNat≤3:=by omega
   refine z418 (fun j ys H'=>H'=H8∧∃ st:List Int,st.length=j∧ys=st.map V.int) ⟨rfl,[],rfl,rfl⟩ ?_ ?_
   ·rintro j ys H' hj ⟨rfl,st,stl,rfl⟩
    walk_at "RD"
    refine⟨a,ns,_,rfl,t8.seq hS,hb,by decide,by decide,fun r r0 r1=>⟨r,rfl,⟨by omega,by omega⟩,_,.inl (SqL.of hsc),by rw [List.length_map];omega,_,SqL.of hsc,?_⟩⟩
    have e1:=Int.emod_nonneg (r / (0 + (j:Int) + 1)) (show ((z33 i sg).length:Int)≠0 by omega)
    have e2:=Int.emod_lt_of_pos (r / (0 + (j:Int) + 1)) (show (0:Int) < (z33 i sg).length by omega)
    obtain⟨k,hk'⟩:=Int.eq_ofNat_of_zero_le e1
    obtain⟨c,hc⟩:∃ c,(z33 i sg)[k]?=some c:=⟨_,List.getElem?_eq_getElem (by omega)⟩
    exact⟨V.int c,by rw [List.length_map,hk'];exact atI_nat (by rw [List.getElem?_map,hc];rfl),by rw [List.length_map];omega,rfl,st++[c],by simp [stl],by rw [List.map_append];rfl⟩
   ·rintro ys H' ⟨rfl,st,stl,rfl⟩
    exact⟨by rw [List.length_map];omega,fun D hD=>hk _ _ ⟨D,st,by omega,zz0 hD,upd_same,rfl⟩⟩
  rintro σ H9 ⟨so,st,st3,s9,hso,rfl⟩
  refine zz1 (fun σ H'=>∃ bg:Int,H'=H9∧σ=[some (V.ref a),some (V.ref l),some (V.int v),some (V.str x),some (V.int n),some (V.int num),some (V.ref p),some (V.ref e),some (V.ref sc),some (V.ref so),some (V.int bg),none,none,none,none,none,none,none]) (fun nx hk=>?_) ?_
  ·walk_at "RD"
   exact⟨⟨by decide,by decide⟩,by decide,hk _ _ ⟨_,rfl,rfl⟩⟩
  rintro σ H10 ⟨bg,rfl,rfl⟩
  have t10:Same H H10:=t8.trans s9
  refine zz1 (fun σ H'=>∃ sa:Int,sa∈z33 i sg∧H'=H10∧σ=[some (V.ref a),some (V.ref l),some (V.int v),some (V.str x),some (V.int n),some (V.int num),some (V.ref p),some (V.ref e),some (V.ref sc),some (V.ref so),some (V.int bg),some (V.int sa),none,none,none,none,none,none]) (fun nx hk=>?_) ?_
  ·walk_at "RD"
   refine⟨a,ns,_,rfl,t10.seq hS,hb,by decide,by decide,fun r r0 r1=>?_⟩
   have e1:=Int.emod_nonneg r (show ((z33 i sg).length:Int)≠0 by omega)
   have e2:=Int.emod_lt_of_pos r (show (0:Int) < (z33 i sg).length by omega)
   obtain⟨k,hk'⟩:=Int.eq_ofNat_of_zero_le e1
   obtain⟨c,hc⟩:∃ c,(z33 i sg)[k]?=some c:=⟨_,List.getElem?_eq_getElem (by omega)⟩
   have hs10:=s9 _ _ hsc
   exact⟨_,.inl (SqL.of hs10),r,rfl,by rw [List.length_map];omega,_,SqL.of hs10,V.int c,by rw [List.length_map,hk'];exact atI_nat (by rw [List.getElem?_map,hc];rfl),hk _ _ ⟨c,List.mem_of_getElem? hc,rfl,rfl⟩⟩
  rintro σ H11 ⟨sa,hsa,rfl,rfl⟩
  refine zz1 (fun σ H'=>∃ ch:Int,0≤ch∧ch≤n∧H'=H11∧σ=[some (V.ref a),some (V.ref l),some (V.int v),some (V.str x),some (V.int n),some (V.int num),some (V.ref p),some (V.ref e),some (V.ref sc),some (V.ref so),some (V.int bg),some (V.int sa),some (V.int ch),none,none,none,none,none]) (fun nx hk=>?_) ?_
  ·walk_at "RD"
   refine⟨a,ns,_,rfl,t10.seq hS,hb,by decide,by decide,fun r r0 r1=>⟨r,rfl,by omega,hk _ _ ⟨_,Int.emod_nonneg _ (by omega),?_,rfl,rfl⟩⟩⟩
   have:=Int.emod_lt_of_pos r (show 0 < n + 1 by omega)
   omega
  rintro σ H12 ⟨ch,ch0,ch1,rfl,rfl⟩
  have u12:Same H2 H12:=u6.trans (s7.trans (s8.trans s9))
  refine zz1 (fun σ H'=>∃ fl,Same H12 H'∧z60 ad.C_Floor H' fl w h sg∧σ=[some (V.ref a),some (V.ref l),some (V.int v),some (V.str x),some (V.int n),some (V.int num),some (V.ref p),some (V.ref e),some (V.ref sc),some (V.ref so),some (V.int bg),some (V.int sa),some (V.int ch),some (V.ref fl),none,none,none,none]) (fun nx hk=>?_) ?_
  ·walk_at "RD"
   refine⟨_,.inl (SqL.of (u12 _ _ hL1)),fun q nq x' dx nx' nd' nn'=>?_⟩
   have sq:=zz0 (o:=HO.lst ((Fl.linesOf w h sg).map V.str)) nq
   have s0:Same (upd H12 q (HO.lst ((Fl.linesOf w h sg).map V.str))) (upd (upd (upd H12 q (HO.lst ((Fl.linesOf w h sg).map V.str))) dx (HO.own x')) x' (HO.ins ad.C_Floor dx [])):=fun b o e=>by rw [upd_ne (ne_of_none e nx'),upd_ne (ne_of_none e nd')];exact e
   refine⟨x',dx,q,w,h,sg,rfl,upd_same,s0 _ _ upd_same,g,fun H' dx' l3 nl3 hp' hl' so'=>⟨rfl,hk _ _ ⟨x',fun b o e=>so' b o (s0 _ _ (sq _ _ e)) (ne_of_none (sq _ _ e) nx'),⟨⟨dx',l3,hp',hl'⟩⟩,rfl⟩⟩⟩
  rintro σ H13 ⟨fl,s13,hfl,rfl⟩
  refine zz1 (fun σ H'=>∃ mv,Same H13 H'∧CarAt ad H' mv i n∧σ=[some (V.ref a),some (V.ref l),some (V.int v),some (V.str x),some (V.int n),some (V.int num),some (V.ref p),some (V.ref e),some (V.ref sc),some (V.ref so),some (V.int bg),some (V.int sa),some (V.int ch),some (V.ref fl),some (V.ref mv),none,none,none]) (fun nx hk=>?_) ?_
  ·walk_at "RD"
   exact⟨i,x,n,rfl,i3,hi,n0,by omega,fun p' H' s np c=>hk _ _ ⟨p',s,c,rfl⟩⟩
  rintro σ H14 ⟨mv,s14,hmv,rfl⟩
  have v14:Same H12 H14:=s13.trans s14
  have tw14:=tw7.same (s8.trans (s9.trans v14))
  have hso14:=v14 _ _ hso
  obtain⟨saI,saS⟩:=z515 hsa
  refine zz1 (fun σ H'=>∃ sr,Same H14 H'∧StL H' sr [(met st 0 sa,sa,ch)]∧σ=[some (V.ref a),some (V.ref l),some (V.int v),some (V.str x),some (V.int n),some (V.int num),some (V.ref p),some (V.ref e),some (V.ref sc),some (V.ref so),some (V.int bg),some (V.int sa),some (V.int ch),some (V.ref fl),some (V.ref mv),some (V.ref sr),none,none]) (fun nx hk=>?_) ?_
  ·walk_at "RD"
   exact⟨so,st,0,sa,rfl,SqL.of hso14,by omega,by omega,fun H15 s15=>⟨by omega,fun q nq=>⟨by omega,fun r nr=>hk _ _ ⟨r,s15.trans ((zz0 nq).trans (zz0 nr)),⟨[q],upd_same,.cons ((zz0 nr) _ _ upd_same) .nil⟩,rfl⟩⟩⟩⟩
  rintro σ H15 ⟨sr,s15,hsr,rfl⟩
  refine zz1 (fun σ H'=>∃ ly,Same H14 H'∧StL H' sr [(met st 0 sa,sa,ch)]∧H' ly=some (.dT [(nk (met st 0 sa) sa,.int ch)])∧σ=[some (V.ref a),some (V.ref l),some (V.int v),some (V.str x),some (V.int n),some (V.int num),some (V.ref p),some (V.ref e),some (V.ref sc),some (V.ref so),some (V.int bg),some (V.int sa),some (V.int ch),some (V.ref fl),some (V.ref mv),some (V.ref sr),some (V.ref ly),none]) (fun nx hk=>?_) ?_
  ·walk_at "RD"
   exact⟨so,st,sa,ch,rfl,SqL.of (s15 _ _ hso14),by omega,fun p' H' s np hp'=>hk _ _ ⟨p',s15.trans s,hsr.same s,hp',rfl⟩⟩
  rintro σ H16 ⟨ly,s16,hsr16,hly16,rfl⟩
  have ok0:StOk i st sg n [(met st 0 sa,sa,ch)]:=fun s hs=>by
   rw [List.mem_singleton.mp hs]
   exact⟨met_le (Nat.zero_le _),saI,saS,ch0,ch1⟩
  have e0:([(met st 0 sa,sa,ch)].map sp3).foldl addP []=[(nk (met st 0 sa) sa,V.int ch)]:=by
   show addP [] (nk (met st 0 sa) sa,ch)=_
   rw [z449 (kvs:=[]) (p:=(nk (met st 0 sa) sa,ch)) (show (-1:Int) < ch by omega)]
   rfl
  have mx0:=max_st ok0
  have lo0:=(z417.fold (z555 ok0)).ly
  rw [e0] at mx0 lo0
  have dm:∀ ps:List (List Key × Int),Dom ps ps:=fun ps k q h=>⟨q,h,Int.le_refl _⟩
  refine zz1 (fun σ H'=>∃ ly sr x17 ss lkvs,Same H14 H'∧StL H' sr ss∧H' ly=some (.dT lkvs)∧StOk i st sg n ss∧LyOk st sg lkvs∧MaxOf (ss.map sp3) lkvs∧σ=[some (V.ref a),some (V.ref l),some (V.int v),some (V.str x),some (V.int n),some (V.int num),some (V.ref p),some (V.ref e),some (V.ref sc),some (V.ref so),some (V.int bg),some (V.int sa),some (V.int ch),some (V.ref fl),some (V.ref mv),some (V.ref sr),some (V.ref ly),x17]) (fun nx hk=>?_) ?_
  ·walk_at "RD"
   refine⟨a,ns,_,rfl,(t10.trans (v14.trans s16)).seq hS,hb,by decide,by decide,fun r r0 r1=>⟨r,rfl,by decide,by omega,by omega,z142 (fun j σ H'=>∃ ly sr x17 ss lkvs,Same H14 H'∧StL H' sr ss∧H' ly=some (.dT lkvs)∧StOk i st sg n ss∧LyOk st sg lkvs∧MaxOf (ss.map sp3) lkvs∧σ=[some (V.ref a),some (V.ref l),some (V.int v),some (V.str x),some (V.int n),some (V.int num),some (V.ref p),some (V.ref e),some (V.ref sc),some (V.ref so),some (V.int bg),some (V.int sa),some (V.int ch),some (V.ref fl),some (V.ref mv),some (V.ref sr),some (V.ref ly),x17]) ⟨ly,sr,none,_,_,s16,hsr16,hly16,ok0,lo0,mx0,rfl⟩ ?_ ?_⟩⟩
   ·rintro j σ H' N hj ⟨ly,sr,x17,ss,lkvs,s17,hss,hly,ok,lo,mx,rfl⟩ hN
    refine zz1 (fun σ H''=>Same H' H''∧σ=[some (V.ref a),some (V.ref l),some (V.int v),some (V.str x),some (V.int n),some (V.int num),some (V.ref p),some (V.ref e),some (V.ref sc),some (V.ref so),some (V.int bg),some (V.int sa),some (V.int ch),some (V.ref fl),some (V.ref mv),some (V.ref sr),some (V.ref ly),some (V.int (0 + (j:Int)))]) (fun nx hk=>?_) ?_
    ·walk_at "RD"
     refine⟨sr,i,st,sg,n,ss,rfl,hss,ok,st3,l9,fun r H'' s nr hr=>⟨r,rfl,lkvs,s _ _ hly,_,hr,mx.len (max_st ok) (dm _) (dm _),fun z hz=>?_,hk _ _ ⟨s,rfl⟩⟩⟩
     obtain⟨m,c,q,rfl,_⟩:=lo.ok z hz
     exact⟨.int q,mx.same (max_st ok) (dm _) (dm _) (val_in lo.nd hz),_,.int q,.int q,rfl⟩
    rintro σ H18 ⟨s18,rfl⟩
    have q18:Same H14 H18:=s17.trans s18
    refine zz1 (fun σ H''=>∃ ly,Same H18 H''∧H'' ly=some (.dT (spread (reachOf (opn (besd es num) (bg + (0 + (j:Int)))) i w sg st n) lkvs))∧σ=[some (V.ref a),some (V.ref l),some (V.int v),some (V.str x),some (V.int n),some (V.int num),some (V.ref p),some (V.ref e),some (V.ref sc),some (V.ref so),some (V.int bg),some (V.int sa),some (V.int ch),some (V.ref fl),some (V.ref mv),some (V.ref sr),some (V.ref ly),some (V.int (0 + (j:Int)))]) (fun nx hk=>?_) ?_
    ·walk_at "RD"
     exact⟨fl,mv,p,so,ly,d,i,num,n,_,w,h,sg,st,es,lkvs,rfl,hmv.same q18,by omega,hfl.same (s14.trans q18),g,SqL.of (q18 _ _ hso14),by omega,(tw14.same q18).b,tw14.ap,by omega,s18 _ _ hly,lo,fun r H'' s nr hr=>hk _ _ ⟨r,s,hr,rfl⟩⟩
    rintro σ H19 ⟨ly2,s19,hly2,rfl⟩
    have q19:Same H14 H19:=q18.trans s19
    walk_at "RD"
    refine⟨x,i,l,e,so,sr,n,num,_,w,h,sg,st,es,ss,rfl,hi,i3,(u12.trans (v14.trans q19)) _ _ hL1,g,(tw14.same q19).k,SqL.of (q19 _ _ hso14),st3,l9,by omega,n1,hss.same (s18.trans s19),ok,fun r su H'' s hr hu=>?_⟩
    exact hN _ _ ⟨ly2,r,_,su,_,q19.trans s,hr,s _ _ hly2,z605 g (by omega) ok hu,(z280 (f:=reachOf (opn (besd es num) (bg + (0 + (j:Int)))) i w sg st n) lo (fun m c q a1 a2 a3=>z155 g a1 a2 (by omega) a3)).ly,z608 g (by omega) ok lo mx hu,rfl⟩
   ·rintro σ H' ⟨ly,sr,x17,ss,lkvs,s17,hss,hly,ok,lo,mx,rfl⟩
    exact hk _ _ ⟨ly,sr,x17,ss,lkvs,s17,hss,hly,ok,lo,mx,rfl⟩
  rintro σ H17 ⟨ly,sr,x17,ss,lkvs,s17,hss,hly,ok,lo,mx,rfl⟩
  walk_at "RD"
  refine⟨sr,i,st,sg,n,ss,rfl,hss,ok,st3,l9,fun r H'' s nr hr=>⟨r,rfl,lkvs,s _ _ hly,_,hr,mx.len (max_st ok) (dm _) (dm _),fun z hz=>?_,hq _⟩⟩
  obtain⟨m,c,q,rfl,_⟩:=lo.ok z hz
  exact⟨.int q,mx.same (max_st ok) (dm _) (dm _) (val_in lo.nd hz),_,.int q,.int q,rfl⟩
end
set_option maxHeartbeats 4000000 in
theorem all_fn {P:Program}{w:World}{K:PySem.W.Frag}{mg:Str→Option Value}{base:Heap}{ad:Ad}{fd:FuncData}(T:Txt K mg ad)
 (F_q32:FB K "__init__" "Meets.__init__" s_q32 ad.q32 ["self","other"])
 (F_q45:FB K "is_whole" "is_whole" s_q45 ad.q45 ["thing"])
 (F_q46:FB K "is_among" "is_among" s_q46 ad.q46 ["thing","least","most"])
 (F_q37:FB K "check_row" "check_row" s_q37 ad.q37 ["line","wide"])
 (F_q26:FB K "check_floor" "check_floor" s_q26 ad.q26 ["lines"])
 (F_q33:FB K "__init__" "Floor.__init__" s_q33 ad.q33 ["self","lines"])
 (F_q38:FB K "has" "Floor.has" s_q38 ad.q38 ["self","cell"])
 (F_q34:FB K "sign" "Floor.sign" s_q34 ad.q34 ["self","cell"])
 (F_q12:FB K "column" "Floor.column" s_q12 ad.q12 ["self","cell"])
 (F_q39:FB K "row" "Floor.row" s_q39 ad.q39 ["self","cell"])
 (F_q13:FB K "beside" "Floor.beside" s_q13 ad.q13 ["self","cell"])
 (F_q14:FB K "__init__" "Carrier.__init__" s_q14 ad.q14 ["self","full"])
 (F_q15:FB K "kind" "Carrier.kind" s_q15 ad.q15 ["self"])
 (F_q2:FB K "may_stand" "Carrier.may_stand" s_q2 ad.q2 ["self","sign"])
 (F_q16:FB K "gain" "Carrier.gain" s_q16 ad.q16 ["self","sign"])
 (F_q17:FB K "fare" "Carrier.fare" s_q17 ad.q17 ["self","floor","cell","other"])
 (F_q18:FB K "cost" "Carrier.cost" s_q18 ad.q18 ["self","floor","cell","other"])
 (F_q10:FB K "steps" "Carrier.steps" s_q10 ad.q10 ["self","floor","cell"])
 (F_q7:FB K "stayed" "Carrier.stayed" s_q7 ad.q7 ["self","sign","charge"])
 (F_q0:FB K "fare_if_standing" "Carrier.fare_if_standing" s_q0 ad.q0 ["self","floor","cell","other"])
 (F_q40:FB K "kind" "Cart.kind" s_q40 ad.q40 ["self"])
 (F_q19:FB K "kind" "Crawler.kind" s_q19 ad.q19 ["self"])
 (F_q3:FB K "may_stand" "Crawler.may_stand" s_q3 ad.q3 ["self","sign"])
 (F_q20:FB K "gain" "Crawler.gain" s_q20 ad.q20 ["self","sign"])
 (F_q21:FB K "fare" "Crawler.fare" s_q21 ad.q21 ["self","floor","cell","other"])
 (F_q27:FB K "kind" "Runner.kind" s_q27 ad.q27 ["self"])
 (F_q28:FB K "gain" "Runner.gain" s_q28 ad.q28 ["self","sign"])
 (F_q29:FB K "fare" "Runner.fare" s_q29 ad.q29 ["self","floor","cell","other"])
 {is_q35:Array Value}(F_q35:FBD K "carrier_of" "carrier_of" s_q35 ad.q35 is_q35 ["kind","full"])
 (F_q41:FB K "last_time" "last_time" s_q41 ad.q41 ["way"])
 (F_q47:FB K "index_at" "index_at" s_q47 ad.q47 ["way","time"])
 (F_q48:FB K "place_at" "place_at" s_q48 ad.q48 ["way","time"])
 (F_q22:FB K "meeting_word" "meeting_word" s_q22 ad.q22 ["one","other","time"])
 (F_q11:FB K "first_meeting" "first_meeting" s_q11 ad.q11 ["one","other"])
 (F_q42:FB K "__init__" "Book.__init__" s_q42 ad.q42 ["self"])
 (F_q49:FB K "put" "Book.put" s_q49 ad.q49 ["self","number","way"])
 (F_q23:FB K "numbers" "Book.numbers" s_q23 ad.q23 ["self"])
 (F_q24:FB K "comings" "Book.comings" s_q24 ad.q24 ["self","number","time"])
 (F_q6:FB K "ways_beside" "Book.ways_beside" s_q6 ad.q6 ["self","number"])
 (F_q4:FB K "check_number" "Book.check_number" s_q4 ad.q4 ["self","number"])
 (F_q50:FB K "is_clear" "is_clear" s_q50 ad.q50 ["comings","cell","other"])
 (F_q43:FB K "stops_met" "stops_met" s_q43 ad.q43 ["stops","many","cell"])
 (F_q30:FB K "first_layer" "first_layer" s_q30 ad.q30 ["stops","start","charge"])
 (F_q36:FB K "next_layer" "next_layer" s_q36 ad.q36 ["floor","carrier","book","number","stops","time","layer"])
 (F_q31:FB K "__init__" "Spread.__init__" s_q31 ad.q31 ["self","floor","carrier","book","number","stops"])
 (F_q1:FB K "layer_behind" "Spread.layer_behind" s_q1 ad.q1 ["self","time","layer"])
 (F_q8:FB K "reached" "Spread.reached" s_q8 ad.q8 ["self","comings","node","charge"])
 (F_q5:FB K "steps_from" "Spread.steps_from" s_q5 ad.q5 ["self","node"])
 (F_q9:FB K "node_at" "Spread.node_at" s_q9 ad.q9 ["self","node","cell"])
 (F_q51:FB K "_law_cell_at" "_law_cell_at" s_q51 ad.q51 ["_law_script","_law_k"])
 (F_q55:FB K "_law_mixed" "_law_mixed" s_q55 ad.q55 ["_law_script","_law_k"])
 (F_q56:FB K "_law_floor" "_law_floor" s_q56 ad.q56 ["_law_script"])
 (F_Lsign:FB K "_law_sign" "_law_sign" z210 ad.Lsign ["_law_lines","_law_cell"])
 (F_q52:FB K "_law_beside" "_law_beside" s_q52 ad.q52 ["_law_lines","_law_cell"])
 (F_q53:FB K "_law_stands" "_law_stands" s_q53 ad.q53 ["_law_kind","_law_sign_here"])
 (F_Lcost:FB K "_law_cost" "_law_cost" z118 ad.Lcost ["_law_lines","_law_kind","_law_cell","_law_other"])
 (F_q54:FB K "_law_stayed" "_law_stayed" s_q54 ad.q54 ["_law_lines","_law_kind","_law_full","_law_cell","_law_charge"])
 (F_q57:FB K "_law_place" "_law_place" s_q57 ad.q57 ["_law_way","_law_time"])
 (F_Lopen:FB K "_law_open" "_law_open" z93 ad.Lopen ["_law_ways_here","_law_number","_law_cell","_law_other","_law_time"])
 (F_Lways:FB K "_law_ways" "_law_ways" z9 ad.Lways ["_law_script","_law_first","_law_lines","_law_number"])
 (F_q25:FB K "_law_stand_cells" "_law_stand_cells" s_q25 ad.q25 ["_law_lines","_law_kind"])
 (F_Lmet:FB K "_law_met" "_law_met" s_Lmet ad.Lmet ["_law_stops","_law_many","_law_cell"])
 (F_Lall:FB K "_law_all" "_law_all" s_Lall ad.Lall ["_law_lines","_law_kind","_law_full","_law_ways_here","_law_number","_law_stops","_law_time","_law_states"])
 (F_q44:FB K "_law_greatest" "_law_greatest" s_q44 ad.q44 ["_law_states"])
 (F_law:Fun K "law" "law" s_law ad.law fd)
 : FnOk P w K mg base CX0 12 ad.law fd ["_law_script"] (spLaw K):=by
 have G_q32:=ok_q32 (P:=P) (w:=w) (base:=base) F_q32 T
 have G_q45:=ok_q45 (P:=P) (w:=w) (base:=base) F_q45 T
 have G_q37:=ok_q37 (P:=P) (w:=w) (base:=base) F_q37 T
 have G_q34:=ok_q34 (P:=P) (w:=w) (base:=base) F_q34 T
 have G_q12:=ok_q12 (P:=P) (w:=w) (base:=base) F_q12 T
 have G_q39:=ok_q39 (P:=P) (w:=w) (base:=base) F_q39 T
 have G_q14:=ok_q14 (P:=P) (w:=w) (base:=base) F_q14 T
 have G_q15:=ok_q15 (P:=P) (w:=w) (base:=base) F_q15 T
 have G_q2:=ok_q2 (P:=P) (w:=w) (base:=base) F_q2 T
 have G_q16:=ok_q16 (P:=P) (w:=w) (base:=base) F_q16 T
 have G_q17:=ok_q17 (P:=P) (w:=w) (base:=base) F_q17 T
 have G_q40:=ok_q40 (P:=P) (w:=w) (base:=base) F_q40 T
 have G_q19:=ok_q19 (P:=P) (w:=w) (base:=base) F_q19 T
 have G_q3:=ok_q3 (P:=P) (w:=w) (base:=base) F_q3 T
 have G_q20:=ok_q20 (P:=P) (w:=w) (base:=base) F_q20 T
 have G_q27:=ok_q27 (P:=P) (w:=w) (base:=base) F_q27 T
 have G_q28:=ok_q28 (P:=P) (w:=w) (base:=base) F_q28 T
 have G_q41:=ok_q41 (P:=P) (w:=w) (base:=base) F_q41 T
 have G_q47:=ok_q47 (P:=P) (w:=w) (base:=base) F_q47 T
 have G_q42:=ok_q42 (P:=P) (w:=w) (base:=base) F_q42 T
 have G_q23:=ok_q23 (P:=P) (w:=w) (base:=base) F_q23 T
 have G_q6:=ok_q6 (P:=P) (w:=w) (base:=base) F_q6 T
 have G_q50:=ok_q50 (P:=P) (w:=w) (base:=base) F_q50 T
 have G_q43:=ok_q43 (P:=P) (w:=w) (base:=base) F_q43 T
 have G_q31:=ok_q31 (P:=P) (w:=w) (base:=base) F_q31 T
 have G_q51:=ok_q51 (P:=P) (w:=w) (base:=base) F_q51 T
 have G_Lsign:=z582 (P:=P) (w:=w) (base:=base) F_Lsign T
 have G_q53:=ok_q53 (P:=P) (w:=w) (base:=base) F_q53 T
 have G_q57:=ok_q57 (P:=P) (w:=w) (base:=base) F_q57 T
 have G_Lmet:=z624 (P:=P) (w:=w) (base:=base) F_Lmet T
 have G_q44:=ok_q44 (P:=P) (w:=w) (base:=base) F_q44 T
 have G_q46:=ok_q46 (P:=P) (w:=w) (base:=base) F_q46 T G_q45
 have G_q7:=ok_q7 (P:=P) (w:=w) (base:=base) F_q7 T G_q16 G_q20 G_q28
 have G_q21:=ok_q21 (P:=P) (w:=w) (base:=base) F_q21 T G_q34
 have G_q29:=ok_q29 (P:=P) (w:=w) (base:=base) F_q29 T G_q39 G_q34
 have G_q48:=ok_q48 (P:=P) (w:=w) (base:=base) F_q48 T G_q47
 have G_q4:=ok_q4 (P:=P) (w:=w) (base:=base) F_q4 T G_q45
 have G_q30:=ok_q30 (P:=P) (w:=w) (base:=base) F_q30 T G_q43
 have G_q9:=ok_q9 (P:=P) (w:=w) (base:=base) F_q9 T G_q43
 have G_q55:=ok_q55 (P:=P) (w:=w) (base:=base) F_q55 T G_q51
 have G_q52:=ok_q52 (P:=P) (w:=w) (base:=base) F_q52 T G_Lsign
 have G_Lcost:=z596 (P:=P) (w:=w) (base:=base) F_Lcost T G_q53 G_Lsign
 have G_q54:=ok_q54 (P:=P) (w:=w) (base:=base) F_q54 T G_Lsign
 have G_Lopen:=z571 (P:=P) (w:=w) (base:=base) F_Lopen T G_q57
 have G_q25:=ok_q25 (P:=P) (w:=w) (base:=base) F_q25 T G_Lsign G_q53
 have G_q26:=ok_q26 (P:=P) (w:=w) (base:=base) F_q26 T G_q46 G_q37
 have G_q38:=ok_q38 (P:=P) (w:=w) (base:=base) F_q38 T G_q46
 have G_q0:=ok_q0 (P:=P) (w:=w) (base:=base) F_q0 T G_q2 G_q3 G_q34 G_q17 G_q21 G_q29
 have G_q35:=ok_q35 (P:=P) (w:=w) (base:=base) F_q35 T G_q46 G_q14
 have G_q22:=ok_q22 (P:=P) (w:=w) (base:=base) F_q22 T G_q48
 have G_q24:=ok_q24 (P:=P) (w:=w) (base:=base) F_q24 T G_q6 G_q48
 have G_q56:=ok_q56 (P:=P) (w:=w) (base:=base) F_q56 T G_q55
 have G_Lall:=z621 (P:=P) (w:=w) (base:=base) F_Lall T G_q52 G_q54 G_Lcost G_Lopen G_Lmet
 have G_q33:=ok_q33 (P:=P) (w:=w) (base:=base) F_q33 T G_q26
 have G_q13:=ok_q13 (P:=P) (w:=w) (base:=base) F_q13 T G_q12 G_q38
 have G_q11:=ok_q11 (P:=P) (w:=w) (base:=base) F_q11 T G_q41 G_q22
 have G_q18:=ok_q18 (P:=P) (w:=w) (base:=base) F_q18 T G_q13 G_q0
 have G_q10:=ok_q10 (P:=P) (w:=w) (base:=base) F_q10 T G_q13 G_q0
 have G_q49:=ok_q49 (P:=P) (w:=w) (base:=base) F_q49 T G_q23 G_q11 G_q32
 have G_q5:=ok_q5 (P:=P) (w:=w) (base:=base) F_q5 T G_q9 G_q10
 have G_Lways:=z574 (P:=P) (w:=w) (base:=base) F_Lways T G_q55 G_Lsign G_q52 G_q42 G_q49
 have G_q8:=ok_q8 (P:=P) (w:=w) (base:=base) F_q8 T G_q5 G_q9 G_q50 G_q7 G_q34
 have G_q1:=ok_q1 (P:=P) (w:=w) (base:=base) F_q1 T G_q24 G_q8
 have G_q36:=ok_q36 (P:=P) (w:=w) (base:=base) F_q36 T G_q31 G_q1
 exact ok_law F_law T G_q56 G_q55 G_Lways G_q25 G_q33 G_q35 G_Lmet G_q30 G_q44 G_q36 G_Lall

set_option maxHeartbeats 4000000 in
theorem all_mk {l:PySem.W.OpenLaw}{w:World}{K:PySem.W.Frag}{h:Heap}{mg:Str→Option Value}{fa:Addr}(X:K.In h) (G:h.Ns mainGlobals mg) (hfa:mg "law"=some (.ref fa))
 {C_Floor:Addr}
 {C_Cart:Addr}
 {C_Crawler:Addr}
 {C_Runner:Addr}
 {C_Carrier:Addr}
 {C_Book:Addr}
 {C_Spread:Addr}
 {C_NoCarrier:Addr}
 {C_FloorError:Addr}
 {C_Meets:Addr}
 {K_KINDS:Addr}{kc_KINDS:Option Addr}{kn_KINDS:Nat}{ks_KINDS:Array (Option Value)}{kk_KINDS0:Tok}{kk_KINDS1:Tok}{kk_KINDS2:Tok}
 {K_COMMON_SIGNS:Addr}{kc_COMMON_SIGNS:Option Addr}{kn_COMMON_SIGNS:Nat}{ks_COMMON_SIGNS:Array (Option Value)}{kk_COMMON_SIGNS0:Tok}{kk_COMMON_SIGNS1:Tok}{kk_COMMON_SIGNS2:Tok}
 {f_q32:Addr}
 {f_q45:Addr}
 {f_q46:Addr}
 {f_q37:Addr}
 {f_q26:Addr}
 {f_q33:Addr}
 {f_q38:Addr}
 {f_q34:Addr}
 {f_q12:Addr}
 {f_q39:Addr}
 {f_q13:Addr}
 {f_q14:Addr}
 {f_q15:Addr}
 {f_q2:Addr}
 {f_q16:Addr}
 {f_q17:Addr}
 {f_q18:Addr}
 {f_q10:Addr}
 {f_q7:Addr}
 {f_q0:Addr}
 {f_q40:Addr}
 {f_q19:Addr}
 {f_q3:Addr}
 {f_q20:Addr}
 {f_q21:Addr}
 {f_q27:Addr}
 {f_q28:Addr}
 {f_q29:Addr}
 {f_q35:Addr}
 {td_carrier_of0:Tok}
 {f_q41:Addr}
 {f_q47:Addr}
 {f_q48:Addr}
 {f_q22:Addr}
 {f_q11:Addr}
 {f_q42:Addr}
 {f_q49:Addr}
 {f_q23:Addr}
 {f_q24:Addr}
 {f_q6:Addr}
 {f_q4:Addr}
 {f_q50:Addr}
 {f_q43:Addr}
 {f_q30:Addr}
 {f_q36:Addr}
 {f_q31:Addr}
 {f_q1:Addr}
 {f_q8:Addr}
 {f_q5:Addr}
 {f_q9:Addr}
 {f_q51:Addr}
 {f_q55:Addr}
 {f_q56:Addr}
 {f_Lsign:Addr}
 {f_q52:Addr}
 {f_q53:Addr}
 {f_Lcost:Addr}
 {f_q54:Addr}
 {f_q57:Addr}
 {f_Lopen:Addr}
 {f_Lways:Addr}
 {f_q25:Addr}
 {f_Lmet:Addr}
 {f_Lall:Addr}
 {f_q44:Addr}
 {f_law:Addr}
 {t_WALL:Tok}
 {t_CHARGER:Tok}
 {t_SIGNS:Tok}
 {t_MOST_ROWS:Tok}
 {t_MOST_SIGNS:Tok}
 {t_MOST_FULL:Tok}
 {t_ROUGH:Tok}
 {t_LANE:Tok}
 (aC_Floor:PySem.W.nsIn K mainGlobals "Floor"=some (some (.ref C_Floor)))
 (pg_Floor:PySem.W.plainGet K C_Floor Str.empty=true) (hd_Floor:PySem.W.hasDictIn K C_Floor=true) (po_Floor:PySem.W.plainOver K C_Floor=true) (sa_Floor:PySem.W.findIn K (.ref C_Floor) "__setattr__"=some (some (.builtin "object.__setattr__"))) (kc_Floor:PySem.W.keepIn K (.ref C_Floor)=true)
 (mk_Floor:PySem.W.makesIn K C_Floor=true)
 (n_Floor_wide:PySem.W.findIn K (.ref C_Floor) "wide"=some none)
 (n_Floor_high:PySem.W.findIn K (.ref C_Floor) "high"=some none)
 (n_Floor_lines:PySem.W.findIn K (.ref C_Floor) "lines"=some none)
 (n_Floor_signs:PySem.W.findIn K (.ref C_Floor) "signs"=some none)
 (aC_Cart:PySem.W.nsIn K mainGlobals "Cart"=some (some (.ref C_Cart)))
 (pg_Cart:PySem.W.plainGet K C_Cart Str.empty=true) (hd_Cart:PySem.W.hasDictIn K C_Cart=true) (po_Cart:PySem.W.plainOver K C_Cart=true) (sa_Cart:PySem.W.findIn K (.ref C_Cart) "__setattr__"=some (some (.builtin "object.__setattr__"))) (kc_Cart:PySem.W.keepIn K (.ref C_Cart)=true)
 (mk_Cart:PySem.W.makesIn K C_Cart=true)
 (n_Cart_full:PySem.W.findIn K (.ref C_Cart) "full"=some none)
 (aC_Crawler:PySem.W.nsIn K mainGlobals "Crawler"=some (some (.ref C_Crawler)))
 (pg_Crawler:PySem.W.plainGet K C_Crawler Str.empty=true) (hd_Crawler:PySem.W.hasDictIn K C_Crawler=true) (po_Crawler:PySem.W.plainOver K C_Crawler=true) (sa_Crawler:PySem.W.findIn K (.ref C_Crawler) "__setattr__"=some (some (.builtin "object.__setattr__"))) (kc_Crawler:PySem.W.keepIn K (.ref C_Crawler)=true)
 (mk_Crawler:PySem.W.makesIn K C_Crawler=true)
 (n_Crawler_full:PySem.W.findIn K (.ref C_Crawler) "full"=some none)
 (aC_Runner:PySem.W.nsIn K mainGlobals "Runner"=some (some (.ref C_Runner)))
 (pg_Runner:PySem.W.plainGet K C_Runner Str.empty=true) (hd_Runner:PySem.W.hasDictIn K C_Runner=true) (po_Runner:PySem.W.plainOver K C_Runner=true) (sa_Runner:PySem.W.findIn K (.ref C_Runner) "__setattr__"=some (some (.builtin "object.__setattr__"))) (kc_Runner:PySem.W.keepIn K (.ref C_Runner)=true)
 (mk_Runner:PySem.W.makesIn K C_Runner=true)
 (n_Runner_full:PySem.W.findIn K (.ref C_Runner) "full"=some none)
 (aC_Carrier:PySem.W.nsIn K mainGlobals "Carrier"=some (some (.ref C_Carrier)))
 (pg_Carrier:PySem.W.plainGet K C_Carrier Str.empty=true) (hd_Carrier:PySem.W.hasDictIn K C_Carrier=true) (po_Carrier:PySem.W.plainOver K C_Carrier=true) (sa_Carrier:PySem.W.findIn K (.ref C_Carrier) "__setattr__"=some (some (.builtin "object.__setattr__"))) (kc_Carrier:PySem.W.keepIn K (.ref C_Carrier)=true)
 (mk_Carrier:PySem.W.makesIn K C_Carrier=true)
 (n_Carrier_full:PySem.W.findIn K (.ref C_Carrier) "full"=some none)
 (aC_Book:PySem.W.nsIn K mainGlobals "Book"=some (some (.ref C_Book)))
 (pg_Book:PySem.W.plainGet K C_Book Str.empty=true) (hd_Book:PySem.W.hasDictIn K C_Book=true) (po_Book:PySem.W.plainOver K C_Book=true) (sa_Book:PySem.W.findIn K (.ref C_Book) "__setattr__"=some (some (.builtin "object.__setattr__"))) (kc_Book:PySem.W.keepIn K (.ref C_Book)=true)
 (mk_Book:PySem.W.makesIn K C_Book=true)
 (n_Book_ways:PySem.W.findIn K (.ref C_Book) "ways"=some none)
 (aC_Spread:PySem.W.nsIn K mainGlobals "Spread"=some (some (.ref C_Spread)))
 (pg_Spread:PySem.W.plainGet K C_Spread Str.empty=true) (hd_Spread:PySem.W.hasDictIn K C_Spread=true) (po_Spread:PySem.W.plainOver K C_Spread=true) (sa_Spread:PySem.W.findIn K (.ref C_Spread) "__setattr__"=some (some (.builtin "object.__setattr__"))) (kc_Spread:PySem.W.keepIn K (.ref C_Spread)=true)
 (mk_Spread:PySem.W.makesIn K C_Spread=true)
 (n_Spread_floor:PySem.W.findIn K (.ref C_Spread) "floor"=some none)
 (n_Spread_mover:PySem.W.findIn K (.ref C_Spread) "mover"=some none)
 (n_Spread_booked:PySem.W.findIn K (.ref C_Spread) "booked"=some none)
 (n_Spread_number:PySem.W.findIn K (.ref C_Spread) "number"=some none)
 (n_Spread_stops:PySem.W.findIn K (.ref C_Spread) "stops"=some none)
 (n_Spread_known:PySem.W.findIn K (.ref C_Spread) "known"=some none)
 (aC_NoCarrier:PySem.W.nsIn K mainGlobals "NoCarrier"=some (some (.ref C_NoCarrier))) (er_NoCarrier:PySem.W.excIn K C_NoCarrier [.type "ValueError",.type "Exception",.type "BaseException",.type "object"] "ValueError.__new__"=true)
 (aC_FloorError:PySem.W.nsIn K mainGlobals "FloorError"=some (some (.ref C_FloorError)))
 (aC_Meets:PySem.W.nsIn K mainGlobals "Meets"=some (some (.ref C_Meets)))
 (xm_Meets_Meets:PySem.W.exmOne K (.ref C_Meets) (.ref C_Meets)=some true)
 (x_KINDS:PySem.W.nsIn K mainGlobals "KINDS"=some (some (.ref K_KINDS))) (lk_KINDS:K.lookup K_KINDS=some ⟨.type "tuple",kc_KINDS,.seq #[.str (Str.ofString "cart") kk_KINDS0,.str (Str.ofString "crawler") kk_KINDS1,.str (Str.ofString "runner") kk_KINDS2] kn_KINDS,ks_KINDS⟩)
 (x_COMMON_SIGNS:PySem.W.nsIn K mainGlobals "COMMON_SIGNS"=some (some (.ref K_COMMON_SIGNS))) (lk_COMMON_SIGNS:K.lookup K_COMMON_SIGNS=some ⟨.type "tuple",kc_COMMON_SIGNS,.seq #[.str (Str.ofString ".") kk_COMMON_SIGNS0,.str (Str.ofString "+") kk_COMMON_SIGNS1,.str (Str.ofString "|") kk_COMMON_SIGNS2] kn_COMMON_SIGNS,ks_COMMON_SIGNS⟩)
 (cgx:PySem.W.specialIn K (.builtin "object.__class__") "__get__"=some (some (.builtin "getset_descriptor.__get__")))
 (ctx:PySem.W.takesIn K (.builtin "object.__class__")=some true)
 (ca_Cart:PySem.W.findIn K (.ref C_Cart) "__class__"=some (some (.builtin "object.__class__")))
 (cm_Cart:PySem.W.mroIn K C_Cart (.type "object")=some true)
 (is_Cart_Carrier:PySem.W.kitOne K (.ref C_Cart) (.ref C_Carrier)=some true)
 (is_Cart_Cart:PySem.W.kitOne K (.ref C_Cart) (.ref C_Cart)=some true)
 (is_Cart_Crawler:PySem.W.kitOne K (.ref C_Cart) (.ref C_Crawler)=some false)
 (is_Cart_Runner:PySem.W.kitOne K (.ref C_Cart) (.ref C_Runner)=some false)
 (ca_Crawler:PySem.W.findIn K (.ref C_Crawler) "__class__"=some (some (.builtin "object.__class__")))
 (cm_Crawler:PySem.W.mroIn K C_Crawler (.type "object")=some true)
 (is_Crawler_Carrier:PySem.W.kitOne K (.ref C_Crawler) (.ref C_Carrier)=some true)
 (is_Crawler_Cart:PySem.W.kitOne K (.ref C_Crawler) (.ref C_Cart)=some false)
 (is_Crawler_Crawler:PySem.W.kitOne K (.ref C_Crawler) (.ref C_Crawler)=some true)
 (is_Crawler_Runner:PySem.W.kitOne K (.ref C_Crawler) (.ref C_Runner)=some false)
 (ca_Runner:PySem.W.findIn K (.ref C_Runner) "__class__"=some (some (.builtin "object.__class__")))
 (cm_Runner:PySem.W.mroIn K C_Runner (.type "object")=some true)
 (is_Runner_Carrier:PySem.W.kitOne K (.ref C_Runner) (.ref C_Carrier)=some true)
 (is_Runner_Cart:PySem.W.kitOne K (.ref C_Runner) (.ref C_Cart)=some false)
 (is_Runner_Crawler:PySem.W.kitOne K (.ref C_Runner) (.ref C_Crawler)=some false)
 (is_Runner_Runner:PySem.W.kitOne K (.ref C_Runner) (.ref C_Runner)=some true)
 (ca_Carrier:PySem.W.findIn K (.ref C_Carrier) "__class__"=some (some (.builtin "object.__class__")))
 (cm_Carrier:PySem.W.mroIn K C_Carrier (.type "object")=some true)
 (is_Carrier_Carrier:PySem.W.kitOne K (.ref C_Carrier) (.ref C_Carrier)=some true)
 (is_Carrier_Cart:PySem.W.kitOne K (.ref C_Carrier) (.ref C_Cart)=some false)
 (is_Carrier_Crawler:PySem.W.kitOne K (.ref C_Carrier) (.ref C_Crawler)=some false)
 (is_Carrier_Runner:PySem.W.kitOne K (.ref C_Carrier) (.ref C_Runner)=some false)
 (xn_Meets:PySem.W.findIn K (.ref C_Meets) "__init__"=some (some (.ref f_q32)))
 (xi_Meets:exiIn K C_Meets f_q32=true)
 (xf_Meets:PySem.W.isFn K (.ref f_q32)=true)
 (xt_sa:PySem.W.findIn K (.ref C_Meets) "__setattr__"=some (some (.builtin "object.__setattr__")))
 (xt_mro:(PySem.W.clsIn K C_Meets).any (fun cd=>z26 cd.mro)=true)
 (xt_dict:(PySem.W.clsIn K C_Meets).any (·.hasDict)=true)
 (xt_no:PySem.W.findIn K (.ref C_Meets) "other"=some none)
 (xt_hd:PySem.W.hasDictIn K C_Meets=true)
 (i_q32:PySem.W.isFn K (.ref f_q32)=true)
 (l_q32:FN K "__init__" "Meets.__init__" s_q32 f_q32)
 (a_q45:PySem.W.nsIn K mainGlobals "is_whole"=some (some (.ref f_q45)))
 (l_q45:FN K "is_whole" "is_whole" s_q45 f_q45)
 (a_q46:PySem.W.nsIn K mainGlobals "is_among"=some (some (.ref f_q46)))
 (l_q46:FN K "is_among" "is_among" s_q46 f_q46)
 (a_q37:PySem.W.nsIn K mainGlobals "check_row"=some (some (.ref f_q37)))
 (l_q37:FN K "check_row" "check_row" s_q37 f_q37)
 (a_q26:PySem.W.nsIn K mainGlobals "check_floor"=some (some (.ref f_q26)))
 (l_q26:FN K "check_floor" "check_floor" s_q26 f_q26)
 (a_q33:PySem.W.findIn K (.ref C_Floor) "__init__"=some (some (.ref f_q33))) (i_q33:PySem.W.isFn K (.ref f_q33)=true)
 (l_q33:FN K "__init__" "Floor.__init__" s_q33 f_q33)
 (a_q38:PySem.W.findIn K (.ref C_Floor) "has"=some (some (.ref f_q38))) (i_q38:PySem.W.isFn K (.ref f_q38)=true)
 (l_q38:FN K "has" "Floor.has" s_q38 f_q38)
 (a_q34:PySem.W.findIn K (.ref C_Floor) "sign"=some (some (.ref f_q34))) (i_q34:PySem.W.isFn K (.ref f_q34)=true)
 (l_q34:FN K "sign" "Floor.sign" s_q34 f_q34)
 (a_q12:PySem.W.findIn K (.ref C_Floor) "column"=some (some (.ref f_q12))) (i_q12:PySem.W.isFn K (.ref f_q12)=true)
 (l_q12:FN K "column" "Floor.column" s_q12 f_q12)
 (a_q39:PySem.W.findIn K (.ref C_Floor) "row"=some (some (.ref f_q39))) (i_q39:PySem.W.isFn K (.ref f_q39)=true)
 (l_q39:FN K "row" "Floor.row" s_q39 f_q39)
 (a_q13:PySem.W.findIn K (.ref C_Floor) "beside"=some (some (.ref f_q13))) (i_q13:PySem.W.isFn K (.ref f_q13)=true)
 (l_q13:FN K "beside" "Floor.beside" s_q13 f_q13)
 (a_q14:PySem.W.findIn K (.ref C_Carrier) "__init__"=some (some (.ref f_q14))) (i_q14:PySem.W.isFn K (.ref f_q14)=true)
 (l_q14:FN K "__init__" "Carrier.__init__" s_q14 f_q14)
 (a_q15:PySem.W.findIn K (.ref C_Carrier) "kind"=some (some (.ref f_q15))) (i_q15:PySem.W.isFn K (.ref f_q15)=true)
 (l_q15:FN K "kind" "Carrier.kind" s_q15 f_q15)
 (a_q2:PySem.W.findIn K (.ref C_Carrier) "may_stand"=some (some (.ref f_q2))) (i_q2:PySem.W.isFn K (.ref f_q2)=true)
 (l_q2:FN K "may_stand" "Carrier.may_stand" s_q2 f_q2)
 (a_q16:PySem.W.findIn K (.ref C_Carrier) "gain"=some (some (.ref f_q16))) (i_q16:PySem.W.isFn K (.ref f_q16)=true)
 (l_q16:FN K "gain" "Carrier.gain" s_q16 f_q16)
 (a_q17:PySem.W.findIn K (.ref C_Carrier) "fare"=some (some (.ref f_q17))) (i_q17:PySem.W.isFn K (.ref f_q17)=true)
 (l_q17:FN K "fare" "Carrier.fare" s_q17 f_q17)
 (a_q18:PySem.W.findIn K (.ref C_Carrier) "cost"=some (some (.ref f_q18))) (i_q18:PySem.W.isFn K (.ref f_q18)=true)
 (l_q18:FN K "cost" "Carrier.cost" s_q18 f_q18)
 (a_q10:PySem.W.findIn K (.ref C_Carrier) "steps"=some (some (.ref f_q10))) (i_q10:PySem.W.isFn K (.ref f_q10)=true)
 (l_q10:FN K "steps" "Carrier.steps" s_q10 f_q10)
 (a_q7:PySem.W.findIn K (.ref C_Carrier) "stayed"=some (some (.ref f_q7))) (i_q7:PySem.W.isFn K (.ref f_q7)=true)
 (l_q7:FN K "stayed" "Carrier.stayed" s_q7 f_q7)
 (a_q0:PySem.W.findIn K (.ref C_Carrier) "fare_if_standing"=some (some (.ref f_q0))) (i_q0:PySem.W.isFn K (.ref f_q0)=true)
 (l_q0:FN K "fare_if_standing" "Carrier.fare_if_standing" s_q0 f_q0)
 (a_q40:PySem.W.findIn K (.ref C_Cart) "kind"=some (some (.ref f_q40))) (i_q40:PySem.W.isFn K (.ref f_q40)=true)
 (l_q40:FN K "kind" "Cart.kind" s_q40 f_q40)
 (a_q19:PySem.W.findIn K (.ref C_Crawler) "kind"=some (some (.ref f_q19))) (i_q19:PySem.W.isFn K (.ref f_q19)=true)
 (l_q19:FN K "kind" "Crawler.kind" s_q19 f_q19)
 (a_q3:PySem.W.findIn K (.ref C_Crawler) "may_stand"=some (some (.ref f_q3))) (i_q3:PySem.W.isFn K (.ref f_q3)=true)
 (l_q3:FN K "may_stand" "Crawler.may_stand" s_q3 f_q3)
 (a_q20:PySem.W.findIn K (.ref C_Crawler) "gain"=some (some (.ref f_q20))) (i_q20:PySem.W.isFn K (.ref f_q20)=true)
 (l_q20:FN K "gain" "Crawler.gain" s_q20 f_q20)
 (a_q21:PySem.W.findIn K (.ref C_Crawler) "fare"=some (some (.ref f_q21))) (i_q21:PySem.W.isFn K (.ref f_q21)=true)
 (l_q21:FN K "fare" "Crawler.fare" s_q21 f_q21)
 (a_q27:PySem.W.findIn K (.ref C_Runner) "kind"=some (some (.ref f_q27))) (i_q27:PySem.W.isFn K (.ref f_q27)=true)
 (l_q27:FN K "kind" "Runner.kind" s_q27 f_q27)
 (a_q28:PySem.W.findIn K (.ref C_Runner) "gain"=some (some (.ref f_q28))) (i_q28:PySem.W.isFn K (.ref f_q28)=true)
 (l_q28:FN K "gain" "Runner.gain" s_q28 f_q28)
 (a_q29:PySem.W.findIn K (.ref C_Runner) "fare"=some (some (.ref f_q29))) (i_q29:PySem.W.isFn K (.ref f_q29)=true)
 (l_q29:FN K "fare" "Runner.fare" s_q29 f_q29)
 (a_q35:PySem.W.nsIn K mainGlobals "carrier_of"=some (some (.ref f_q35)))
 (ld_q35:FND K "carrier_of" "carrier_of" s_q35 f_q35 #[.int 20 td_carrier_of0])
 (a_q41:PySem.W.nsIn K mainGlobals "last_time"=some (some (.ref f_q41)))
 (l_q41:FN K "last_time" "last_time" s_q41 f_q41)
 (a_q47:PySem.W.nsIn K mainGlobals "index_at"=some (some (.ref f_q47)))
 (l_q47:FN K "index_at" "index_at" s_q47 f_q47)
 (a_q48:PySem.W.nsIn K mainGlobals "place_at"=some (some (.ref f_q48)))
 (l_q48:FN K "place_at" "place_at" s_q48 f_q48)
 (a_q22:PySem.W.nsIn K mainGlobals "meeting_word"=some (some (.ref f_q22)))
 (l_q22:FN K "meeting_word" "meeting_word" s_q22 f_q22)
 (a_q11:PySem.W.nsIn K mainGlobals "first_meeting"=some (some (.ref f_q11)))
 (l_q11:FN K "first_meeting" "first_meeting" s_q11 f_q11)
 (a_q42:PySem.W.findIn K (.ref C_Book) "__init__"=some (some (.ref f_q42))) (i_q42:PySem.W.isFn K (.ref f_q42)=true)
 (l_q42:FN K "__init__" "Book.__init__" s_q42 f_q42)
 (a_q49:PySem.W.findIn K (.ref C_Book) "put"=some (some (.ref f_q49))) (i_q49:PySem.W.isFn K (.ref f_q49)=true)
 (l_q49:FN K "put" "Book.put" s_q49 f_q49)
 (a_q23:PySem.W.findIn K (.ref C_Book) "numbers"=some (some (.ref f_q23))) (i_q23:PySem.W.isFn K (.ref f_q23)=true)
 (l_q23:FN K "numbers" "Book.numbers" s_q23 f_q23)
 (a_q24:PySem.W.findIn K (.ref C_Book) "comings"=some (some (.ref f_q24))) (i_q24:PySem.W.isFn K (.ref f_q24)=true)
 (l_q24:FN K "comings" "Book.comings" s_q24 f_q24)
 (a_q6:PySem.W.findIn K (.ref C_Book) "ways_beside"=some (some (.ref f_q6))) (i_q6:PySem.W.isFn K (.ref f_q6)=true)
 (l_q6:FN K "ways_beside" "Book.ways_beside" s_q6 f_q6)
 (a_q4:PySem.W.findIn K (.ref C_Book) "check_number"=some (some (.ref f_q4))) (i_q4:PySem.W.isFn K (.ref f_q4)=true)
 (l_q4:FN K "check_number" "Book.check_number" s_q4 f_q4)
 (a_q50:PySem.W.nsIn K mainGlobals "is_clear"=some (some (.ref f_q50)))
 (l_q50:FN K "is_clear" "is_clear" s_q50 f_q50)
 (a_q43:PySem.W.nsIn K mainGlobals "stops_met"=some (some (.ref f_q43)))
 (l_q43:FN K "stops_met" "stops_met" s_q43 f_q43)
 (a_q30:PySem.W.nsIn K mainGlobals "first_layer"=some (some (.ref f_q30)))
 (l_q30:FN K "first_layer" "first_layer" s_q30 f_q30)
 (a_q36:PySem.W.nsIn K mainGlobals "next_layer"=some (some (.ref f_q36)))
 (l_q36:FN K "next_layer" "next_layer" s_q36 f_q36)
 (a_q31:PySem.W.findIn K (.ref C_Spread) "__init__"=some (some (.ref f_q31))) (i_q31:PySem.W.isFn K (.ref f_q31)=true)
 (l_q31:FN K "__init__" "Spread.__init__" s_q31 f_q31)
 (a_q1:PySem.W.findIn K (.ref C_Spread) "layer_behind"=some (some (.ref f_q1))) (i_q1:PySem.W.isFn K (.ref f_q1)=true)
 (l_q1:FN K "layer_behind" "Spread.layer_behind" s_q1 f_q1)
 (a_q8:PySem.W.findIn K (.ref C_Spread) "reached"=some (some (.ref f_q8))) (i_q8:PySem.W.isFn K (.ref f_q8)=true)
 (l_q8:FN K "reached" "Spread.reached" s_q8 f_q8)
 (a_q5:PySem.W.findIn K (.ref C_Spread) "steps_from"=some (some (.ref f_q5))) (i_q5:PySem.W.isFn K (.ref f_q5)=true)
 (l_q5:FN K "steps_from" "Spread.steps_from" s_q5 f_q5)
 (a_q9:PySem.W.findIn K (.ref C_Spread) "node_at"=some (some (.ref f_q9))) (i_q9:PySem.W.isFn K (.ref f_q9)=true)
 (l_q9:FN K "node_at" "Spread.node_at" s_q9 f_q9)
 (a_q51:PySem.W.nsIn K mainGlobals "_law_cell_at"=some (some (.ref f_q51)))
 (l_q51:FN K "_law_cell_at" "_law_cell_at" s_q51 f_q51)
 (a_q55:PySem.W.nsIn K mainGlobals "_law_mixed"=some (some (.ref f_q55)))
 (l_q55:FN K "_law_mixed" "_law_mixed" s_q55 f_q55)
 (a_q56:PySem.W.nsIn K mainGlobals "_law_floor"=some (some (.ref f_q56)))
 (l_q56:FN K "_law_floor" "_law_floor" s_q56 f_q56)
 (a_Lsign:PySem.W.nsIn K mainGlobals "_law_sign"=some (some (.ref f_Lsign)))
 (l_Lsign:FN K "_law_sign" "_law_sign" z210 f_Lsign)
 (a_q52:PySem.W.nsIn K mainGlobals "_law_beside"=some (some (.ref f_q52)))
 (l_q52:FN K "_law_beside" "_law_beside" s_q52 f_q52)
 (a_q53:PySem.W.nsIn K mainGlobals "_law_stands"=some (some (.ref f_q53)))
 (l_q53:FN K "_law_stands" "_law_stands" s_q53 f_q53)
 (a_Lcost:PySem.W.nsIn K mainGlobals "_law_cost"=some (some (.ref f_Lcost)))
 (l_Lcost:FN K "_law_cost" "_law_cost" z118 f_Lcost)
 (a_q54:PySem.W.nsIn K mainGlobals "_law_stayed"=some (some (.ref f_q54)))
 (l_q54:FN K "_law_stayed" "_law_stayed" s_q54 f_q54)
 (a_q57:PySem.W.nsIn K mainGlobals "_law_place"=some (some (.ref f_q57)))
 (l_q57:FN K "_law_place" "_law_place" s_q57 f_q57)
 (a_Lopen:PySem.W.nsIn K mainGlobals "_law_open"=some (some (.ref f_Lopen)))
 (l_Lopen:FN K "_law_open" "_law_open" z93 f_Lopen)
 (a_Lways:PySem.W.nsIn K mainGlobals "_law_ways"=some (some (.ref f_Lways)))
 (l_Lways:FN K "_law_ways" "_law_ways" z9 f_Lways)
 (a_q25:PySem.W.nsIn K mainGlobals "_law_stand_cells"=some (some (.ref f_q25)))
 (l_q25:FN K "_law_stand_cells" "_law_stand_cells" s_q25 f_q25)
 (a_Lmet:PySem.W.nsIn K mainGlobals "_law_met"=some (some (.ref f_Lmet)))
 (l_Lmet:FN K "_law_met" "_law_met" s_Lmet f_Lmet)
 (a_Lall:PySem.W.nsIn K mainGlobals "_law_all"=some (some (.ref f_Lall)))
 (l_Lall:FN K "_law_all" "_law_all" s_Lall f_Lall)
 (a_q44:PySem.W.nsIn K mainGlobals "_law_greatest"=some (some (.ref f_q44)))
 (l_q44:FN K "_law_greatest" "_law_greatest" s_q44 f_q44)
 (a_law:PySem.W.nsIn K mainGlobals "law"=some (some (.ref f_law)))
 (l_law:FN K "law" "law" s_law f_law)
 (as_Cart_may_stand:PySem.W.findIn K (.ref C_Cart) "may_stand"=some (some (.ref f_q2)))
 (as_Cart_gain:PySem.W.findIn K (.ref C_Cart) "gain"=some (some (.ref f_q16)))
 (as_Cart_fare:PySem.W.findIn K (.ref C_Cart) "fare"=some (some (.ref f_q17)))
 (as_Cart_cost:PySem.W.findIn K (.ref C_Cart) "cost"=some (some (.ref f_q18)))
 (as_Cart_steps:PySem.W.findIn K (.ref C_Cart) "steps"=some (some (.ref f_q10)))
 (as_Cart_stayed:PySem.W.findIn K (.ref C_Cart) "stayed"=some (some (.ref f_q7)))
 (as_Cart_fare_if_standing:PySem.W.findIn K (.ref C_Cart) "fare_if_standing"=some (some (.ref f_q0)))
 (as_Crawler_cost:PySem.W.findIn K (.ref C_Crawler) "cost"=some (some (.ref f_q18)))
 (as_Crawler_steps:PySem.W.findIn K (.ref C_Crawler) "steps"=some (some (.ref f_q10)))
 (as_Crawler_stayed:PySem.W.findIn K (.ref C_Crawler) "stayed"=some (some (.ref f_q7)))
 (as_q21_if_standing:PySem.W.findIn K (.ref C_Crawler) "fare_if_standing"=some (some (.ref f_q0)))
 (as_Runner_may_stand:PySem.W.findIn K (.ref C_Runner) "may_stand"=some (some (.ref f_q2)))
 (as_Runner_cost:PySem.W.findIn K (.ref C_Runner) "cost"=some (some (.ref f_q18)))
 (as_Runner_steps:PySem.W.findIn K (.ref C_Runner) "steps"=some (some (.ref f_q10)))
 (as_Runner_stayed:PySem.W.findIn K (.ref C_Runner) "stayed"=some (some (.ref f_q7)))
 (as_q29_if_standing:PySem.W.findIn K (.ref C_Runner) "fare_if_standing"=some (some (.ref f_q0)))
 (as_Cart_init:PySem.W.findIn K (.ref C_Cart) "__init__"=some (some (.ref f_q14)))
 (as_Crawler_init:PySem.W.findIn K (.ref C_Crawler) "__init__"=some (some (.ref f_q14)))
 (as_Runner_init:PySem.W.findIn K (.ref C_Runner) "__init__"=some (some (.ref f_q14)))
 (z_len:PySem.W.nsIn K mainGlobals "len"=some none)
 (z_range:PySem.W.nsIn K mainGlobals "range"=some none)
 (z_isinstance:PySem.W.nsIn K mainGlobals "isinstance"=some none)
 (z_all:PySem.W.nsIn K mainGlobals "all"=some none)
 (z_int:PySem.W.nsIn K mainGlobals "int"=some none)
 (z_bool:PySem.W.nsIn K mainGlobals "bool"=some none)
 (z_str:PySem.W.nsIn K mainGlobals "str"=some none)
 (z_list:PySem.W.nsIn K mainGlobals "list"=some none)
 (z_tuple:PySem.W.nsIn K mainGlobals "tuple"=some none)
 (z_dict:PySem.W.nsIn K mainGlobals "dict"=some none)
 (z_min:PySem.W.nsIn K mainGlobals "min"=some none)
 (z_max:PySem.W.nsIn K mainGlobals "max"=some none)
 (z_sorted:PySem.W.nsIn K mainGlobals "sorted"=some none)
 (z_enumerate:PySem.W.nsIn K mainGlobals "enumerate"=some none)
 (z_divmod:PySem.W.nsIn K mainGlobals "divmod"=some none)
 (z_ValueError:PySem.W.nsIn K mainGlobals "ValueError"=some none)
 (x_WALL:PySem.W.nsIn K mainGlobals "WALL"=some (some (.str (Str.ofString "#") t_WALL)))
 (x_CHARGER:PySem.W.nsIn K mainGlobals "CHARGER"=some (some (.str (Str.ofString "+") t_CHARGER)))
 (x_SIGNS:PySem.W.nsIn K mainGlobals "SIGNS"=some (some (.str (Str.ofString ".#+~|") t_SIGNS)))
 (x_MOST_ROWS:PySem.W.nsIn K mainGlobals "MOST_ROWS"=some (some (.int 10 t_MOST_ROWS)))
 (x_MOST_SIGNS:PySem.W.nsIn K mainGlobals "MOST_SIGNS"=some (some (.int 10 t_MOST_SIGNS)))
 (x_MOST_FULL:PySem.W.nsIn K mainGlobals "MOST_FULL"=some (some (.int 60 t_MOST_FULL)))
 (x_ROUGH:PySem.W.nsIn K mainGlobals "ROUGH"=some (some (.str (Str.ofString "~") t_ROUGH)))
 (x_LANE:PySem.W.nsIn K mainGlobals "LANE"=some (some (.str (Str.ofString "|") t_LANE)))
 : ∃ fd:FuncData,(∀ (s:Shared) (v:Value),BindsTo s fd ⟨[v],[]⟩ [("_law_script",v)])∧∀ base:Heap,K.In base→base.Ns mainGlobals mg→FnOk l.prog w K mg base CX0 12 fa fd ["_law_script"] (spLaw K):=by
 obtain rfl:f_law=fa:=by
  have e:=hfa.symm.trans (PySem.W.mg_of X G a_law)
  cases e
  rfl
 let A0:Ad:=⟨f_q32,f_q45,f_q46,f_q37,f_q26,f_q33,f_q38,f_q34,f_q12,f_q39,f_q13,f_q14,f_q15,f_q2,f_q16,f_q17,f_q18,f_q10,f_q7,f_q0,f_q40,f_q19,f_q3,f_q20,f_q21,f_q27,f_q28,f_q29,f_q35,f_q41,f_q47,f_q48,f_q22,f_q11,f_q42,f_q49,f_q23,f_q24,f_q6,f_q4,f_q50,f_q43,f_q30,f_q36,f_q31,f_q1,f_q8,f_q5,f_q9,f_q51,f_q55,f_q56,f_Lsign,f_q52,f_q53,f_Lcost,f_q54,f_q57,f_Lopen,f_Lways,f_q25,f_Lmet,f_Lall,f_q44,f_law,C_Floor,C_Cart,C_Crawler,C_Runner,C_Carrier,C_Book,C_Spread,C_NoCarrier,C_FloorError,C_Meets,K_KINDS,K_COMMON_SIGNS⟩
 have T:Txt K mg A0:=by
  constructor
  ·exact PySem.W.mg_none_of X G z_len
  ·exact PySem.W.mg_none_of X G z_range
  ·exact PySem.W.mg_none_of X G z_isinstance
  ·exact PySem.W.mg_none_of X G z_all
  ·exact PySem.W.mg_none_of X G z_int
  ·exact PySem.W.mg_none_of X G z_bool
  ·exact PySem.W.mg_none_of X G z_str
  ·exact PySem.W.mg_none_of X G z_list
  ·exact PySem.W.mg_none_of X G z_tuple
  ·exact PySem.W.mg_none_of X G z_dict
  ·exact PySem.W.mg_none_of X G z_min
  ·exact PySem.W.mg_none_of X G z_max
  ·exact PySem.W.mg_none_of X G z_sorted
  ·exact PySem.W.mg_none_of X G z_enumerate
  ·exact PySem.W.mg_none_of X G z_divmod
  ·exact PySem.W.mg_none_of X G z_ValueError
  ·exact⟨_,PySem.W.mg_of X G x_WALL,⟨_,rfl⟩⟩
  ·exact⟨_,PySem.W.mg_of X G x_CHARGER,⟨_,rfl⟩⟩
  ·exact⟨_,PySem.W.mg_of X G x_ROUGH,⟨_,rfl⟩⟩
  ·exact⟨_,PySem.W.mg_of X G x_LANE,⟨_,rfl⟩⟩
  ·exact⟨_,PySem.W.mg_of X G x_SIGNS,⟨_,rfl⟩⟩
  ·exact⟨_,PySem.W.mg_of X G x_MOST_ROWS,⟨_,rfl⟩⟩
  ·exact⟨_,PySem.W.mg_of X G x_MOST_SIGNS,⟨_,rfl⟩⟩
  ·exact⟨_,PySem.W.mg_of X G x_KINDS,rfl⟩
  ·exact⟨_,PySem.W.mg_of X G x_MOST_FULL,⟨_,rfl⟩⟩
  ·exact⟨_,PySem.W.mg_of X G x_COMMON_SIGNS,rfl⟩
  ·exact PySem.W.mg_of X G a_q45
  ·exact l_q45.kp
  ·exact PySem.W.mg_of X G a_q46
  ·exact l_q46.kp
  ·exact PySem.W.mg_of X G a_q37
  ·exact l_q37.kp
  ·exact PySem.W.mg_of X G a_q26
  ·exact l_q26.kp
  ·exact⟨a_q38,i_q38,l_q38.kp⟩
  ·exact⟨a_q34,i_q34,l_q34.kp⟩
  ·exact⟨a_q12,i_q12,l_q12.kp⟩
  ·exact⟨a_q39,i_q39,l_q39.kp⟩
  ·exact⟨a_q13,i_q13,l_q13.kp⟩
  ·exact⟨a_q15,i_q15,l_q15.kp⟩
  ·exact⟨a_q2,i_q2,l_q2.kp⟩
  ·exact⟨a_q16,i_q16,l_q16.kp⟩
  ·exact⟨a_q17,i_q17,l_q17.kp⟩
  ·exact⟨a_q18,i_q18,l_q18.kp⟩
  ·exact⟨a_q10,i_q10,l_q10.kp⟩
  ·exact⟨a_q7,i_q7,l_q7.kp⟩
  ·exact⟨a_q0,i_q0,l_q0.kp⟩
  ·exact⟨a_q40,i_q40,l_q40.kp⟩
  ·exact⟨a_q19,i_q19,l_q19.kp⟩
  ·exact⟨a_q3,i_q3,l_q3.kp⟩
  ·exact⟨a_q20,i_q20,l_q20.kp⟩
  ·exact⟨a_q21,i_q21,l_q21.kp⟩
  ·exact⟨a_q27,i_q27,l_q27.kp⟩
  ·exact⟨a_q28,i_q28,l_q28.kp⟩
  ·exact⟨a_q29,i_q29,l_q29.kp⟩
  ·exact PySem.W.mg_of X G a_q35
  ·exact ld_q35.kp
  ·exact PySem.W.mg_of X G a_q41
  ·exact l_q41.kp
  ·exact PySem.W.mg_of X G a_q47
  ·exact l_q47.kp
  ·exact PySem.W.mg_of X G a_q48
  ·exact l_q48.kp
  ·exact PySem.W.mg_of X G a_q22
  ·exact l_q22.kp
  ·exact PySem.W.mg_of X G a_q11
  ·exact l_q11.kp
  ·exact⟨a_q49,i_q49,l_q49.kp⟩
  ·exact⟨a_q23,i_q23,l_q23.kp⟩
  ·exact⟨a_q24,i_q24,l_q24.kp⟩
  ·exact⟨a_q6,i_q6,l_q6.kp⟩
  ·exact⟨a_q4,i_q4,l_q4.kp⟩
  ·exact PySem.W.mg_of X G a_q50
  ·exact l_q50.kp
  ·exact PySem.W.mg_of X G a_q43
  ·exact l_q43.kp
  ·exact PySem.W.mg_of X G a_q30
  ·exact l_q30.kp
  ·exact PySem.W.mg_of X G a_q36
  ·exact l_q36.kp
  ·exact⟨a_q1,i_q1,l_q1.kp⟩
  ·exact⟨a_q8,i_q8,l_q8.kp⟩
  ·exact⟨a_q5,i_q5,l_q5.kp⟩
  ·exact⟨a_q9,i_q9,l_q9.kp⟩
  ·exact PySem.W.mg_of X G a_q51
  ·exact l_q51.kp
  ·exact PySem.W.mg_of X G a_q55
  ·exact l_q55.kp
  ·exact PySem.W.mg_of X G a_q56
  ·exact l_q56.kp
  ·exact PySem.W.mg_of X G a_Lsign
  ·exact l_Lsign.kp
  ·exact PySem.W.mg_of X G a_q52
  ·exact l_q52.kp
  ·exact PySem.W.mg_of X G a_q53
  ·exact l_q53.kp
  ·exact PySem.W.mg_of X G a_Lcost
  ·exact l_Lcost.kp
  ·exact PySem.W.mg_of X G a_q54
  ·exact l_q54.kp
  ·exact PySem.W.mg_of X G a_q57
  ·exact l_q57.kp
  ·exact PySem.W.mg_of X G a_Lopen
  ·exact l_Lopen.kp
  ·exact PySem.W.mg_of X G a_Lways
  ·exact l_Lways.kp
  ·exact PySem.W.mg_of X G a_q25
  ·exact l_q25.kp
  ·exact PySem.W.mg_of X G a_Lmet
  ·exact l_Lmet.kp
  ·exact PySem.W.mg_of X G a_Lall
  ·exact l_Lall.kp
  ·exact PySem.W.mg_of X G a_q44
  ·exact l_q44.kp
  ·exact PySem.W.mg_of X G a_law
  ·exact l_law.kp
  ·exact PySem.W.mg_of X G aC_Floor
  ·exact⟨pg_Floor,hd_Floor,po_Floor,sa_Floor⟩
  ·exact n_Floor_wide
  ·exact n_Floor_high
  ·exact n_Floor_lines
  ·exact n_Floor_signs
  ·exact⟨mk_Floor,a_q33,i_q33,kc_Floor⟩
  ·exact PySem.W.mg_of X G aC_Cart
  ·exact⟨pg_Cart,hd_Cart,po_Cart,sa_Cart⟩
  ·exact n_Cart_full
  ·exact⟨mk_Cart,as_Cart_init,i_q14,kc_Cart⟩
  ·exact PySem.W.mg_of X G aC_Crawler
  ·exact⟨pg_Crawler,hd_Crawler,po_Crawler,sa_Crawler⟩
  ·exact n_Crawler_full
  ·exact⟨mk_Crawler,as_Crawler_init,i_q14,kc_Crawler⟩
  ·exact PySem.W.mg_of X G aC_Runner
  ·exact⟨pg_Runner,hd_Runner,po_Runner,sa_Runner⟩
  ·exact n_Runner_full
  ·exact⟨mk_Runner,as_Runner_init,i_q14,kc_Runner⟩
  ·exact PySem.W.mg_of X G aC_Carrier
  ·exact⟨pg_Carrier,hd_Carrier,po_Carrier,sa_Carrier⟩
  ·exact n_Carrier_full
  ·exact⟨mk_Carrier,a_q14,i_q14,kc_Carrier⟩
  ·exact PySem.W.mg_of X G aC_Book
  ·exact⟨pg_Book,hd_Book,po_Book,sa_Book⟩
  ·exact n_Book_ways
  ·exact⟨mk_Book,a_q42,i_q42,kc_Book⟩
  ·exact PySem.W.mg_of X G aC_Spread
  ·exact⟨pg_Spread,hd_Spread,po_Spread,sa_Spread⟩
  ·exact n_Spread_floor
  ·exact n_Spread_mover
  ·exact n_Spread_booked
  ·exact n_Spread_number
  ·exact n_Spread_stops
  ·exact n_Spread_known
  ·exact⟨mk_Spread,a_q31,i_q31,kc_Spread⟩
  ·exact⟨as_Cart_may_stand,i_q2,l_q2.kp⟩
  ·exact⟨as_Cart_gain,i_q16,l_q16.kp⟩
  ·exact⟨as_Cart_fare,i_q17,l_q17.kp⟩
  ·exact⟨as_Cart_cost,i_q18,l_q18.kp⟩
  ·exact⟨as_Cart_steps,i_q10,l_q10.kp⟩
  ·exact⟨as_Cart_stayed,i_q7,l_q7.kp⟩
  ·exact⟨as_Cart_fare_if_standing,i_q0,l_q0.kp⟩
  ·exact⟨as_Crawler_cost,i_q18,l_q18.kp⟩
  ·exact⟨as_Crawler_steps,i_q10,l_q10.kp⟩
  ·exact⟨as_Crawler_stayed,i_q7,l_q7.kp⟩
  ·exact⟨as_q21_if_standing,i_q0,l_q0.kp⟩
  ·exact⟨as_Runner_may_stand,i_q2,l_q2.kp⟩
  ·exact⟨as_Runner_cost,i_q18,l_q18.kp⟩
  ·exact⟨as_Runner_steps,i_q10,l_q10.kp⟩
  ·exact⟨as_Runner_stayed,i_q7,l_q7.kp⟩
  ·exact⟨as_q29_if_standing,i_q0,l_q0.kp⟩
  ·exact PySem.W.mg_of X G aC_NoCarrier
  ·exact⟨er_NoCarrier⟩
  ·exact PySem.W.mg_of X G aC_FloorError
  ·exact PySem.W.mg_of X G aC_Meets
  ·exact xm_Meets_Meets
  ·exact cgx
  ·exact ctx
  ·exact ca_Cart
  ·exact cm_Cart
  ·exact is_Cart_Carrier
  ·exact is_Cart_Cart
  ·exact is_Cart_Crawler
  ·exact is_Cart_Runner
  ·exact ca_Crawler
  ·exact cm_Crawler
  ·exact is_Crawler_Carrier
  ·exact is_Crawler_Cart
  ·exact is_Crawler_Crawler
  ·exact is_Crawler_Runner
  ·exact ca_Runner
  ·exact cm_Runner
  ·exact is_Runner_Carrier
  ·exact is_Runner_Cart
  ·exact is_Runner_Crawler
  ·exact is_Runner_Runner
  ·exact ca_Carrier
  ·exact cm_Carrier
  ·exact is_Carrier_Carrier
  ·exact is_Carrier_Cart
  ·exact is_Carrier_Crawler
  ·exact is_Carrier_Runner
  ·exact xn_Meets
  ·exact xi_Meets
  ·exact xf_Meets
  ·exact xt_sa
  ·exact xt_mro
  ·exact xt_dict
  ·exact xt_no
  ·exact xt_hd
  ·exact fun H=>.inr ⟨_,_,_,lk_KINDS,rfl,rfl,(show (3:Nat)≤sizeLine by rw [sizeLine_eq];decide),.cons ⟨_,rfl⟩ (.cons ⟨_,rfl⟩ (.cons ⟨_,rfl⟩  .nil))⟩
  ·exact fun H=>.inr ⟨_,_,_,lk_COMMON_SIGNS,rfl,rfl,(show (3:Nat)≤sizeLine by rw [sizeLine_eq];decide),.cons ⟨_,rfl⟩ (.cons ⟨_,rfl⟩ (.cons ⟨_,rfl⟩  .nil))⟩
 obtain⟨fd,F⟩:=l_law
 refine⟨fd,?bd,fun base _ _=>all_fn T
  (l_q32.b fun _ _ _ _ _ _ us hl=>match us,hl with | [_,_],_=>rfl)
  (l_q45.b fun _ _ _ _ _ _ us hl=>match us,hl with | [_],_=>rfl)
  (l_q46.b fun _ _ _ _ _ _ us hl=>match us,hl with | [_,_,_],_=>rfl)
  (l_q37.b fun _ _ _ _ _ _ us hl=>match us,hl with | [_,_],_=>rfl)
  (l_q26.b fun _ _ _ _ _ _ us hl=>match us,hl with | [_],_=>rfl)
  (l_q33.b fun _ _ _ _ _ _ us hl=>match us,hl with | [_,_],_=>rfl)
  (l_q38.b fun _ _ _ _ _ _ us hl=>match us,hl with | [_,_],_=>rfl)
  (l_q34.b fun _ _ _ _ _ _ us hl=>match us,hl with | [_,_],_=>rfl)
  (l_q12.b fun _ _ _ _ _ _ us hl=>match us,hl with | [_,_],_=>rfl)
  (l_q39.b fun _ _ _ _ _ _ us hl=>match us,hl with | [_,_],_=>rfl)
  (l_q13.b fun _ _ _ _ _ _ us hl=>match us,hl with | [_,_],_=>rfl)
  (l_q14.b fun _ _ _ _ _ _ us hl=>match us,hl with | [_,_],_=>rfl)
  (l_q15.b fun _ _ _ _ _ _ us hl=>match us,hl with | [_],_=>rfl)
  (l_q2.b fun _ _ _ _ _ _ us hl=>match us,hl with | [_,_],_=>rfl)
  (l_q16.b fun _ _ _ _ _ _ us hl=>match us,hl with | [_,_],_=>rfl)
  (l_q17.b fun _ _ _ _ _ _ us hl=>match us,hl with | [_,_,_,_],_=>rfl)
  (l_q18.b fun _ _ _ _ _ _ us hl=>match us,hl with | [_,_,_,_],_=>rfl)
  (l_q10.b fun _ _ _ _ _ _ us hl=>match us,hl with | [_,_,_],_=>rfl)
  (l_q7.b fun _ _ _ _ _ _ us hl=>match us,hl with | [_,_,_],_=>rfl)
  (l_q0.b fun _ _ _ _ _ _ us hl=>match us,hl with | [_,_,_,_],_=>rfl)
  (l_q40.b fun _ _ _ _ _ _ us hl=>match us,hl with | [_],_=>rfl)
  (l_q19.b fun _ _ _ _ _ _ us hl=>match us,hl with | [_],_=>rfl)
  (l_q3.b fun _ _ _ _ _ _ us hl=>match us,hl with | [_,_],_=>rfl)
  (l_q20.b fun _ _ _ _ _ _ us hl=>match us,hl with | [_,_],_=>rfl)
  (l_q21.b fun _ _ _ _ _ _ us hl=>match us,hl with | [_,_,_,_],_=>rfl)
  (l_q27.b fun _ _ _ _ _ _ us hl=>match us,hl with | [_],_=>rfl)
  (l_q28.b fun _ _ _ _ _ _ us hl=>match us,hl with | [_,_],_=>rfl)
  (l_q29.b fun _ _ _ _ _ _ us hl=>match us,hl with | [_,_,_,_],_=>rfl)
  (ld_q35.b fun _ _ _ _ _ _ _ us hl=>match us,hl with | [_,_],_=>⟨_,rfl,rfl⟩)
  (l_q41.b fun _ _ _ _ _ _ us hl=>match us,hl with | [_],_=>rfl)
  (l_q47.b fun _ _ _ _ _ _ us hl=>match us,hl with | [_,_],_=>rfl)
  (l_q48.b fun _ _ _ _ _ _ us hl=>match us,hl with | [_,_],_=>rfl)
  (l_q22.b fun _ _ _ _ _ _ us hl=>match us,hl with | [_,_,_],_=>rfl)
  (l_q11.b fun _ _ _ _ _ _ us hl=>match us,hl with | [_,_],_=>rfl)
  (l_q42.b fun _ _ _ _ _ _ us hl=>match us,hl with | [_],_=>rfl)
  (l_q49.b fun _ _ _ _ _ _ us hl=>match us,hl with | [_,_,_],_=>rfl)
  (l_q23.b fun _ _ _ _ _ _ us hl=>match us,hl with | [_],_=>rfl)
  (l_q24.b fun _ _ _ _ _ _ us hl=>match us,hl with | [_,_,_],_=>rfl)
  (l_q6.b fun _ _ _ _ _ _ us hl=>match us,hl with | [_,_],_=>rfl)
  (l_q4.b fun _ _ _ _ _ _ us hl=>match us,hl with | [_,_],_=>rfl)
  (l_q50.b fun _ _ _ _ _ _ us hl=>match us,hl with | [_,_,_],_=>rfl)
  (l_q43.b fun _ _ _ _ _ _ us hl=>match us,hl with | [_,_,_],_=>rfl)
  (l_q30.b fun _ _ _ _ _ _ us hl=>match us,hl with | [_,_,_],_=>rfl)
  (l_q36.b fun _ _ _ _ _ _ us hl=>match us,hl with | [_,_,_,_,_,_,_],_=>rfl)
  (l_q31.b fun _ _ _ _ _ _ us hl=>match us,hl with | [_,_,_,_,_,_],_=>rfl)
  (l_q1.b fun _ _ _ _ _ _ us hl=>match us,hl with | [_,_,_],_=>rfl)
  (l_q8.b fun _ _ _ _ _ _ us hl=>match us,hl with | [_,_,_,_],_=>rfl)
  (l_q5.b fun _ _ _ _ _ _ us hl=>match us,hl with | [_,_],_=>rfl)
  (l_q9.b fun _ _ _ _ _ _ us hl=>match us,hl with | [_,_,_],_=>rfl)
  (l_q51.b fun _ _ _ _ _ _ us hl=>match us,hl with | [_,_],_=>rfl)
  (l_q55.b fun _ _ _ _ _ _ us hl=>match us,hl with | [_,_],_=>rfl)
  (l_q56.b fun _ _ _ _ _ _ us hl=>match us,hl with | [_],_=>rfl)
  (l_Lsign.b fun _ _ _ _ _ _ us hl=>match us,hl with | [_,_],_=>rfl)
  (l_q52.b fun _ _ _ _ _ _ us hl=>match us,hl with | [_,_],_=>rfl)
  (l_q53.b fun _ _ _ _ _ _ us hl=>match us,hl with | [_,_],_=>rfl)
  (l_Lcost.b fun _ _ _ _ _ _ us hl=>match us,hl with | [_,_,_,_],_=>rfl)
  (l_q54.b fun _ _ _ _ _ _ us hl=>match us,hl with | [_,_,_,_,_],_=>rfl)
  (l_q57.b fun _ _ _ _ _ _ us hl=>match us,hl with | [_,_],_=>rfl)
  (l_Lopen.b fun _ _ _ _ _ _ us hl=>match us,hl with | [_,_,_,_,_],_=>rfl)
  (l_Lways.b fun _ _ _ _ _ _ us hl=>match us,hl with | [_,_,_,_],_=>rfl)
  (l_q25.b fun _ _ _ _ _ _ us hl=>match us,hl with | [_,_],_=>rfl)
  (l_Lmet.b fun _ _ _ _ _ _ us hl=>match us,hl with | [_,_,_],_=>rfl)
  (l_Lall.b fun _ _ _ _ _ _ us hl=>match us,hl with | [_,_,_,_,_,_,_,_],_=>rfl)
  (l_q44.b fun _ _ _ _ _ _ us hl=>match us,hl with | [_],_=>rfl)
  F⟩
 obtain⟨_,_,_,_,_,_,_,_,_,rfl,_⟩:=F.ex
 exact fun s v=>.of_eq rfl
theorem walk {l:PySem.W.OpenLaw}{q:Program}{loose:List Str}{XP:(Str→Option Value)→Heap→Prop}{YP:World→Heap→Prop}{d:DefRec}{K:Params→PySem.W.Frag}(hn:l.most=some 63) (hdf:d.params.defaults=[])
  (hY:∀ (w:World) (h:Heap),YP w h→(K w.params).In h)
  (F:∀ (w:World) (mg:Str→Option Value) (fa:Addr) (h:Heap),(K w.params).In h→h.Ns mainGlobals mg→mg d.name=some (.ref fa)→
   ∃ fd:FuncData,(∀ (s:Shared) (u:Value),BindsTo s fd ⟨[u],[]⟩ [("_law_script",u)])∧∀ base:Heap,(K w.params).In base→base.Ns mainGlobals mg→FnOk l.prog w (K w.params) mg base CX0 12 fa fd ["_law_script"] (spLaw (K w.params))):
  PySem.W.WalkO q loose XP YP l.row.toRowW d [] (fun f vs=>PySem.call f vs):=
 L2.z593 (n:=63) (k:=12) (x:="_law_script") (CX:=fun _=>CX0) (sp:=fun w=>spLaw (K w.params)) hn (by decide) hdf ⟨rfl,by decide,by decide⟩ hY F (fun _ _ a ns hl hb _ hS=>⟨a,ns,rfl,hS,hl,hb,fun _=>rfl⟩) fun _ _ _ _ _ z=>z
end Pf
open PySem PySem.W PyProof.Rows
set_option maxRecDepth 100000 in
set_option maxHeartbeats 0 in
theorem PySem.Challenge.cw_floorways_k18_whole_layers_holds : PySem.Challenge.rw_floorways_k18_whole_layers.Holds := by
 w_on;o_law;k_head;(case hw=>w_witness2)
 k_fill
 refine Pf.walk (l:=PySem.Challenge.rw_floorways_k18_whole_layers) rfl rfl (fun w h Y=>PySem.W.kIn_of Y) ?F
 case F=>
  intro w mg fa h KX G hmg
  refine' Pf.all_mk KX G hmg ?aC_Floor ?pg_Floor ?hd_Floor ?po_Floor ?sa_Floor ?kc_Floor ?mk_Floor ?n_Floor_wide ?n_Floor_high ?n_Floor_lines ?n_Floor_signs ?aC_Cart ?pg_Cart ?hd_Cart ?po_Cart ?sa_Cart ?kc_Cart ?mk_Cart ?n_Cart_full ?aC_Crawler ?pg_Crawler ?hd_Crawler ?po_Crawler ?sa_Crawler ?kc_Crawler ?mk_Crawler ?n_Crawler_full ?aC_Runner ?pg_Runner ?hd_Runner ?po_Runner ?sa_Runner ?kc_Runner ?mk_Runner ?n_Runner_full ?aC_Carrier ?pg_Carrier ?hd_Carrier ?po_Carrier ?sa_Carrier ?kc_Carrier ?mk_Carrier ?n_Carrier_full ?aC_Book ?pg_Book ?hd_Book ?po_Book ?sa_Book ?kc_Book ?mk_Book ?n_Book_ways ?aC_Spread ?pg_Spread ?hd_Spread ?po_Spread ?sa_Spread ?kc_Spread ?mk_Spread ?n_Spread_floor ?n_Spread_mover ?n_Spread_booked ?n_Spread_number ?n_Spread_stops ?n_Spread_known ?aC_NoCarrier ?er_NoCarrier ?aC_FloorError ?aC_Meets ?xm_Meets_Meets ?x_KINDS ?lk_KINDS ?x_COMMON_SIGNS ?lk_COMMON_SIGNS ?cgx ?ctx ?ca_Cart ?cm_Cart ?is_Cart_Carrier ?is_Cart_Cart ?is_Cart_Crawler ?is_Cart_Runner ?ca_Crawler ?cm_Crawler ?is_Crawler_Carrier ?is_Crawler_Cart ?is_Crawler_Crawler ?is_Crawler_Runner ?ca_Runner ?cm_Runner ?is_Runner_Carrier ?is_Runner_Cart ?is_Runner_Crawler ?is_Runner_Runner ?ca_Carrier ?cm_Carrier ?is_Carrier_Carrier ?is_Carrier_Cart ?is_Carrier_Crawler ?is_Carrier_Runner ?xn_Meets ?xi_Meets ?xf_Meets ?xt_sa ?xt_mro ?xt_dict ?xt_no ?xt_hd ?i_q32 ?l_q32 ?a_q45 ?l_q45 ?a_q46 ?l_q46 ?a_q37 ?l_q37 ?a_q26 ?l_q26 ?a_q33 ?i_q33 ?l_q33 ?a_q38 ?i_q38 ?l_q38 ?a_q34 ?i_q34 ?l_q34 ?a_q12 ?i_q12 ?l_q12 ?a_q39 ?i_q39 ?l_q39 ?a_q13 ?i_q13 ?l_q13 ?a_q14 ?i_q14 ?l_q14 ?a_q15 ?i_q15 ?l_q15 ?a_q2 ?i_q2 ?l_q2 ?a_q16 ?i_q16 ?l_q16 ?a_q17 ?i_q17 ?l_q17 ?a_q18 ?i_q18 ?l_q18 ?a_q10 ?i_q10 ?l_q10 ?a_q7 ?i_q7 ?l_q7 ?a_q0 ?i_q0 ?l_q0 ?a_q40 ?i_q40 ?l_q40 ?a_q19 ?i_q19 ?l_q19 ?a_q3 ?i_q3 ?l_q3 ?a_q20 ?i_q20 ?l_q20 ?a_q21 ?i_q21 ?l_q21 ?a_q27 ?i_q27 ?l_q27 ?a_q28 ?i_q28 ?l_q28 ?a_q29 ?i_q29 ?l_q29 ?a_q35 ?ld_q35 ?a_q41 ?l_q41 ?a_q47 ?l_q47 ?a_q48 ?l_q48 ?a_q22 ?l_q22 ?a_q11 ?l_q11 ?a_q42 ?i_q42 ?l_q42 ?a_q49 ?i_q49 ?l_q49 ?a_q23 ?i_q23 ?l_q23 ?a_q24 ?i_q24 ?l_q24 ?a_q6 ?i_q6 ?l_q6 ?a_q4 ?i_q4 ?l_q4 ?a_q50 ?l_q50 ?a_q43 ?l_q43 ?a_q30 ?l_q30 ?a_q36 ?l_q36 ?a_q31 ?i_q31 ?l_q31 ?a_q1 ?i_q1 ?l_q1 ?a_q8 ?i_q8 ?l_q8 ?a_q5 ?i_q5 ?l_q5 ?a_q9 ?i_q9 ?l_q9 ?a_q51 ?l_q51 ?a_q55 ?l_q55 ?a_q56 ?l_q56 ?a_Lsign ?l_Lsign ?a_q52 ?l_q52 ?a_q53 ?l_q53 ?a_Lcost ?l_Lcost ?a_q54 ?l_q54 ?a_q57 ?l_q57 ?a_Lopen ?l_Lopen ?a_Lways ?l_Lways ?a_q25 ?l_q25 ?a_Lmet ?l_Lmet ?a_Lall ?l_Lall ?a_q44 ?l_q44 ?a_law ?l_law ?as_Cart_may_stand ?as_Cart_gain ?as_Cart_fare ?as_Cart_cost ?as_Cart_steps ?as_Cart_stayed ?as_Cart_fare_if_standing ?as_Crawler_cost ?as_Crawler_steps ?as_Crawler_stayed ?as_q21_if_standing ?as_Runner_may_stand ?as_Runner_cost ?as_Runner_steps ?as_Runner_stayed ?as_q29_if_standing ?as_Cart_init ?as_Crawler_init ?as_Runner_init ?z_len ?z_range ?z_isinstance ?z_all ?z_int ?z_bool ?z_str ?z_list ?z_tuple ?z_dict ?z_min ?z_max ?z_sorted ?z_enumerate ?z_divmod ?z_ValueError ?x_WALL ?x_CHARGER ?x_SIGNS ?x_MOST_ROWS ?x_MOST_SIGNS ?x_MOST_FULL ?x_ROUGH ?x_LANE
  (case aC_Floor=>k_is)
  (case pg_Floor=>k_is)
  (case hd_Floor=>k_is)
  (case po_Floor=>k_is)
  (case sa_Floor=>k_is)
  (case kc_Floor=>k_is)
  (case mk_Floor=>k_is)
  (case n_Floor_wide=>k_is)
  (case n_Floor_high=>k_is)
  (case n_Floor_lines=>k_is)
  (case n_Floor_signs=>k_is)
  (case aC_Cart=>k_is)
  (case pg_Cart=>k_is)
  (case hd_Cart=>k_is)
  (case po_Cart=>k_is)
  (case sa_Cart=>k_is)
  (case kc_Cart=>k_is)
  (case mk_Cart=>k_is)
  (case n_Cart_full=>k_is)
  (case aC_Crawler=>k_is)
  (case pg_Crawler=>k_is)
  (case hd_Crawler=>k_is)
  (case po_Crawler=>k_is)
  (case sa_Crawler=>k_is)
  (case kc_Crawler=>k_is)
  (case mk_Crawler=>k_is)
  (case n_Crawler_full=>k_is)
  (case aC_Runner=>k_is)
  (case pg_Runner=>k_is)
  (case hd_Runner=>k_is)
  (case po_Runner=>k_is)
  (case sa_Runner=>k_is)
  (case kc_Runner=>k_is)
  (case mk_Runner=>k_is)
  (case n_Runner_full=>k_is)
  (case aC_Carrier=>k_is)
  (case pg_Carrier=>k_is)
  (case hd_Carrier=>k_is)
  (case po_Carrier=>k_is)
  (case sa_Carrier=>k_is)
  (case kc_Carrier=>k_is)
  (case mk_Carrier=>k_is)
  (case n_Carrier_full=>k_is)
  (case aC_Book=>k_is)
  (case pg_Book=>k_is)
  (case hd_Book=>k_is)
  (case po_Book=>k_is)
  (case sa_Book=>k_is)
  (case kc_Book=>k_is)
  (case mk_Book=>k_is)
  (case n_Book_ways=>k_is)
  (case aC_Spread=>k_is)
  (case pg_Spread=>k_is)
  (case hd_Spread=>k_is)
  (case po_Spread=>k_is)
  (case sa_Spread=>k_is)
  (case kc_Spread=>k_is)
  (case mk_Spread=>k_is)
  (case n_Spread_floor=>k_is)
  (case n_Spread_mover=>k_is)
  (case n_Spread_booked=>k_is)
  (case n_Spread_number=>k_is)
  (case n_Spread_stops=>k_is)
  (case n_Spread_known=>k_is)
  (case aC_NoCarrier=>k_is)
  (case er_NoCarrier=>first | k_is | kit_is | kernel_rfl)
  (case aC_FloorError=>k_is)
  (case aC_Meets=>k_is)
  (case xm_Meets_Meets=>first | k_is | kit_is | kernel_rfl)
  (case x_KINDS=>k_is)
  (case lk_KINDS=>k_is)
  (case x_COMMON_SIGNS=>k_is)
  (case lk_COMMON_SIGNS=>k_is)
  (case cgx=>k_is)
  (case ctx=>k_is)
  (case ca_Cart=>k_is)
  (case cm_Cart=>k_is)
  (case is_Cart_Carrier=>first | k_is | kit_is | kernel_rfl)
  (case is_Cart_Cart=>first | k_is | kit_is | kernel_rfl)
  (case is_Cart_Crawler=>first | k_is | kit_is | kernel_rfl)
  (case is_Cart_Runner=>first | k_is | kit_is | kernel_rfl)
  (case ca_Crawler=>k_is)
  (case cm_Crawler=>k_is)
  (case is_Crawler_Carrier=>first | k_is | kit_is | kernel_rfl)
  (case is_Crawler_Cart=>first | k_is | kit_is | kernel_rfl)
  (case is_Crawler_Crawler=>first | k_is | kit_is | kernel_rfl)
  (case is_Crawler_Runner=>first | k_is | kit_is | kernel_rfl)
  (case ca_Runner=>k_is)
  (case cm_Runner=>k_is)
  (case is_Runner_Carrier=>first | k_is | kit_is | kernel_rfl)
  (case is_Runner_Cart=>first | k_is | kit_is | kernel_rfl)
  (case is_Runner_Crawler=>first | k_is | kit_is | kernel_rfl)
  (case is_Runner_Runner=>first | k_is | kit_is | kernel_rfl)
  (case ca_Carrier=>k_is)
  (case cm_Carrier=>k_is)
  (case is_Carrier_Carrier=>first | k_is | kit_is | kernel_rfl)
  (case is_Carrier_Cart=>first | k_is | kit_is | kernel_rfl)
  (case is_Carrier_Crawler=>first | k_is | kit_is | kernel_rfl)
  (case is_Carrier_Runner=>first | k_is | kit_is | kernel_rfl)
  (case xn_Meets=>k_is)
  (case xi_Meets=>first | k_is | kit_is | kernel_rfl)
  (case xf_Meets=>first | k_is | kit_is | kernel_rfl)
  (case xt_sa=>first | k_is | kit_is | kernel_rfl)
  (case xt_mro=>first | k_is | kit_is | kernel_rfl)
  (case xt_dict=>first | k_is | kit_is | kernel_rfl)
  (case xt_no=>first | k_is | kit_is | kernel_rfl)
  (case xt_hd=>first | k_is | kit_is | kernel_rfl)
  (case i_q32=>k_is)
  (case l_q32=>exact L2.fn_mk (by k_is) (by k_is) (by k_is))
  (case a_q45=>k_is)
  (case l_q45=>exact L2.fn_mk (by k_is) (by k_is) (by k_is))
  (case a_q46=>k_is)
  (case l_q46=>exact L2.fn_mk (by k_is) (by k_is) (by k_is))
  (case a_q37=>k_is)
  (case l_q37=>exact L2.fn_mk (by k_is) (by k_is) (by k_is))
  (case a_q26=>k_is)
  (case l_q26=>exact L2.fn_mk (by k_is) (by k_is) (by k_is))
  (case a_q33=>k_is)
  (case i_q33=>k_is)
  (case l_q33=>exact L2.fn_mk (by k_is) (by k_is) (by k_is))
  (case a_q38=>k_is)
  (case i_q38=>k_is)
  (case l_q38=>exact L2.fn_mk (by k_is) (by k_is) (by k_is))
  (case a_q34=>k_is)
  (case i_q34=>k_is)
  (case l_q34=>exact L2.fn_mk (by k_is) (by k_is) (by k_is))
  (case a_q12=>k_is)
  (case i_q12=>k_is)
  (case l_q12=>exact L2.fn_mk (by k_is) (by k_is) (by k_is))
  (case a_q39=>k_is)
  (case i_q39=>k_is)
  (case l_q39=>exact L2.fn_mk (by k_is) (by k_is) (by k_is))
  (case a_q13=>k_is)
  (case i_q13=>k_is)
  (case l_q13=>exact L2.fn_mk (by k_is) (by k_is) (by k_is))
  (case a_q14=>k_is)
  (case i_q14=>k_is)
  (case l_q14=>exact L2.fn_mk (by k_is) (by k_is) (by k_is))
  (case a_q15=>k_is)
  (case i_q15=>k_is)
  (case l_q15=>exact L2.fn_mk (by k_is) (by k_is) (by k_is))
  (case a_q2=>k_is)
  (case i_q2=>k_is)
  (case l_q2=>exact L2.fn_mk (by k_is) (by k_is) (by k_is))
  (case a_q16=>k_is)
  (case i_q16=>k_is)
  (case l_q16=>exact L2.fn_mk (by k_is) (by k_is) (by k_is))
  (case a_q17=>k_is)
  (case i_q17=>k_is)
  (case l_q17=>exact L2.fn_mk (by k_is) (by k_is) (by k_is))
  (case a_q18=>k_is)
  (case i_q18=>k_is)
  (case l_q18=>exact L2.fn_mk (by k_is) (by k_is) (by k_is))
  (case a_q10=>k_is)
  (case i_q10=>k_is)
  (case l_q10=>exact L2.fn_mk (by k_is) (by k_is) (by k_is))
  (case a_q7=>k_is)
  (case i_q7=>k_is)
  (case l_q7=>exact L2.fn_mk (by k_is) (by k_is) (by k_is))
  (case a_q0=>k_is)
  (case i_q0=>k_is)
  (case l_q0=>exact L2.fn_mk (by k_is) (by k_is) (by k_is))
  (case a_q40=>k_is)
  (case i_q40=>k_is)
  (case l_q40=>exact L2.fn_mk (by k_is) (by k_is) (by k_is))
  (case a_q19=>k_is)
  (case i_q19=>k_is)
  (case l_q19=>exact L2.fn_mk (by k_is) (by k_is) (by k_is))
  (case a_q3=>k_is)
  (case i_q3=>k_is)
  (case l_q3=>exact L2.fn_mk (by k_is) (by k_is) (by k_is))
  (case a_q20=>k_is)
  (case i_q20=>k_is)
  (case l_q20=>exact L2.fn_mk (by k_is) (by k_is) (by k_is))
  (case a_q21=>k_is)
  (case i_q21=>k_is)
  (case l_q21=>exact L2.fn_mk (by k_is) (by k_is) (by k_is))
  (case a_q27=>k_is)
  (case i_q27=>k_is)
  (case l_q27=>exact L2.fn_mk (by k_is) (by k_is) (by k_is))
  (case a_q28=>k_is)
  (case i_q28=>k_is)
  (case l_q28=>exact L2.fn_mk (by k_is) (by k_is) (by k_is))
  (case a_q29=>k_is)
  (case i_q29=>k_is)
  (case l_q29=>exact L2.fn_mk (by k_is) (by k_is) (by k_is))
  (case a_q35=>k_is)
  (case ld_q35=>exact L2.fnd_mk (by k_is) (by k_is) (by k_is) (by k_is))
  (case a_q41=>k_is)
  (case l_q41=>exact L2.fn_mk (by k_is) (by k_is) (by k_is))
  (case a_q47=>k_is)
  (case l_q47=>exact L2.fn_mk (by k_is) (by k_is) (by k_is))
  (case a_q48=>k_is)
  (case l_q48=>exact L2.fn_mk (by k_is) (by k_is) (by k_is))
  (case a_q22=>k_is)
  (case l_q22=>exact L2.fn_mk (by k_is) (by k_is) (by k_is))
  (case a_q11=>k_is)
  (case l_q11=>exact L2.fn_mk (by k_is) (by k_is) (by k_is))
  (case a_q42=>k_is)
  (case i_q42=>k_is)
  (case l_q42=>exact L2.fn_mk (by k_is) (by k_is) (by k_is))
  (case a_q49=>k_is)
  (case i_q49=>k_is)
  (case l_q49=>exact L2.fn_mk (by k_is) (by k_is) (by k_is))
  (case a_q23=>k_is)
  (case i_q23=>k_is)
  (case l_q23=>exact L2.fn_mk (by k_is) (by k_is) (by k_is))
  (case a_q24=>k_is)
  (case i_q24=>k_is)
  (case l_q24=>exact L2.fn_mk (by k_is) (by k_is) (by k_is))
  (case a_q6=>k_is)
  (case i_q6=>k_is)
  (case l_q6=>exact L2.fn_mk (by k_is) (by k_is) (by k_is))
  (case a_q4=>k_is)
  (case i_q4=>k_is)
  (case l_q4=>exact L2.fn_mk (by k_is) (by k_is) (by k_is))
  (case a_q50=>k_is)
  (case l_q50=>exact L2.fn_mk (by k_is) (by k_is) (by k_is))
  (case a_q43=>k_is)
  (case l_q43=>exact L2.fn_mk (by k_is) (by k_is) (by k_is))
  (case a_q30=>k_is)
  (case l_q30=>exact L2.fn_mk (by k_is) (by k_is) (by k_is))
  (case a_q36=>k_is)
  (case l_q36=>exact L2.fn_mk (by k_is) (by k_is) (by k_is))
  (case a_q31=>k_is)
  (case i_q31=>k_is)
  (case l_q31=>exact L2.fn_mk (by k_is) (by k_is) (by k_is))
  (case a_q1=>k_is)
  (case i_q1=>k_is)
  (case l_q1=>exact L2.fn_mk (by k_is) (by k_is) (by k_is))
  (case a_q8=>k_is)
  (case i_q8=>k_is)
  (case l_q8=>exact L2.fn_mk (by k_is) (by k_is) (by k_is))
  (case a_q5=>k_is)
  (case i_q5=>k_is)
  (case l_q5=>exact L2.fn_mk (by k_is) (by k_is) (by k_is))
  (case a_q9=>k_is)
  (case i_q9=>k_is)
  (case l_q9=>exact L2.fn_mk (by k_is) (by k_is) (by k_is))
  (case a_q51=>k_is)
  (case l_q51=>exact L2.fn_mk (by k_is) (by k_is) (by k_is))
  (case a_q55=>k_is)
  (case l_q55=>exact L2.fn_mk (by k_is) (by k_is) (by k_is))
  (case a_q56=>k_is)
  (case l_q56=>exact L2.fn_mk (by k_is) (by k_is) (by k_is))
  (case a_Lsign=>k_is)
  (case l_Lsign=>exact L2.fn_mk (by k_is) (by k_is) (by k_is))
  (case a_q52=>k_is)
  (case l_q52=>exact L2.fn_mk (by k_is) (by k_is) (by k_is))
  (case a_q53=>k_is)
  (case l_q53=>exact L2.fn_mk (by k_is) (by k_is) (by k_is))
  (case a_Lcost=>k_is)
  (case l_Lcost=>exact L2.fn_mk (by k_is) (by k_is) (by k_is))
  (case a_q54=>k_is)
  (case l_q54=>exact L2.fn_mk (by k_is) (by k_is) (by k_is))
  (case a_q57=>k_is)
  (case l_q57=>exact L2.fn_mk (by k_is) (by k_is) (by k_is))
  (case a_Lopen=>k_is)
  (case l_Lopen=>exact L2.fn_mk (by k_is) (by k_is) (by k_is))
  (case a_Lways=>k_is)
  (case l_Lways=>exact L2.fn_mk (by k_is) (by k_is) (by k_is))
  (case a_q25=>k_is)
  (case l_q25=>exact L2.fn_mk (by k_is) (by k_is) (by k_is))
  (case a_Lmet=>k_is)
  (case l_Lmet=>exact L2.fn_mk (by k_is) (by k_is) (by k_is))
  (case a_Lall=>k_is)
  (case l_Lall=>exact L2.fn_mk (by k_is) (by k_is) (by k_is))
  (case a_q44=>k_is)
  (case l_q44=>exact L2.fn_mk (by k_is) (by k_is) (by k_is))
  (case a_law=>k_is)
  (case l_law=>exact L2.fn_mk (by k_is) (by k_is) (by k_is))
  (case as_Cart_may_stand=>k_is)
  (case as_Cart_gain=>k_is)
  (case as_Cart_fare=>k_is)
  (case as_Cart_cost=>k_is)
  (case as_Cart_steps=>k_is)
  (case as_Cart_stayed=>k_is)
  (case as_Cart_fare_if_standing=>k_is)
  (case as_Crawler_cost=>k_is)
  (case as_Crawler_steps=>k_is)
  (case as_Crawler_stayed=>k_is)
  (case as_q21_if_standing=>k_is)
  (case as_Runner_may_stand=>k_is)
  (case as_Runner_cost=>k_is)
  (case as_Runner_steps=>k_is)
  (case as_Runner_stayed=>k_is)
  (case as_q29_if_standing=>k_is)
  (case as_Cart_init=>k_is)
  (case as_Crawler_init=>k_is)
  (case as_Runner_init=>k_is)
  (case z_len=>k_is)
  (case z_range=>k_is)
  (case z_isinstance=>k_is)
  (case z_all=>k_is)
  (case z_int=>k_is)
  (case z_bool=>k_is)
  (case z_str=>k_is)
  (case z_list=>k_is)
  (case z_tuple=>k_is)
  (case z_dict=>k_is)
  (case z_min=>k_is)
  (case z_max=>k_is)
  (case z_sorted=>k_is)
  (case z_enumerate=>k_is)
  (case z_divmod=>k_is)
  (case z_ValueError=>k_is)
  (case x_WALL=>k_is)
  (case x_CHARGER=>k_is)
  (case x_SIGNS=>k_is)
  (case x_MOST_ROWS=>k_is)
  (case x_MOST_SIGNS=>k_is)
  (case x_MOST_FULL=>k_is)
  (case x_ROUGH=>k_is)
  (case x_LANE=>k_is)
